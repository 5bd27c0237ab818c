/- Several texts in one, one behind the other: BpduPut, BpduRefPut, SendMem, SpanNum, SendPure, SendAllPure, SendOncePure, SendRefOut, SendRefTcn, SendRefDet, TreeTwice. -/
import Derived.Test.YteplefdnnehdgaaDoorPk06
import Derived.Deep.DeepCutAuto
import Derived.Test.YteplefdnnehdgaaDoorPk03
import Derived.Test.YteplefdnnehdgaaDoorPk05
import Derived.Test.YteplefdnnehdgaaDoorPk01
import Derived.Test.YteplefdnnehdgaaDoorRows
import Derived.Lib.MinMax
import Derived.Test.YteplefdnnehdgaaDoorPk04

/- Put of a configuration, and the document's example. -/
namespace Go.Proofs.YteplefdnnehdgaaDoor
set_option maxRecDepth 100000
open Go.ChangeShapes Go.WideShapes Go.ChangeAt Go.RowKit
set_option linter.unusedVariables false

/-- The first 25 bytes of a configuration. -/
def bpHead (ch ak : Bool) (ro co br : Int) : List UInt8 := ((((beB 0 3 ++ beB 0 1) ++ beB (flI ch ak) 1) ++ beB ro 8) ++ beB co 4) ++ beB br 8

/-- The first bytes of a configuration, behind so many numbers of two bytes. -/
def bpPre (h : List UInt8) (po ag ma he de : Int) : Nat → List UInt8
  | 0 => h
  | 1 => h ++ beB po 2
  | 2 => (h ++ beB po 2) ++ beB ag 2
  | 3 => ((h ++ beB po 2) ++ beB ag 2) ++ beB ma 2
  | 4 => (((h ++ beB po 2) ++ beB ag 2) ++ beB ma 2) ++ beB he 2
  | _ => ((((h ++ beB po 2) ++ beB ag 2) ++ beB ma 2) ++ beB he 2) ++ beB de 2

/-- A configuration's bytes. -/
def bpB (ch ak : Bool) (ro co br po ag ma he de : Int) : List UInt8 := bpPre (bpHead ch ak ro co br) po ag ma he de 5

theorem bpHead_len (ch ak : Bool) (ro co br : Int) : (bpHead ch ak ro co br).length = 25 := by simp [bpHead, beB_len]

theorem bpB_len (ch ak : Bool) (ro co br po ag ma he de : Int) : (bpB ch ak ro co br po ag ma he de).length = 35 := by simp [bpB, bpPre, bpHead_len, beB_len]

/-- Behind so many rounds. -/
def PW (w : World) (h : List UInt8) (po ag ma he de : Int) (j : Nat) (b : Value) (wr : World) : Prop :=
  ∃ g, b = .slice (some ⟨g, 0, none⟩) (25 + 2 * j) (25 + 2 * j) ∧ w.heap.size ≤ g ∧ Bk wr g 5 ((bpPre h po ag ma he de j).map bc) ∧ Below w.heap.size w wr

theorem put_cfg (ch ak : Bool) (ro co br po ag ma he de : Int) (hin : BpIn ro co br po ag ma he de) (w : World) :
    Calls Tryd.prog 78 #[.agg #[.bool false, .bool ch, .bool ak, .int .u64 ro, .int .u32 co, .int .u64 br, .int .u16 po, .int .u16 ag, .int .u16 ma, .int .u16 he, .int .u16 de]] w (BPutEnd (bpB ch ak ro co br po ag ma he de) 35 w) := by
  obtain ⟨⟨r0, r1⟩, ⟨o0, o1⟩, ⟨b0, b1⟩, ⟨p0, p1⟩, ⟨a0, a1⟩, ⟨m0, m1⟩, ⟨h0, h1⟩, ⟨d0, d1⟩⟩ := hin
  obtain ⟨fl, hfl⟩ : ∃ fl, fl = flI ch ak := ⟨_, rfl⟩
  have fl0 := flI_lo ch ak
  rw [← hfl] at fl0
  obtain ⟨fl0, fl1⟩ := fl0
  have HFL := Lib.hid hfl
  clear hfl
  have ix0 : ∀ w : World, (Instr.index 102 (.agg #[.int .u16 po, .int .u16 ag, .int .u16 ma, .int .u16 he, .int .u16 de]) (.int .i64 0)).run Tryd.prog w = .ok (.int .u16 po) w := fun _ => by kernel_rfl
  have ix1 : ∀ w : World, (Instr.index 102 (.agg #[.int .u16 po, .int .u16 ag, .int .u16 ma, .int .u16 he, .int .u16 de]) (.int .i64 1)).run Tryd.prog w = .ok (.int .u16 ag) w := fun _ => by kernel_rfl
  have ix2 : ∀ w : World, (Instr.index 102 (.agg #[.int .u16 po, .int .u16 ag, .int .u16 ma, .int .u16 he, .int .u16 de]) (.int .i64 2)).run Tryd.prog w = .ok (.int .u16 ma) w := fun _ => by kernel_rfl
  have ix3 : ∀ w : World, (Instr.index 102 (.agg #[.int .u16 po, .int .u16 ag, .int .u16 ma, .int .u16 he, .int .u16 de]) (.int .i64 3)).run Tryd.prog w = .ok (.int .u16 he) w := fun _ => by kernel_rfl
  have ix4 : ∀ w : World, (Instr.index 102 (.agg #[.int .u16 po, .int .u16 ag, .int .u16 ma, .int .u16 he, .int .u16 de]) (.int .i64 4)).run Tryd.prog w = .ok (.int .u16 de) w := fun _ => by kernel_rfl
  go_enter Tryd.func78, Tryd.ntmps78
  go_wp2_with fail
  obtain ⟨w0, hB0, hb0, hs0, hw0⟩ := bboxed w false ch ak ro co br po ag ma he de
  rw [← hw0]
  clear hw0
  (with_reducible refine (put8 none 0 [] 0 0 0 3 3 0 (Lib.hid rfl) (by omega) (by omega) (by omega) (Lib.hid rfl) (by omega) _ (RB.nil _ _ _ _) (Nat.zero_le _)).mono ?_); rintro e w1 ⟨rfl, hP1, hb1⟩
  rw [List.nil_append] at hP1
  have hB1 := hB0.below hb1 hs0
  have hbw1 := below_two hb0 hb1 hb0.size
  have hs1 := Nat.lt_of_lt_of_le hs0 hb1.size
  obtain ⟨l1, hl1⟩ : ∃ l, l = beB 0 3 := ⟨_, rfl⟩
  have hn1 : Hid (l1.length = 3) := by show _ = _; rw [hl1, beB_len]
  rw [← hl1] at hP1
  have HL1 := Lib.hid hl1
  clear hl1 hB0 hb0 hb1 hs0
  obtain ⟨c0, c1, c2, c3, c4, c5, c6, c7, c8, c9, c10⟩ := hB1.cells
  go_wp2_with fail
  (with_reducible refine (put8 _ 3 l1 3 0 w1.heap.size 1 1 0 (Lib.hid rfl) (by omega) (by omega) (by omega) hn1 (by omega) _ (hP1.rb 0 w1.heap.size (Nat.zero_le _) hP1.lt) (Nat.le_refl _)).mono ?_); rintro e w2 ⟨rfl, hP2, hb2⟩
  have hB2 := hB1.below hb2 hs1
  have hbw2 := below_two hbw1 hb2 hbw1.size
  have hs2 := Nat.lt_of_lt_of_le hs1 hb2.size
  obtain ⟨l2, hl2⟩ : ∃ l, l = l1 ++ beB 0 1 := ⟨_, rfl⟩
  have hn2 : Hid (l2.length = 4) := by show _ = _; rw [hl2, List.length_append, hn1.out, beB_len]
  rw [← hl2] at hP2
  have HL2 := Lib.hid hl2
  clear hl2 hB1 hb2 hbw1 hP1 c0 c1 c2 c3 c4 c5 c6 c7 c8 c9 c10
  obtain ⟨c0, c1, c2, c3, c4, c5, c6, c7, c8, c9, c10⟩ := hB2.cells
  go_wp2_with fail
  (with_reducible refine (flags_any false ch ak ro co br po ag ma he de _).mono ?_); rintro e w3 ⟨rfl, hb3⟩
  rw [← HFL.out]
  have hB3 := hB2.below hb3 hs2
  have hbw3 := below_two hbw2 hb3 hbw2.size
  have hs3 := Nat.lt_of_lt_of_le hs2 hb3.size
  have hP3 := hP2.below hb3 hP2.lt
  clear hB2 hb3 hbw2 hP2 c0 c1 c2 c3 c4 c5 c6 c7 c8 c9 c10
  go_wp2_with fail
  (with_reducible refine (put8 _ 4 l2 4 0 w3.heap.size 1 1 fl (Lib.hid rfl) (by omega) fl0 fl1 hn2 (by omega) _ (hP3.rb 0 w3.heap.size (Nat.zero_le _) hP3.lt) (Nat.le_refl _)).mono ?_); rintro e w4 ⟨rfl, hP4, hb4⟩
  have hB4 := hB3.below hb4 hs3
  have hbw4 := below_two hbw3 hb4 hbw3.size
  have hs4 := Nat.lt_of_lt_of_le hs3 hb4.size
  obtain ⟨l4, hl4⟩ : ∃ l, l = l2 ++ beB fl 1 := ⟨_, rfl⟩
  have hn4 : Hid (l4.length = 5) := by show _ = _; rw [hl4, List.length_append, hn2.out, beB_len]
  rw [← hl4] at hP4
  have HL4 := Lib.hid hl4
  clear hl4 hB3 hb4 hbw3 hP3
  obtain ⟨c0, c1, c2, c3, c4, c5, c6, c7, c8, c9, c10⟩ := hB4.cells
  go_wp2_with fail
  (with_reducible refine (putN _ 5 l4 5 0 w4.heap.size 8 8 ro (Lib.hid rfl) (by omega) r0 r1 hn4 (by omega) _ (hP4.rb 0 w4.heap.size (Nat.zero_le _) hP4.lt) (Nat.le_refl _)).mono ?_); rintro e w5 ⟨rfl, hP5, hb5⟩
  have hB5 := hB4.below hb5 hs4
  have hbw5 := below_two hbw4 hb5 hbw4.size
  have hs5 := Nat.lt_of_lt_of_le hs4 hb5.size
  obtain ⟨l5, hl5⟩ : ∃ l, l = l4 ++ beB ro 8 := ⟨_, rfl⟩
  have hn5 : Hid (l5.length = 13) := by show _ = _; rw [hl5, List.length_append, hn4.out, beB_len]
  rw [← hl5] at hP5
  have HL5 := Lib.hid hl5
  clear hl5 hB4 hb5 hbw4 hP4 c0 c1 c2 c3 c4 c5 c6 c7 c8 c9 c10
  obtain ⟨c0, c1, c2, c3, c4, c5, c6, c7, c8, c9, c10⟩ := hB5.cells
  go_wp2_with fail
  (with_reducible refine (put32 _ 13 l5 13 0 w5.heap.size 4 4 co (Lib.hid rfl) (by omega) o0 o1 hn5 (by omega) _ (hP5.rb 0 w5.heap.size (Nat.zero_le _) hP5.lt) (Nat.le_refl _)).mono ?_); rintro e w6 ⟨rfl, hP6, hb6⟩
  have hB6 := hB5.below hb6 hs5
  have hbw6 := below_two hbw5 hb6 hbw5.size
  have hs6 := Nat.lt_of_lt_of_le hs5 hb6.size
  obtain ⟨l6, hl6⟩ : ∃ l, l = l5 ++ beB co 4 := ⟨_, rfl⟩
  have hn6 : Hid (l6.length = 17) := by show _ = _; rw [hl6, List.length_append, hn5.out, beB_len]
  rw [← hl6] at hP6
  have HL6 := Lib.hid hl6
  clear hl6 hB5 hb6 hbw5 hP5 c0 c1 c2 c3 c4 c5 c6 c7 c8 c9 c10
  obtain ⟨c0, c1, c2, c3, c4, c5, c6, c7, c8, c9, c10⟩ := hB6.cells
  go_wp2_with fail
  (with_reducible refine (putN _ 17 l6 17 0 w6.heap.size 8 8 br (Lib.hid rfl) (by omega) b0 b1 hn6 (by omega) _ (hP6.rb 0 w6.heap.size (Nat.zero_le _) hP6.lt) (Nat.le_refl _)).mono ?_); rintro e w7 ⟨rfl, hP7, hb7⟩
  have hB7 := hB6.below hb7 hs6
  have hbw7 := below_two hbw6 hb7 hbw6.size
  have hs7 := Nat.lt_of_lt_of_le hs6 hb7.size
  obtain ⟨l7, hl7⟩ : ∃ l, l = l6 ++ beB br 8 := ⟨_, rfl⟩
  have hn7 : Hid (l7.length = 25) := by show _ = _; rw [hl7, List.length_append, hn6.out, beB_len]
  rw [← hl7] at hP7
  have HL7 := Lib.hid hl7
  clear hl7 hB6 hb7 hbw6 hP6 c0 c1 c2 c3 c4 c5 c6 c7 c8 c9 c10
  obtain ⟨c0, c1, c2, c3, c4, c5, c6, c7, c8, c9, c10⟩ := hB7.cells
  have hH : Hid (bpHead ch ak ro co br = l7) := by show _ = _; rw [HL7.out, HL6.out, HL5.out, HL4.out, HL2.out, HL1.out, HFL.out]; rfl
  have hz6 := Nat.le_of_lt hs6
  go_wp2_with fail
  clear c0 c1 c2 c3 c4 c5 c6 c7 c8 c9 c10
  go_loopw [3, 40] (fun b i wr => ∃ j : Nat, j ≤ 5 ∧ i = .int .i64 j ∧ PW w l7 po ag ma he de j b wr) (fun _ i _ => 5 - (intOf i).toNat)
  case atStart => exact ⟨0, by omega, rfl, _, rfl, hz6, hP7, hbw7⟩
  case round =>
    obtain ⟨j, hj, rfl, g, rfl, hg, hP, hbr⟩ := hrel
    clear hP7 hB7 hbw7 hs7
    match j, hj with
    | 0, _ =>
      obtain ⟨lx, hlx⟩ : ∃ l, l = (l7) := ⟨_, rfl⟩
      have hnx : Hid (lx.length = 25) := by show _ = _; rw [hlx]; first | exact hn7.out | simp [beB_len, hn7.out]
      have hPx : Bk wr g 5 (lx.map bc) := by rw [hlx]; exact hP
      have HLX := Lib.hid hlx
      have hgz := hP.lt
      clear hlx hP
      go_wp2_with fail
      (with_reducible refine (put16 _ 25 lx 25 0 wr.heap.size 2 2 po (Lib.hid rfl) (by omega) p0 p1 hnx (by omega) _ (hPx.rb 0 wr.heap.size (Nat.zero_le _) hgz) (Nat.le_refl _)).mono ?_); rintro e wx ⟨rfl, hPy, hby⟩
      have hbx := below_two hbr hby hbr.size
      have hgx := hbr.size
      clear hPx hbr hby
      go_wp2
      go_roundw
      case rel => exact ⟨1, by omega, by go_num, _, rfl, hgx, by rw [HLX.out] at hPy; exact hPy, hbx⟩
      case measure => simp [intOf]
    | 1, _ =>
      obtain ⟨lx, hlx⟩ : ∃ l, l = (l7 ++ beB po 2) := ⟨_, rfl⟩
      have hnx : Hid (lx.length = 27) := by show _ = _; rw [hlx]; first | exact hn7.out | simp [beB_len, hn7.out]
      have hPx : Bk wr g 5 (lx.map bc) := by rw [hlx]; exact hP
      have HLX := Lib.hid hlx
      have hgz := hP.lt
      clear hlx hP
      go_wp2_with fail
      (with_reducible refine (put16 _ 27 lx 27 0 wr.heap.size 2 2 ag (Lib.hid rfl) (by omega) a0 a1 hnx (by omega) _ (hPx.rb 0 wr.heap.size (Nat.zero_le _) hgz) (Nat.le_refl _)).mono ?_); rintro e wx ⟨rfl, hPy, hby⟩
      have hbx := below_two hbr hby hbr.size
      have hgx := hbr.size
      clear hPx hbr hby
      go_wp2
      go_roundw
      case rel => exact ⟨2, by omega, by go_num, _, rfl, hgx, by rw [HLX.out] at hPy; exact hPy, hbx⟩
      case measure => simp [intOf]
    | 2, _ =>
      obtain ⟨lx, hlx⟩ : ∃ l, l = ((l7 ++ beB po 2) ++ beB ag 2) := ⟨_, rfl⟩
      have hnx : Hid (lx.length = 29) := by show _ = _; rw [hlx]; first | exact hn7.out | simp [beB_len, hn7.out]
      have hPx : Bk wr g 5 (lx.map bc) := by rw [hlx]; exact hP
      have HLX := Lib.hid hlx
      have hgz := hP.lt
      clear hlx hP
      go_wp2_with fail
      (with_reducible refine (put16 _ 29 lx 29 0 wr.heap.size 2 2 ma (Lib.hid rfl) (by omega) m0 m1 hnx (by omega) _ (hPx.rb 0 wr.heap.size (Nat.zero_le _) hgz) (Nat.le_refl _)).mono ?_); rintro e wx ⟨rfl, hPy, hby⟩
      have hbx := below_two hbr hby hbr.size
      have hgx := hbr.size
      clear hPx hbr hby
      go_wp2
      go_roundw
      case rel => exact ⟨3, by omega, by go_num, _, rfl, hgx, by rw [HLX.out] at hPy; exact hPy, hbx⟩
      case measure => simp [intOf]
    | 3, _ =>
      obtain ⟨lx, hlx⟩ : ∃ l, l = (((l7 ++ beB po 2) ++ beB ag 2) ++ beB ma 2) := ⟨_, rfl⟩
      have hnx : Hid (lx.length = 31) := by show _ = _; rw [hlx]; first | exact hn7.out | simp [beB_len, hn7.out]
      have hPx : Bk wr g 5 (lx.map bc) := by rw [hlx]; exact hP
      have HLX := Lib.hid hlx
      have hgz := hP.lt
      clear hlx hP
      go_wp2_with fail
      (with_reducible refine (put16 _ 31 lx 31 0 wr.heap.size 2 2 he (Lib.hid rfl) (by omega) h0 h1 hnx (by omega) _ (hPx.rb 0 wr.heap.size (Nat.zero_le _) hgz) (Nat.le_refl _)).mono ?_); rintro e wx ⟨rfl, hPy, hby⟩
      have hbx := below_two hbr hby hbr.size
      have hgx := hbr.size
      clear hPx hbr hby
      go_wp2
      go_roundw
      case rel => exact ⟨4, by omega, by go_num, _, rfl, hgx, by rw [HLX.out] at hPy; exact hPy, hbx⟩
      case measure => simp [intOf]
    | 4, _ =>
      obtain ⟨lx, hlx⟩ : ∃ l, l = ((((l7 ++ beB po 2) ++ beB ag 2) ++ beB ma 2) ++ beB he 2) := ⟨_, rfl⟩
      have hnx : Hid (lx.length = 33) := by show _ = _; rw [hlx]; first | exact hn7.out | simp [beB_len, hn7.out]
      have hPx : Bk wr g 5 (lx.map bc) := by rw [hlx]; exact hP
      have HLX := Lib.hid hlx
      have hgz := hP.lt
      clear hlx hP
      go_wp2_with fail
      (with_reducible refine (put16 _ 33 lx 33 0 wr.heap.size 2 2 de (Lib.hid rfl) (by omega) d0 d1 hnx (by omega) _ (hPx.rb 0 wr.heap.size (Nat.zero_le _) hgz) (Nat.le_refl _)).mono ?_); rintro e wx ⟨rfl, hPy, hby⟩
      have hbx := below_two hbr hby hbr.size
      have hgx := hbr.size
      clear hPx hbr hby
      go_wp2
      go_roundw
      case rel => exact ⟨5, by omega, by go_num, _, rfl, hgx, by rw [HLX.out] at hPy; exact hPy, hbx⟩
      case measure => simp [intOf]
    | 5, _ =>
      go_wp2
      go_ret
      exact ⟨g, rfl, hg, by unfold bpB; rw [hH.out]; exact hP, bpB_len ch ak ro co br po ag ma he de, hbr⟩

end Go.Proofs.YteplefdnnehdgaaDoor

/- The document's bytes of numbers and of a Bpdu: the same. -/
namespace Go.Proofs.YteplefdnnehdgaaDoor
set_option maxRecDepth 100000
open Go.ChangeShapes Go.WideShapes Go.ChangeAt Go.RowKit
set_option linter.unusedVariables false

theorem own_of_bkR {w : World} {base g : Nat} {l : List UInt8} (n : Nat) (hn : Hid (l.length = n)) (hm : n ≤ 1000000) (h : Bk w g 5 (l.map bc)) (hb : base ≤ g) : w.ownsRow base 5 1 (.slice (some ⟨g, 0, none⟩) n n) n (l.map bc) := by
  have e := hn.out
  subst e
  exact ⟨by simp, .inr ⟨g, l.length, (l.map bc).toArray, rfl, hb, h, Nat.le_refl _, by unfold maxLen; omega, by simp, by rw [Nat.mul_one]; exact List.take_of_length_le (by simp)⟩⟩

theorem own_below {w w' : World} {base g n cap B : Nat} {l : List UInt8} (h : w.ownsRow base 5 1 (.slice (some ⟨g, 0, none⟩) n cap) n (l.map bc)) (hb : Below B w w') (hg : g < B) : w'.ownsRow base 5 1 (.slice (some ⟨g, 0, none⟩) n cap) n (l.map bc) := by
  obtain ⟨h1, ⟨h2, _⟩ | ⟨g', cap', cur, hv, hbb, hh, r⟩⟩ := h
  · cases h2
  · injection hv with e1 _ e3
    injection e1 with e1
    injection e1 with e1
    subst e1; subst e3
    exact ⟨h1, .inr ⟨g, cap, cur, rfl, hbb, (hb.block g hg).trans hh, r⟩⟩

/-- Bytes appended to a row of the call's own, nil or not. -/
theorem append_v (w : World) {ops : Array Oper} {rest : List Oper} {o : Oper} {a : Act} {Q : Exit → Act → World → Prop} (hgd : o.guard = none) (s x : Operand)
    (ho : o.op = .call { callee := .builtin .append, args := #[s, x], argTypes := #[50, 50] })
    (base n : Nat) (v : Value) (l : List UInt8) (hs : a.eval s = v) (hown : w.ownsRow base 5 1 v n (l.map bc))
    (ad : Addr) (m c lo hi : Nat) (l2 : List UInt8) (hx : a.eval x = .slice (some ad) m c) (hr : RB w (some ad) lo hi l2) (hl : Hid (l2.length = m))
    (hn : n + m ≤ 1000000) (hbase : base ≤ w.heap.size) (B : Nat) (w0 : World) (hb : Below B w0 w) (hB : B ≤ base)
    (h : ∀ v' w', w'.ownsRow base 5 1 v' (n + m) ((l ++ l2).map bc) → Below B w0 w' → wpList Tryd.prog ops Q rest (a.put o.dst v') w') :
    wpList Tryd.prog ops Q (o :: rest) a w := by
  obtain ⟨i0, hi0, hz0, hz1, hz2⟩ := info_parts Tryd.infoByte
  refine wpList_append_own w hgd s x 50 ho base 5 i0 (.int .u8 0) 1 1 Tryd.underlying50 hi0 hz0 hz1 hz2 rfl (by decide) v n (l.map bc) hs hown ad m c (l2.map bc) hx (by rw [List.length_map, hl.out, Nat.mul_one]) (src_cells hr) (one_bcs l2) (by unfold maxLen; omega) (by omega) hbase ?_
  intro v' w' hown' hgrow hnil
  rw [← List.map_append] at hown'
  refine h v' w' hown' (hb.grown hgrow (Nat.le_trans hB hbase) (fun k hk => ?_))
  rcases hown.2 with ⟨hv, _⟩ | ⟨g, cap, cur, hv, hbb, _⟩
  · subst hv; simp [Value.ownBlock] at hk
  · subst hv; simp [Value.ownBlock] at hk; omega

/-- What the document's 'Put' of a number leaves: a row of the call's own. -/
def RPut (n : Int) (k : Nat) (w : World) (e : Ending) (w' : World) : Prop :=
  ∃ v, e = .returned v ∧ w'.ownsRow w.heap.size 5 1 v k ((beB n k).map bc) ∧ Below w.heap.size w w'

theorem one_byte (w : World) (n : Int) : Bk (w.alloc (.cells #[.int .u8 (n % 256)] 5)) w.heap.size 5 ([UInt8.ofNat (n % 256).toNat].map bc) := by
  have e : [UInt8.ofNat (n % 256).toNat].map bc = [.int .u8 (n % 256)] := by simp only [List.map_cons, List.map_nil, bc, byte_nat]
  rw [e]
  exact heap_alloc_new w _

/-- The same where there are bytes. -/
def RPutS (n : Int) (k : Nat) (w : World) (e : Ending) (w' : World) : Prop :=
  ∃ g c, e = .returned (.slice (some ⟨g, 0, none⟩) k c) ∧ RB w' (some ⟨g, 0, none⟩) 0 w'.heap.size (beB n k) ∧ Below w.heap.size w w'

/-- What the document's 'Put' leaves. -/
def RefBPutEnd (l : List UInt8) (n : Nat) (w : World) (e : Ending) (w' : World) : Prop :=
  ∃ g c, e = .returned (.slice (some ⟨g, 0, none⟩) n c) ∧ w.heap.size ≤ g ∧ Row w' g c l ∧ l.length = n ∧ Below w.heap.size w w'

theorem head5 (ch ak : Bool) : ((beB 0 3 ++ beB 0 1) ++ beB (flI ch ak) 1).map bc = [.int .u8 0, .int .u8 0, .int .u8 0, .int .u8 0, .int .u8 (flI ch ak)] := by
  cases ch <;> cases ak <;> kernel_rfl

theorem head5_len (ch ak : Bool) : ((beB 0 3 ++ beB 0 1) ++ beB (flI ch ak) 1).length = 5 := by simp [beB_len]

/-- The row of five bytes, as the document's text lays it. -/
theorem row5 (w : World) (n : Int) : Bk (w.alloc (.cells #[.int .u8 0, .int .u8 0, .int .u8 0, .int .u8 0, .int .u8 n] 5)) w.heap.size 5 [.int .u8 0, .int .u8 0, .int .u8 0, .int .u8 0, .int .u8 n] := heap_alloc_new w _

end Go.Proofs.YteplefdnnehdgaaDoor

/- What goes out: a Bpdu under a name, its bytes; an Out's row; Outs in memory. -/
namespace Go.Proofs.YteplefdnnehdgaaDoor
set_option maxRecDepth 100000
open Go.ChangeShapes Go.WideShapes Go.ChangeAt Go.RowKit
set_option linter.unusedVariables false

/-- Boxes, where all below a block stays. -/
theorem Hs.under {w wx wy : World} {l : List (Nat × TypeId × List Value)} {B : Nat} (h : Hs w l wx) (b : Below B wx wy) (hl : ∀ x ∈ l, x.1 < B) (hB : w.heap.size ≤ B) : Hs w l wy := by
  have h' := hs_iff.1 h
  exact hs_iff.2 ⟨fun x hx => ⟨Bk.below (h'.1 x hx).1 b (hl x hx), (h'.1 x hx).2⟩, h'.2.1, h.old.trans (b.mono hB)⟩

/-- A Bpdu. -/
structure Bq where
  tc : Bool
  ch : Bool
  ak : Bool
  ro : Int
  co : Int
  br : Int
  po : Int
  ag : Int
  ma : Int
  he : Int
  de : Int
def lB (x : Bq) : List Value := [.bool x.tc, .bool x.ch, .bool x.ak, .int .u64 x.ro, .int .u32 x.co, .int .u64 x.br, .int .u16 x.po, .int .u16 x.ag, .int .u16 x.ma, .int .u16 x.he, .int .u16 x.de]
def BqIn (x : Bq) : Prop := BpIn x.ro x.co x.br x.po x.ag x.ma x.he x.de
def tcnQ : Bq := ⟨true, false, false, 0, 0, 0, 0, 0, 0, 0, 0⟩
/-- Its bytes, and how many. -/
def bqB (x : Bq) : List UInt8 := if x.tc = true then tcnB else bpB x.ch x.ak x.ro x.co x.br x.po x.ag x.ma x.he x.de
def bqN (x : Bq) : Nat := if x.tc = true then 4 else 35
theorem bqB_len (x : Bq) : (bqB x).length = bqN x := by
  unfold bqB bqN
  split
  · decide
  · exact bpB_len _ _ _ _ _ _ _ _ _ _
theorem bqN_le (x : Bq) : bqN x ≤ 35 := by unfold bqN; split <;> omega
theorem bq_put (x : Bq) (hin : BqIn x) (w : World) : Calls Tryd.prog 78 #[.agg (lB x).toArray] w (BPutEnd (bqB x) (bqN x) w) := by
  obtain ⟨tc, ch, ak, ro, co, br, po, ag, ma, he, de⟩ := x
  cases tc with
  | true => exact put_tcn ch ak ro co br po ag ma he de w
  | false => exact put_cfg ch ak ro co br po ag ma he de hin w
/-- What goes out by a port: the port, the sender, the Bpdu. -/
structure Ou where
  i : Int
  fr : Int
  x : Bq
/-- The frame's data. -/
def ouB (o : Ou) : List UInt8 := 66 :: 66 :: 3 :: bqB o.x
def ouN (o : Ou) : Nat := 3 + bqN o.x
theorem ouB_len (o : Ou) : (ouB o).length = ouN o := by
  unfold ouB ouN
  simp only [List.length_cons, bqB_len]
  omega
theorem ouN_le (o : Ou) : ouN o ≤ 38 := by have := bqN_le o.x; unfold ouN; omega
/-- An Out, where its data lies in block g. -/
structure Oc where
  o : Ou
  g : Nat
  cap : Nat
def lO (c : Oc) : List Value := [.int .i64 c.o.i, .int .u64 1652522221568, .int .u64 c.o.fr, .int .u16 (ouN c.o), .slice (some ⟨c.g, 0, none⟩) (ouN c.o) c.cap]
theorem lO_len (c : Oc) : (lO c).length = 5 := rfl
theorem lO_one (c : Oc) : (lO c).all (·.oneCell') = true := rfl
/-- Its data lies there. -/
def OcAt (w : World) (B : Nat) (c : Oc) : Prop := B ≤ c.g ∧ Row w c.g c.cap (ouB c.o)
theorem OcAt.below {w w' : World} {B : Nat} {c : Oc} (h : OcAt w B c) (b : Below w.heap.size w w') : OcAt w' B c := ⟨h.1, h.2.below b h.2.lt⟩

/-- What Out hands out. -/
def OutEnd (w : World) (o : Ou) (e : Ending) (w' : World) : Prop := ∃ g cap, e = .returned (.agg (lO ⟨o, g, cap⟩).toArray) ∧ OcAt w' w.heap.size ⟨o, g, cap⟩ ∧ Below w.heap.size w w'

end Go.Proofs.YteplefdnnehdgaaDoor

/- Times: contracts of the functions of span and of the document's answers, for every argument. -/
namespace Go.Proofs.YteplefdnnehdgaaDoor
set_option maxRecDepth 100000
open Go.ChangeShapes Go.WideShapes Go.ChangeAt Go.RowKit
set_option linter.unusedVariables false

/-- Whole seconds, and begun ones. -/
def floorI (t : Int) : Int := max t 0 / 256
def ceilI (t : Int) : Int := (max t 0 + 255) / 256
def olderI (t : Int) : Int := cutI (cutI t + 256)

theorem floorI_bd (t : Int) (h : t ≤ 9223372036854775807) : 0 ≤ floorI t ∧ floorI t ≤ 36028797018963967 := by unfold floorI; omega
theorem ceilI_bd (t : Int) (h : t ≤ 9223372036854775807) : 0 ≤ ceilI t ∧ ceilI t ≤ 36028797018963968 := by unfold ceilI; omega

theorem field_any (t : Int) (h0 : -9223372036854775808 ≤ t) (h1 : t ≤ 9223372036854775807) (w : World) :
    Calls Tryd.prog 82 #[.int .i64 t] w fun e w' => e = .returned (.int .u16 (cutI t)) ∧ w = w' := by
  obtain ⟨b0, b1⟩ := cutI_bd t
  go_enter Tryd.func82, Tryd.ntmps82
  go_wp2_with (go_at_call 56; (with_reducible refine (cut_any _ h0 h1 _).mono ?_); rintro e w' ⟨rfl, rfl⟩)
  go_ret
  exact ⟨rfl, rfl⟩

theorem older_any (t : Int) (h0 : -9223372036854775808 ≤ t) (h1 : t ≤ 9223372036854775807) (w : World) :
    Calls Tryd.prog 81 #[.int .i64 t] w fun e w' => e = .returned (.int .i64 (olderI t)) ∧ w = w' := by
  obtain ⟨b0, b1⟩ := cutI_bd t
  go_enter Tryd.func81, Tryd.ntmps81
  go_wp2_with (go_at_call 56; (with_reducible refine (cut_any _ (by omega) (by omega) _).mono ?_); rintro e w' ⟨rfl, rfl⟩)
  go_ret
  exact ⟨rfl, rfl⟩

end Go.Proofs.YteplefdnnehdgaaDoor

/- What a port tells, and what becomes of the view: no program but what an Out's row is. -/
namespace Go.Proofs.YteplefdnnehdgaaDoor
set_option maxRecDepth 100000
open Go.ChangeShapes Go.WideShapes Go.ChangeAt Go.RowKit
set_option linter.unusedVariables false

/-- The Age that is told. -/
def toldI (t : Th) (L : List Po) : Int := if t.ro = t.ow then 0 else if 0 ≤ t.rp then (match L[t.rp.toNat]? with | some p => olderI p.av | none => 0) else 0
theorem toldI_bd (t : Th) (L : List Po) : 0 ≤ toldI t L ∧ toldI t L ≤ 65535 := by
  unfold toldI
  split
  · omega
  · split
    · split
      · exact cutI_bd _
      · omega
    · omega
theorem cut_told (t : Th) (L : List Po) : cutI (toldI t L) = toldI t L := by have := toldI_bd t L; unfold cutI; omega
/-- The configuration. -/
def confQ (t : Th) (a : Int) (p : Po) : Bq := ⟨false, t.ch, p.ak, t.ro, t.co, t.ow, p.id, cutI a, cutI t.n1, cutI t.n2, cutI t.n3⟩
def sentP (p : Po) : Po := { p with ak := false, pe := false, ho := true, hv := 0 }
def owingP (p : Po) : Po := { p with pe := true }
/-- A port told: its view's ports, and what goes out. -/
def confR (t : Th) (L : List Po) (i : Int) : List Po × List Ou :=
  if 0 ≤ i then (match L[i.toNat]? with
    | none => (L, [])
    | some p => if p.ho = true then (L.set i.toNat (owingP p), []) else if t.n1 ≤ toldI t L then (L, []) else (L.set i.toNat (sentP p), [⟨i, t.ow % 281474976710656, confQ t (toldI t L) p⟩]))
  else (L, [])
theorem confR_neg {t : Th} {L : List Po} {i : Int} (h : i < 0) : confR t L i = (L, []) := by unfold confR; rw [if_neg (by omega)]
theorem confR_out {t : Th} {L : List Po} {i : Int} (h : L.length ≤ i) : confR t L i = (L, []) := by
  unfold confR
  split
  · rw [List.getElem?_eq_none (by omega)]
  · rfl
theorem confR_at {t : Th} {L : List Po} {k : Nat} {p : Po} (h : L[k]? = some p) : confR t L k = if p.ho = true then (L.set k (owingP p), []) else if t.n1 ≤ toldI t L then (L, []) else (L.set k (sentP p), [⟨k, t.ow % 281474976710656, confQ t (toldI t L) p⟩]) := by
  unfold confR
  rw [if_pos (by omega), Int.toNat_natCast, h]

/-- Outs in a row of the call's own, their data in blocks of the call's own. -/
def OutsR (w : World) (base : Nat) (v : Value) (M : List Ou) : Prop := ∃ C : List Oc, C.map (·.o) = M ∧ OwnL lO 5 54 w base v C ∧ ∀ c ∈ C, OcAt w base c
theorem OutsR.nil (w : World) (base : Nat) : OutsR w base (.slice none 0 0) [] := ⟨[], rfl, OwnL.nil _ _ _, fun c h => by cases h⟩
theorem OutsR.below {w w' : World} {base : Nat} {v : Value} {M : List Ou} (h : OutsR w base v M) (b : Below w.heap.size w w') : OutsR w' base v M := by
  obtain ⟨C, h1, h2, h3⟩ := h
  exact ⟨C, h1, h2.below b, fun c hc => (h3 c hc).below b⟩
theorem OutsR.heap {w w' : World} {base : Nat} {v : Value} {M : List Ou} (h : OutsR w base v M) (hh : ∀ k, base ≤ k → w'.heap[k]? = w.heap[k]?) : OutsR w' base v M := by
  obtain ⟨C, h1, h2, h3⟩ := h
  refine ⟨C, h1, ⟨h2.1, h2.2.imp id ?_⟩, fun c hc => ?_⟩
  · rintro ⟨g, cap', cur, hv, hg, e, r⟩
    exact ⟨g, cap', cur, hv, hg, (hh g hg).trans e, r⟩
  · obtain ⟨hg, sp, y1, y2, y3⟩ := h3 c hc
    exact ⟨hg, sp, y1, y2, (hh c.g hg).trans y3⟩
theorem OutsR.mono {w : World} {base base' : Nat} {v : Value} {M : List Ou} (h : OutsR w base v M) (hb : base' ≤ base) : OutsR w base' v M := by
  obtain ⟨C, h1, h2, h3⟩ := h
  exact ⟨C, h1, h2.mono hb, fun c hc => ⟨Nat.le_trans hb (h3 c hc).1, (h3 c hc).2⟩⟩
/-- What telling hands out. -/
def ConfEnd (w : World) (t : Th) (n : Nat) (R : List Po × List Ou) (e : Ending) (w' : World) : Prop :=
  ∃ D cap v, e = .returned (.tuple #[.agg (lT t D n cap).toArray, v]) ∧ (D = none → cap = 0) ∧ TS w [] D R.1 w' ∧ OutsR w' w.heap.size v R.2

end Go.Proofs.YteplefdnnehdgaaDoor

/- All designated ports tell, one behind the other: no program. -/
namespace Go.Proofs.YteplefdnnehdgaaDoor
set_option maxRecDepth 100000
open Go.ChangeShapes Go.WideShapes Go.ChangeAt Go.RowKit
set_option linter.unusedVariables false

theorem confR_len (t : Th) (L : List Po) (i : Int) : (confR t L i).1.length = L.length := by
  unfold confR
  split
  · split
    · rfl
    · split
      · exact List.length_set ..
      · split
        · rfl
        · exact List.length_set ..
  · rfl
theorem confR_few (t : Th) (L : List Po) (i : Int) : (confR t L i).2.length ≤ 1 := by
  unfold confR
  split
  · split
    · simp
    · split
      · simp
      · split <;> simp
  · simp
theorem confR_bd {t : Th} {L : List Po} (hb : ∀ x ∈ L, PoB x) (i : Int) : ∀ x ∈ (confR t L i).1, PoB x := by
  unfold confR
  split
  · split
    · exact hb
    · rename_i p hp
      have hP := hb p (List.mem_of_getElem? hp)
      split
      · intro x hx
        rcases List.mem_or_eq_of_mem_set hx with q | rfl
        · exact hb x q
        · exact hP
      · split
        · exact hb
        · intro x hx
          rcases List.mem_or_eq_of_mem_set hx with q | rfl
          · exact hb x q
          · unfold PoB sentP at *
            dsimp only at *
            omega
  · exact hb

/-- Does a port tell? -/
def tellsB (t : Th) (p : Po) : Bool := decide (p.hb = t.ow) && (decide (p.hp = p.id) && !decide (p.st = 0))
def allStep (t : Th) (s : List Po × List Ou) (i : Nat) : List Po × List Ou := match s.1[i]? with
  | some p => if tellsB t p = true then ((confR t s.1 i).1, s.2 ++ (confR t s.1 i).2) else s
  | none => s
/-- The first k have told. -/
def allR (t : Th) (L : List Po) : Nat → List Po × List Ou
  | 0 => (L, [])
  | k + 1 => allStep t (allR t L k) k
theorem allStep_yes {t : Th} {s : List Po × List Ou} {i : Nat} {p : Po} (h : s.1[i]? = some p) (hp : tellsB t p = true) : allStep t s i = ((confR t s.1 i).1, s.2 ++ (confR t s.1 i).2) := by unfold allStep; rw [h]; simp only [hp, if_true]
theorem allStep_no {t : Th} {s : List Po × List Ou} {i : Nat} {p : Po} (h : s.1[i]? = some p) (hp : tellsB t p = false) : allStep t s i = s := by unfold allStep; rw [h]; simp [hp]
theorem allStep_bd (t : Th) (s : List Po × List Ou) (i : Nat) (hb : ∀ x ∈ s.1, PoB x) : (allStep t s i).1.length = s.1.length ∧ (allStep t s i).2.length ≤ s.2.length + 1 ∧ ∀ x ∈ (allStep t s i).1, PoB x := by
  unfold allStep
  split
  · split
    · refine ⟨confR_len _ _ _, ?_, confR_bd hb _⟩
      rw [List.length_append]
      have := confR_few t s.1 i
      omega
    · exact ⟨rfl, Nat.le_succ _, hb⟩
  · exact ⟨rfl, Nat.le_succ _, hb⟩
theorem allR_bd {t : Th} {L : List Po} (hb : ∀ x ∈ L, PoB x) : ∀ k, (allR t L k).1.length = L.length ∧ (allR t L k).2.length ≤ k ∧ ∀ x ∈ (allR t L k).1, PoB x
  | 0 => ⟨rfl, Nat.zero_le _, hb⟩
  | k + 1 => by
    obtain ⟨h1, h2, h3⟩ := allR_bd hb k
    obtain ⟨g1, g2, g3⟩ := allStep_bd t (allR t L k) k h3
    exact ⟨g1.trans h1, by show (allStep t (allR t L k) k).2.length ≤ _; omega, g3⟩

/-- What telling by all hands out. -/
def AllEnd (w : World) (t : Th) (n : Nat) (R : List Po × List Ou) (e : Ending) (w' : World) : Prop :=
  ∃ D cap v, e = .returned (.tuple #[.agg (lT t D n cap).toArray, v]) ∧ (D = none → cap = 0) ∧ PoAt w' D w'.heap.size R.1 ∧ OutsR w' w.heap.size v R.2 ∧ Below w.heap.size w w'

end Go.Proofs.YteplefdnnehdgaaDoor

/- All designated ports tell: port by port; what goes out, in the order of the ports; told again at once. No program. -/
namespace Go.Proofs.YteplefdnnehdgaaDoor
set_option maxRecDepth 100000
open Go.ChangeShapes Go.WideShapes Go.ChangeAt Go.RowKit
set_option linter.unusedVariables false

/-- What becomes of a port, where what is told is of the age a. -/
def stepP (t : Th) (a : Int) (p : Po) : Po := if tellsB t p = true then (if p.ho = true then owingP p else if t.n1 ≤ a then p else sentP p) else p
theorem stepP_av (t : Th) (a : Int) (p : Po) : (stepP t a p).av = p.av := by
  unfold stepP
  split
  · split
    · rfl
    · split <;> rfl
  · rfl
theorem stepP_tells (t : Th) (a : Int) (p : Po) : tellsB t (stepP t a p) = tellsB t p := by
  unfold stepP
  split
  · split
    · rfl
    · split <;> rfl
  · rfl
theorem toldI_av {t : Th} {L L' : List Po} (h : ∀ j : Nat, (L'[j]?).map Po.av = (L[j]?).map Po.av) : toldI t L' = toldI t L := by
  unfold toldI
  split
  · rfl
  · split
    · have e := h t.rp.toNat
      cases h1 : L[t.rp.toNat]? with
      | none => cases h2 : L'[t.rp.toNat]? with
        | none => rfl
        | some y => rw [h1, h2] at e; cases e
      | some x => cases h2 : L'[t.rp.toNat]? with
        | none => rw [h1, h2] at e; cases e
        | some y =>
          rw [h1, h2] at e
          have e' : y.av = x.av := Option.some.inj e
          show olderI y.av = olderI x.av
          rw [e']
    · rfl
theorem mixL_av (t : Th) (a : Int) (k : Nat) (L : List Po) (j : Nat) : ((mixL (fun _ p => stepP t a p) k L)[j]?).map Po.av = (L[j]?).map Po.av := by
  rw [mixL_get]
  cases L[j]? with
  | none => rfl
  | some x =>
    show some _ = some _
    dsimp only
    split
    · rw [stepP_av]
    · rfl
theorem allR_fst (t : Th) (L : List Po) : ∀ k, (allR t L k).1 = mixL (fun _ p => stepP t (toldI t L) p) k L
  | 0 => (mixL_zero _ _).symm
  | k + 1 => by
    have ih := allR_fst t L k
    show (allStep t (allR t L k) k).1 = _
    cases hk : L[k]? with
    | none =>
      have e : (allR t L k).1[k]? = none := by rw [ih, mixL_get, hk]; rfl
      unfold allStep
      rw [e]
      show (allR t L k).1 = _
      rw [ih]
      apply List.ext_getElem?
      intro j
      rw [mixL_get, mixL_get]
      by_cases hj : j = k
      · subst hj; rw [hk]; rfl
      · by_cases hl : j < k
        · simp only [hl, show j < k + 1 by omega]
        · simp only [hl, show ¬ j < k + 1 by omega]
    | some p =>
      have e : (allR t L k).1[k]? = some p := by rw [ih]; exact mixL_at hk
      cases ht : tellsB t p with
      | false =>
        rw [allStep_no e ht, ih]
        exact mixL_same hk (by unfold stepP; rw [ht]; rfl)
      | true =>
        rw [allStep_yes e ht]
        show (confR t (allR t L k).1 k).1 = _
        have ha : toldI t (allR t L k).1 = toldI t L := toldI_av (by rw [ih]; exact mixL_av t _ k L)
        rw [confR_at e, ha]
        by_cases h1 : p.ho = true
        · have hf : stepP t (toldI t L) p = owingP p := by unfold stepP; rw [if_pos ht, if_pos h1]
          rw [if_pos h1, ← mixL_set hk, ih, hf]
        · rw [if_neg h1]
          by_cases h2 : t.n1 ≤ toldI t L
          · have hf : stepP t (toldI t L) p = p := by unfold stepP; rw [if_pos ht, if_neg h1, if_pos h2]
            rw [if_pos h2, ih]
            exact mixL_same hk hf
          · have hf : stepP t (toldI t L) p = sentP p := by unfold stepP; rw [if_pos ht, if_neg h1, if_neg h2]
            rw [if_neg h2, ← mixL_set hk, ih, hf]
theorem allR_told (t : Th) (L : List Po) (k : Nat) : toldI t (allR t L k).1 = toldI t L := toldI_av (by rw [allR_fst]; exact mixL_av t _ k L)
/-- What goes out. -/
theorem allR_mem (t : Th) (L : List Po) : ∀ k o, o ∈ (allR t L k).2 → ∃ (j : Nat) (p : Po), j < k ∧ L[j]? = some p ∧ tellsB t p = true ∧ p.ho = false ∧ ¬ t.n1 ≤ toldI t L ∧ o = ⟨j, t.ow % 281474976710656, confQ t (toldI t L) p⟩
  | 0, o, h => by cases h
  | k + 1, o, h => by
    have ih := allR_mem t L k o
    have up : o ∈ (allR t L k).2 → ∃ (j : Nat) (p : Po), j < k + 1 ∧ L[j]? = some p ∧ tellsB t p = true ∧ p.ho = false ∧ ¬ t.n1 ≤ toldI t L ∧ o = ⟨j, t.ow % 281474976710656, confQ t (toldI t L) p⟩ := fun q => by
      obtain ⟨j, p, h1, h2⟩ := ih q
      exact ⟨j, p, by omega, h2⟩
    change o ∈ (allStep t (allR t L k) k).2 at h
    cases hk : L[k]? with
    | none =>
      have e : (allR t L k).1[k]? = none := by rw [allR_fst, mixL_get, hk]; rfl
      unfold allStep at h
      rw [e] at h
      exact up h
    | some p =>
      have e : (allR t L k).1[k]? = some p := by rw [allR_fst]; exact mixL_at hk
      cases ht : tellsB t p with
      | false => rw [allStep_no e ht] at h; exact up h
      | true =>
        rw [allStep_yes e ht] at h
        rcases List.mem_append.1 h with q | q
        · exact up q
        · rw [confR_at e, allR_told] at q
          by_cases h1 : p.ho = true
          · rw [if_pos h1] at q; cases q
          · rw [if_neg h1] at q
            by_cases h2 : t.n1 ≤ toldI t L
            · rw [if_pos h2] at q; cases q
            · rw [if_neg h2] at q
              obtain rfl := List.mem_singleton.1 q
              exact ⟨k, p, Nat.lt_succ_self _, hk, ht, by simpa using h1, h2, rfl⟩
/-- One behind the other. -/
theorem allR_rise (t : Th) (L : List Po) : ∀ k, List.Pairwise (fun a b : Ou => a.i < b.i) (allR t L k).2
  | 0 => List.Pairwise.nil
  | k + 1 => by
    have ih := allR_rise t L k
    show List.Pairwise _ (allStep t (allR t L k) k).2
    cases hk : L[k]? with
    | none =>
      have e : (allR t L k).1[k]? = none := by rw [allR_fst, mixL_get, hk]; rfl
      unfold allStep
      rw [e]
      exact ih
    | some p =>
      have e : (allR t L k).1[k]? = some p := by rw [allR_fst]; exact mixL_at hk
      cases ht : tellsB t p with
      | false => rw [allStep_no e ht]; exact ih
      | true =>
        rw [allStep_yes e ht]
        refine List.pairwise_append.2 ⟨ih, ?_, fun a ha b hb => ?_⟩
        · rw [confR_at e]
          split
          · exact List.Pairwise.nil
          · split
            · exact List.Pairwise.nil
            · exact List.pairwise_singleton _ _
        · obtain ⟨j, q, h1, -, -, -, -, rfl⟩ := allR_mem t L k a ha
          rw [confR_at e] at hb
          split at hb
          · cases hb
          · split at hb
            · cases hb
            · obtain rfl := List.mem_singleton.1 hb
              show (j : Int) < (k : Int)
              omega
theorem allR_before {t : Th} {L : List Po} {k i : Nat} {o o' : Ou} (h : (allR t L k).2[i]? = some o) (h' : (allR t L k).2[i + 1]? = some o') : o.i < o'.i := by
  have hp := allR_rise t L k
  have h1 := (List.getElem?_eq_some_iff.1 h)
  have h2 := (List.getElem?_eq_some_iff.1 h')
  obtain ⟨b1, e1⟩ := h1
  obtain ⟨b2, e2⟩ := h2
  have := List.pairwise_iff_getElem.1 hp i (i + 1) b1 b2 (by omega)
  rw [e1, e2] at this
  exact this
/-- Told again at once: nothing. -/
theorem once_none (t : Th) (L : List Po) (n : Nat) (hn : L.length = n) : (allR t (allR t L n).1 n).2 = [] := by
  cases h : (allR t (allR t L n).1 n).2 with
  | nil => rfl
  | cons o r =>
    obtain ⟨j, p, hj, hp, ht, hh, hq, -⟩ := allR_mem t (allR t L n).1 n o (by rw [h]; exact List.mem_cons_self ..)
    rw [allR_told] at hq
    rw [allR_fst, mixL_get] at hp
    cases hx : L[j]? with
    | none => rw [hx] at hp; cases hp
    | some x =>
      rw [hx] at hp
      have e : stepP t (toldI t L) x = p := by
        have := Option.some.inj hp
        simpa [hj] using this
      rw [← e, stepP_tells] at ht
      rw [← e] at hh
      unfold stepP at hh
      rw [if_pos ht] at hh
      by_cases h1 : x.ho = true
      · rw [if_pos h1] at hh
        have : x.ho = false := hh
        rw [h1] at this; cases this
      · rw [if_neg h1, if_neg hq] at hh
        cases hh
/-- Each owes it then. -/
theorem once_owes {t : Th} {L : List Po} {n : Nat} (hn : L.length = n) {o : Ou} (ho : o ∈ (allR t L n).2) : ∃ (j : Nat) (x : Po), o.i = j ∧ j < n ∧ (allR t (allR t L n).1 n).1[j]? = some x ∧ x.pe = true ∧ x.ho = true := by
  obtain ⟨j, p, hj, hp, ht, hh, hq, rfl⟩ := allR_mem t L n o ho
  refine ⟨j, owingP (sentP p), rfl, hj, ?_, rfl, rfl⟩
  have h1 : stepP t (toldI t L) p = sentP p := by unfold stepP; rw [if_pos ht, if_neg (by rw [hh]; decide), if_neg hq]
  have h2 : stepP t (toldI t L) (sentP p) = owingP (sentP p) := by
    unfold stepP
    rw [if_pos (show tellsB t (sentP p) = true from ht), if_pos (show (sentP p).ho = true from rfl)]
  rw [allR_fst, allR_told, mixL_get, allR_fst, mixL_get, hp]
  simp only [Option.map_some, hj, if_true, h1, h2]

end Go.Proofs.YteplefdnnehdgaaDoor

/- The document's Out: contract. -/
namespace Go.Proofs.YteplefdnnehdgaaDoor
set_option maxRecDepth 100000
open Go.ChangeShapes Go.WideShapes Go.ChangeAt Go.RowKit
set_option linter.unusedVariables false

end Go.Proofs.YteplefdnnehdgaaDoor

/- The document's Tcn: contract. -/
namespace Go.Proofs.YteplefdnnehdgaaDoor
set_option maxRecDepth 100000
open Go.ChangeShapes Go.WideShapes Go.ChangeAt Go.RowKit
set_option linter.unusedVariables false
set_option linter.unusedSimpArgs false

/-- The TCN that goes out by the port to the root. -/
def tcnR (t : Th) (n : Nat) : List Ou := if 0 ≤ t.rp ∧ t.rp < n then [⟨t.rp, t.ow % 281474976710656, tcnQ⟩] else []
def OutsEnd (w : World) (M : List Ou) (e : Ending) (w' : World) : Prop := ∃ v, e = .returned v ∧ OutsR w' w.heap.size v M ∧ Below w.heap.size w w'
/-- One Out, just laid in a row. -/
theorem outs_one {w w' : World} {c : Oc} (hb : w.heap.size ≤ w'.heap.size) (h : OcAt w' w.heap.size c) : OutsR (w'.alloc (.cells (lO c).toArray 54)) w.heap.size (.slice (some ⟨w'.heap.size, 0, none⟩) 1 1) [c.o] :=
  ⟨[c], rfl, ⟨rfl, .inr ⟨w'.heap.size, 1, (lO c).toArray, rfl, hb, heap_alloc_new _ _, Nat.le_refl _, by decide, rfl, rfl⟩⟩, fun d hd => by obtain rfl := List.mem_singleton.1 hd; exact h.below (new_below _ _)⟩

end Go.Proofs.YteplefdnnehdgaaDoor

/- The document's Detect: contract. -/
namespace Go.Proofs.YteplefdnnehdgaaDoor
set_option maxRecDepth 100000
open Go.ChangeShapes Go.WideShapes Go.ChangeAt Go.RowKit
set_option linter.unusedVariables false
set_option linter.unusedSimpArgs false

/-- The view when a change is detected, and what goes out. -/
def detT (t : Th) : Th := if t.ro = t.ow then { t with de := true, ch := true, zo := true, zv := 0 } else if t.de = true then t else { t with de := true, xo := true, xv := 0 }
def detO (t : Th) (n : Nat) : List Ou := if t.ro = t.ow then [] else if t.de = true then [] else tcnR t n
def DetEnd (w : World) (t : Th) (A : Option Addr) (n cap : Nat) (e : Ending) (w' : World) : Prop := ∃ v, e = .returned (.tuple #[.agg (lT (detT t) A n cap).toArray, v]) ∧ OutsR w' w.heap.size v (detO t n) ∧ Below w.heap.size w w'
/-- Two cells of a box that stores may write. -/
theorem Hs.there2 {w wx : World} {l : List (Nat × TypeId × List Value)} (h : Hs w l wx) (k : Nat) {g : Nat} {T : TypeId} {cs : List Value} (o : Nat) (hk : l[k]? = some (g, T, cs)) (ho : o + 1 < cs.length) : wx.there g o 2 := fun j hj => by
  have e : ∃ v, cs[o + j]? = some v := ⟨_, List.getElem?_eq_getElem (by omega)⟩
  obtain ⟨v, hv⟩ := e
  exact ⟨by rw [h.cell k (o + j) hk hv]; rfl, h.thaw k (o + j) hk⟩

end Go.Proofs.YteplefdnnehdgaaDoor

/- Behind an Update: what holds of a view, and that doing it twice changes nothing; behind States: no memory. -/
namespace Go.Proofs.YteplefdnnehdgaaDoor
set_option maxRecDepth 100000
set_option linter.unusedVariables false

/-- Costs that all configurations, and all that is heard, have. -/
def CostB (p : Po) : Prop := 1 ≤ p.co ∧ p.co ≤ 65535 ∧ 0 ≤ p.hc ∧ p.hc < 2147483648

theorem desB_become (t : Th) (p : Po) : desB (becomeP t p) t.ow = true := by simp [desB, becomeP]
theorem desP_yes {t : Th} {p : Po} (h : takesB t p = true) : desP t p = becomeP t p := by unfold desP; rw [if_pos h]
theorem desP_no {t : Th} {p : Po} (h : takesB t p = false) : desP t p = p := by unfold desP; rw [if_neg (by rw [h]; decide)]
theorem desP_twice (t : Th) (p : Po) : desP t (desP t p) = desP t p := by
  cases h : takesB t p with
  | false => rw [desP_no h, desP_no h]
  | true =>
    rw [desP_yes h, desP_yes (by unfold takesB; rw [desB_become]; rfl)]
    rfl
theorem desL_twice (t : Th) (L : List Po) : desL t (desL t L) = desL t L := by
  unfold desL
  apply List.ext_getElem?
  intro j
  rw [allL_get, allL_get]
  cases L[j]? with
  | none => rfl
  | some x => simp only [Option.map_some, desP_twice]
theorem desP_id (t : Th) (p : Po) : (desP t p).id = p.id := by
  cases h : takesB t p with
  | false => rw [desP_no h]
  | true => rw [desP_yes h]; rfl
theorem desP_st (t : Th) (p : Po) : (desP t p).st = p.st := by
  cases h : takesB t p with
  | false => rw [desP_no h]
  | true => rw [desP_yes h]; rfl

theorem may_parts {p : Po} {o : Int} (h : mayB p o = true) : desB p o = false ∧ p.st ≠ 0 ∧ p.hr < o := by
  unfold mayB at h
  simp only [Bool.and_eq_true, Bool.not_eq_true', decide_eq_true_eq] at h
  exact h
theorem may_of {p : Po} {o : Int} (h1 : desB p o = false) (h2 : p.st ≠ 0) (h3 : p.hr < o) : mayB p o = true := by
  unfold mayB
  simp only [Bool.and_eq_true, Bool.not_eq_true', decide_eq_true_eq]
  exact ⟨h1, h2, h3⟩
theorem may_des {p : Po} {o : Int} (h : desB p o = true) : mayB p o = false := by unfold mayB; rw [h]; rfl

/-- The port to the root stays as it is. -/
theorem root_stays {t : Th} {p : Po} (hm : mayB p t.ow = true) (hr : t.ro = p.hr) (hc : t.co = farI p.hc p.co) (hk : CostB p) : takesB t p = false := by
  obtain ⟨h1, h2, h3⟩ := may_parts hm
  obtain ⟨k1, k2, k3, k4⟩ := hk
  unfold takesB
  rw [h1, hr]
  have e := wpI_cases (ownV t p) (heldV p)
  have e2 := cmpV_cases (ownV t p) (heldV p)
  have o1 : (ownV t p).r = p.hr := hr
  have o2 : (ownV t p).c = p.hc + p.co := by show t.co = _; rw [hc]; unfold farI; omega
  have o3 : (heldV p).r = p.hr := rfl
  have o4 : (heldV p).c = p.hc := rfl
  simp only [ne_eq, not_true_eq_false, decide_false, Bool.false_or, decide_eq_false_iff_not]
  omega

/-- What Select finds. -/
theorem sel_cases (t : Th) (L : List Po) :
    (bst t.ow L L.length = none ∧ selectT t L = { t with rp := -1, ro := t.ow, co := 0 } ∧ ∀ (i : Nat) p, L[i]? = some p → mayB p t.ow = false) ∨
    (∃ (j : Nat) (p : Po), L[j]? = some p ∧ bst t.ow L L.length = some j ∧ selectT t L = { t with rp := (j : Int), ro := p.hr, co := farI p.hc p.co } ∧ mayB p t.ow = true ∧ Top t.ow L L.length j) := by
  have hb := bst_spec t.ow L L.length
  revert hb
  cases e : bst t.ow L L.length with
  | none =>
    intro hb
    exact .inl ⟨rfl, by unfold selectT; rw [e]; rfl, fun i p hp => hb i (po_lt hp) p hp⟩
  | some j =>
    intro hb
    obtain ⟨hj, hT⟩ := hb
    have hT' := hT
    obtain ⟨p, h1, h2, _⟩ := hT'
    exact .inr ⟨j, p, h1, rfl, by unfold selectT; rw [e]; simp only [selT, h1], h2, hT⟩

theorem unlike_des {t : Th} {L : List Po} (h : Unlike L) : Unlike (desL t L) := by
  intro i j p q hp hq hn
  unfold desL at hp hq
  rw [allL_get] at hp hq
  cases hi : L[i]? with
  | none => rw [hi] at hp; cases hp
  | some x =>
    cases hj : L[j]? with
    | none => rw [hj] at hq; cases hq
    | some y =>
      rw [hi] at hp
      rw [hj] at hq
      cases hp
      cases hq
      rw [desP_id, desP_id]
      exact h i j x y hi hj hn
theorem des_may {t : Th} {x : Po} (h : mayB (desP t x) t.ow = true) : desP t x = x ∧ mayB x t.ow = true := by
  cases e : takesB t x with
  | false => rw [desP_no e] at h ⊢; exact ⟨rfl, h⟩
  | true => rw [desP_yes e, may_des (desB_become t x)] at h; cases h

theorem select_twice {t : Th} {L : List Po} (hU : Unlike L) (hk : ∀ x ∈ L, CostB x) : selectT (selectT t L) (desL (selectT t L) L) = selectT t L := by
  have how : (selectT t L).ow = t.ow := by
    rcases sel_cases t L with ⟨_, e, _⟩ | ⟨j, p, _, _, e, _⟩ <;> rw [e]
  rcases sel_cases t L with ⟨_, e, hn⟩ | ⟨j, p, hj, _, e, hm, hT⟩
  · rcases sel_cases (selectT t L) (desL (selectT t L) L) with ⟨_, e', _⟩ | ⟨j', p', hj', _, _, hm', _⟩
    · rw [e', e]
    · exfalso
      unfold desL at hj'
      rw [allL_get] at hj'
      cases hx : L[j']? with
      | none => rw [hx] at hj'; cases hj'
      | some x =>
        rw [hx] at hj'
        cases hj'
        have := (des_may hm').2
        rw [how, hn j' x hx] at this
        cases this
  · have hst : takesB (selectT t L) p = false := root_stays (by rw [how]; exact hm) (by rw [e]) (by rw [e]) (hk p (List.mem_of_getElem? hj))
    have hp' : (desL (selectT t L) L)[j]? = some p := by
      unfold desL
      rw [allL_get, hj]
      simp only [Option.map_some, desP_no hst]
    have hlen : (desL (selectT t L) L).length = L.length := allL_len _ _
    have hT' : Top (selectT t L).ow (desL (selectT t L) L) (desL (selectT t L) L).length j := by
      refine ⟨p, hp', by rw [how]; exact hm, fun i hi hne q hq hmq => ?_⟩
      obtain ⟨p0, h1, h2, h3⟩ := hT
      rw [hj] at h1
      cases h1
      unfold desL at hq
      rw [allL_get] at hq
      cases hx : L[i]? with
      | none => rw [hx] at hq; cases hq
      | some x =>
        rw [hx] at hq
        cases hq
        have hd := des_may hmq
        simp only at hd ⊢
        rw [hd.1]
        exact h3 i (by rw [hlen] at hi; exact hi) hne x hx (by have := hd.2; rwa [how] at this)
    rcases sel_cases (selectT t L) (desL (selectT t L) L) with ⟨_, _, hn⟩ | ⟨j', p', hj', _, e', hm', hT''⟩
    · exfalso
      have := hn j p hp'
      rw [how, hm] at this
      cases this
    · obtain rfl := top_one (unlike_des hU) hT'' hT'
      rw [hp'] at hj'
      cases hj'
      rw [e', e]

/-- What holds of each port behind an Update. -/
theorem upd_root {t : Th} {L : List Po} (hk : ∀ x ∈ L, CostB x) {i : Nat} {x : Po} (hx : L[i]? = some x) (hi : (i : Int) = (selectT t L).rp) :
    desP (selectT t L) x = x ∧ desB x t.ow = false ∧ x.st ≠ 0 ∧ x.hr = (selectT t L).ro := by
  rcases sel_cases t L with ⟨_, e, _⟩ | ⟨j, p, hj, _, e, hm, _⟩
  · rw [e] at hi
    simp only at hi
    omega
  · have hij : i = j := by rw [e] at hi; simp only at hi; omega
    subst hij
    rw [hj] at hx
    cases hx
    have how : (selectT t L).ow = t.ow := by rw [e]
    obtain ⟨m1, m2, m3⟩ := may_parts hm
    exact ⟨desP_no (root_stays (by rw [how]; exact hm) (by rw [e]) (by rw [e]) (hk _ (List.mem_of_getElem? hj))), m1, m2, by rw [e]⟩
theorem upd_least {t : Th} {L : List Po} {i : Nat} {x : Po} (hx : L[i]? = some x) (h1 : x.st ≠ 0) (h2 : desB x t.ow = false) : ¬ x.hr < (selectT t L).ro := by
  intro h3
  rcases sel_cases t L with ⟨_, e, hn⟩ | ⟨j, p, hj, _, e, hm, hT⟩
  · rw [e] at h3
    have := hn i x hx
    rw [may_of h2 h1 h3] at this
    cases this
  · rw [e] at h3
    have h3' : x.hr < p.hr := h3
    obtain ⟨m1, m2, m3⟩ := may_parts hm
    have hmx := may_of h2 h1 (show x.hr < t.ow by omega)
    obtain ⟨p0, q1, q2, q3⟩ := hT
    rw [hj] at q1
    cases q1
    by_cases hij : i = j
    · subst hij
      rw [hj] at hx
      cases hx
      omega
    · have := q3 i (po_lt hx) hij x hx hmx
      rw [← Bool.not_eq_true, betterB_iff] at this
      exact this (.inl h3')
theorem upd_is (t : Th) (L : List Po) : ((selectT t L).rp = -1 ∧ (selectT t L).ro = t.ow) ∨ (∃ j : Nat, j < L.length ∧ (selectT t L).rp = j ∧ (selectT t L).ro < t.ow) := by
  rcases sel_cases t L with ⟨_, e, _⟩ | ⟨j, p, hj, _, e, hm, _⟩
  · exact .inl (by rw [e]; exact ⟨rfl, rfl⟩)
  · exact .inr ⟨j, po_lt hj, by rw [e], by rw [e]; exact (may_parts hm).2.2⟩
theorem sel_ow (t : Th) (L : List Po) : (selectT t L).ow = t.ow := by
  rcases sel_cases t L with ⟨_, e, _⟩ | ⟨j, p, _, _, e, _⟩ <;> rw [e]

/-- Behind States. -/
def foreB (t : Th) (j : Nat) (y : Po) : Bool := decide ((j : Int) = t.rp) || desB y t.ow
theorem rise_parts (p : Po) : (riseP p).id = p.id ∧ (riseP p).hb = p.hb ∧ (riseP p).hp = p.hp ∧ (riseP p).ak = p.ak ∧ (riseP p).pe = p.pe ∧ (riseP p).ao = p.ao ∧ (riseP p).av = p.av ∧ (riseP p).st ≠ 1 ∧ ((riseP p).st = 0 ↔ p.st = 0) := by
  unfold riseP
  split
  · rename_i h
    refine ⟨rfl, rfl, rfl, rfl, rfl, rfl, rfl, by (show ¬ (2 : Int) = 1; decide), ?_⟩
    show (2 : Int) = 0 ↔ _
    omega
  · rename_i h
    exact ⟨rfl, rfl, rfl, rfl, rfl, rfl, rfl, h, Iff.rfl⟩
theorem rise_twice {p : Po} (h : p.st ≠ 1) : riseP p = p := by unfold riseP; rw [if_neg h]
theorem block_parts (p : Po) : (blockP p).1.id = p.id ∧ (blockP p).1.hb = p.hb ∧ (blockP p).1.hp = p.hp ∧ (blockP p).1.ak = p.ak ∧ (blockP p).1.pe = p.pe ∧ ((blockP p).1.st = 0 ∨ (blockP p).1.st = 1) ∧ ((blockP p).1.st = 0 ↔ p.st = 0) := by
  unfold blockP
  split
  · rename_i h
    exact ⟨rfl, rfl, rfl, rfl, rfl, h, Iff.rfl⟩
  · rename_i h
    refine ⟨rfl, rfl, rfl, rfl, rfl, .inr rfl, ?_⟩
    simp only
    omega
theorem block_twice {p : Po} (h : p.st = 0 ∨ p.st = 1) : blockP p = (p, false) := by unfold blockP; rw [if_pos h]
theorem owes_twice {p : Po} (h : p.ak = false) (h' : p.pe = false) : owesP p = p := by cases p; simp_all [owesP]
theorem rest_twice {p : Po} (h : p.ao = false) (h' : p.av = 0) : restP p = p := by cases p; simp_all [restP]
theorem desB_keep {p q : Po} {o : Int} (h1 : q.id = p.id) (h2 : q.hb = p.hb) (h3 : q.hp = p.hp) : desB q o = desB p o := by unfold desB; rw [h1, h2, h3]
theorem st_all (t : Th) (j : Nat) (y : Po) :
    desB (stP t j y).1 t.ow = desB y t.ow ∧ ((stP t j y).1.st = 0 ↔ y.st = 0) ∧ ((stP t j y).1.st ≠ 0 → ((stP t j y).1.st = 1 ↔ foreB t j y = false)) ∧ (foreB t j y = false → (stP t j y).1.pe = false ∧ (stP t j y).1.ak = false) ∧ stP t j (stP t j y).1 = ((stP t j y).1, false) := by
  unfold stP foreB
  by_cases h : (j : Int) = t.rp
  · simp only [h, if_true, decide_true, Bool.true_or]
    obtain ⟨a1, a2, a3, a4, a5, a6, a7, a8, a9⟩ := rise_parts (owesP y)
    refine ⟨desB_keep a1 a2 a3, a9, fun _ => ⟨fun e => absurd e a8, (fun e => by cases e)⟩, (fun e => by cases e), ?_⟩
    rw [owes_twice a4 a5, rise_twice a8]
  · simp only [h, if_false, decide_false, Bool.false_or]
    cases d : desB y t.ow with
    | true =>
      obtain ⟨a1, a2, a3, a4, a5, a6, a7, a8, a9⟩ := rise_parts (restP y)
      have hd : desB (riseP (restP y)) t.ow = true := (desB_keep a1 a2 a3).trans d
      simp only [if_true]
      refine ⟨hd, a9, fun _ => ⟨fun e => absurd e a8, (fun e => by cases e)⟩, (fun e => by cases e), ?_⟩
      rw [hd, if_pos rfl, rest_twice a6 a7, rise_twice a8]
    | false =>
      obtain ⟨a1, a2, a3, a4, a5, a6, a7⟩ := block_parts (owesP y)
      have hd : desB (blockP (owesP y)).1 t.ow = false := (desB_keep a1 a2 a3).trans d
      simp only [Bool.false_eq_true, if_false]
      refine ⟨hd, a7, fun e => ⟨fun _ => trivial, fun _ => by rcases a6 with q | q; exact absurd q e; exact q⟩, fun _ => ⟨a5, a4⟩, ?_⟩
      rw [hd]
      simp only [Bool.false_eq_true, if_false]
      rw [owes_twice a4 a5, block_twice a6]
theorem states_twice (t : Th) (L : List Po) : statesL t (statesL t L) = statesL t L := by
  unfold statesL
  apply List.ext_getElem?
  intro j
  rw [allL_get, allL_get]
  cases L[j]? with
  | none => rfl
  | some y => simp only [Option.map_some]; rw [(st_all t j y).2.2.2.2]
theorem lost_twice (t : Th) (L : List Po) : ∀ k, lostB t (statesL t L) k = false
  | 0 => rfl
  | k + 1 => by
    simp only [lostB, lost_twice t L k, Bool.false_or]
    unfold statesL
    rw [allL_get]
    cases L[k]? with
    | none => rfl
    | some y => simp only [Option.map_some]; rw [(st_all t k y).2.2.2.2]

end Go.Proofs.YteplefdnnehdgaaDoor
