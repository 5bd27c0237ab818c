/- Several texts in one, one behind the other: BpduRefPut, SendMem, SpanNum, SendPure, SendAllPure. -/
import Derived.Test.YtnmnihlhcokjpaaGreatDoorPk07
import Derived.Deep.DeepCutAuto
import Derived.Test.YtnmnihlhcokjpaaGreatDoorPk03
import Derived.Test.YtnmnihlhcokjpaaGreatDoorPk06
import Derived.Test.YtnmnihlhcokjpaaGreatDoorPk01
import Derived.Test.YtnmnihlhcokjpaaGreatDoorRows
import Derived.Lib.MinMax
import Derived.Test.YtnmnihlhcokjpaaGreatDoorPk04

/- The document's bytes of numbers and of a Bpdu: the same. -/
namespace Go.Proofs.YtnmnihlhcokjpaaGreatDoor
set_option maxRecDepth 100000
open Go.ChangeShapes Go.WideShapes Go.ChangeAt Go.RowKit
set_option linter.unusedVariables false

theorem own_of_bkR {w : World} {base g : Nat} {l : List UInt8} (n : Nat) (hn : Hid (l.length = n)) (hm : n ≤ 1000000) (h : Bk w g 5 (l.map bc)) (hb : base ≤ g) : w.ownsRow base 5 1 (.slice (some ⟨g, 0, none⟩) n n) n (l.map bc) := by
  have e := hn.out
  subst e
  exact ⟨by simp, .inr ⟨g, l.length, (l.map bc).toArray, rfl, hb, h, Nat.le_refl _, by unfold maxLen; omega, by simp, by rw [Nat.mul_one]; exact List.take_of_length_le (by simp)⟩⟩

theorem own_below {w w' : World} {base g n cap B : Nat} {l : List UInt8} (h : w.ownsRow base 5 1 (.slice (some ⟨g, 0, none⟩) n cap) n (l.map bc)) (hb : Below B w w') (hg : g < B) : w'.ownsRow base 5 1 (.slice (some ⟨g, 0, none⟩) n cap) n (l.map bc) := by
  obtain ⟨h1, ⟨h2, _⟩ | ⟨g', cap', cur, hv, hbb, hh, r⟩⟩ := h
  · cases h2
  · injection hv with e1 _ e3
    injection e1 with e1
    injection e1 with e1
    subst e1; subst e3
    exact ⟨h1, .inr ⟨g, cap, cur, rfl, hbb, (hb.block g hg).trans hh, r⟩⟩

/-- Bytes appended to a row of the call's own, nil or not. -/
theorem append_v (w : World) {ops : Array Oper} {rest : List Oper} {o : Oper} {a : Act} {Q : Exit → Act → World → Prop} (hgd : o.guard = none) (s x : Operand)
    (ho : o.op = .call { callee := .builtin .append, args := #[s, x], argTypes := #[79, 79] })
    (base n : Nat) (v : Value) (l : List UInt8) (hs : a.eval s = v) (hown : w.ownsRow base 5 1 v n (l.map bc))
    (ad : Addr) (m c lo hi : Nat) (l2 : List UInt8) (hx : a.eval x = .slice (some ad) m c) (hr : RB w (some ad) lo hi l2) (hl : Hid (l2.length = m))
    (hn : n + m ≤ 1000000) (hbase : base ≤ w.heap.size) (B : Nat) (w0 : World) (hb : Below B w0 w) (hB : B ≤ base)
    (h : ∀ v' w', w'.ownsRow base 5 1 v' (n + m) ((l ++ l2).map bc) → Below B w0 w' → wpList Tryz.prog ops Q rest (a.put o.dst v') w') :
    wpList Tryz.prog ops Q (o :: rest) a w := by
  obtain ⟨i0, hi0, hz0, hz1, hz2⟩ := info_parts Tryz.infoByte
  refine wpList_append_own w hgd s x 79 ho base 5 i0 (.int .u8 0) 1 1 Tryz.underlying79 hi0 hz0 hz1 hz2 rfl (by decide) v n (l.map bc) hs hown ad m c (l2.map bc) hx (by rw [List.length_map, hl.out, Nat.mul_one]) (src_cells hr) (one_bcs l2) (by unfold maxLen; omega) (by omega) hbase ?_
  intro v' w' hown' hgrow hnil
  rw [← List.map_append] at hown'
  refine h v' w' hown' (hb.grown hgrow (Nat.le_trans hB hbase) (fun k hk => ?_))
  rcases hown.2 with ⟨hv, _⟩ | ⟨g, cap, cur, hv, hbb, _⟩
  · subst hv; simp [Value.ownBlock] at hk
  · subst hv; simp [Value.ownBlock] at hk; omega

/-- What the document's 'Put' of a number leaves: a row of the call's own. -/
def RPut (n : Int) (k : Nat) (w : World) (e : Ending) (w' : World) : Prop :=
  ∃ v, e = .returned v ∧ w'.ownsRow w.heap.size 5 1 v k ((beB n k).map bc) ∧ Below w.heap.size w w'

theorem one_byte (w : World) (n : Int) : Bk (w.alloc (.cells #[.int .u8 (n % 256)] 5)) w.heap.size 5 ([UInt8.ofNat (n % 256).toNat].map bc) := by
  have e : [UInt8.ofNat (n % 256).toNat].map bc = [.int .u8 (n % 256)] := by simp only [List.map_cons, List.map_nil, bc, byte_nat]
  rw [e]
  exact heap_alloc_new w _

theorem refput03 (k : Nat) : ∀ (n : Int) (w : World), 0 ≤ n → n < 18446744073709551616 → k ≤ 1000 → Calls Tryz.prog 114 #[.int .u64 n, .int .i64 (k : Int)] w (RPut n k w) := by
  induction k with
  | zero =>
    intro n w h0 h1 hk
    go_enter Tryz.func114, Tryz.ntmps114
    go_wp2
    go_ret
    exact ⟨_, rfl, World.ownsRow_nil w _ _ _, Below.refl _ _⟩
  | succ k ih =>
    intro n w h0 h1 hk
    have IH := Lib.hid (ih (n / 256) w (by omega) (by omega) (by omega))
    clear ih
    have d1 : decide ((k : Int) + 1 < 1) = false := by simp; omega
    go_enter Tryz.func114, Tryz.ntmps114
    go_wp2_with fail
    (with_reducible refine IH.out.mono ?_); rintro e w1 ⟨v, rfl, hown, hb1⟩
    have hob := one_byte w1 n
    have hbn : Below w1.heap.size w1 (w1.alloc (.cells #[.int .u8 (n % 256)] 5)) := below_new (Nat.le_refl _)
    have hz := hb1.size
    go_wp2_with (at_builtin; refine append_v _ rfl (.tmp 11) (.tmp 15) rfl w.heap.size k v (beB (n / 256) k) rfl (hown.alloc _) ⟨w1.heap.size, 0, none⟩ 1 1 0 (w1.heap.size + 1) [UInt8.ofNat (n % 256).toNat] rfl (hob.rb 0 (w1.heap.size + 1) (Nat.zero_le _) (Nat.lt_succ_self _)) (Lib.hid rfl) (by omega) (by simp; omega) w.heap.size w (below_two hb1 hbn hz) (Nat.le_refl _) ?_; intro v2 w2 hown2 hb2)
    go_ret
    exact ⟨_, rfl, hown2, hb2⟩

/-- The same where there are bytes. -/
def RPutS (n : Int) (k : Nat) (w : World) (e : Ending) (w' : World) : Prop :=
  ∃ g c, e = .returned (.slice (some ⟨g, 0, none⟩) k c) ∧ RB w' (some ⟨g, 0, none⟩) 0 w'.heap.size (beB n k) ∧ Below w.heap.size w w'

theorem refput_s (k : Nat) (sz : Int) (hsz : Hid (sz = k)) (n : Int) (w : World) (h0 : 0 ≤ n) (h1 : n < 18446744073709551616) (hk0 : 0 < k) (hk : k ≤ 1000) : Calls Tryz.prog 114 #[.int .u64 n, .int .i64 sz] w (RPutS n k w) := by
  rw [hsz.out]
  refine (refput03 k n w h0 h1 hk).mono ?_
  rintro e w' ⟨v, rfl, hown, hb⟩
  obtain ⟨g, c, rfl, hg⟩ := owns_some hown hk0
  obtain ⟨hrow, _, _⟩ := Row.of_own hown
  exact ⟨g, c, rfl, hrow.rb 0 _ (Nat.zero_le _) hrow.lt, hb⟩

/-- What the document's 'Put' leaves. -/
def RefBPutEnd (l : List UInt8) (n : Nat) (w : World) (e : Ending) (w' : World) : Prop :=
  ∃ g c, e = .returned (.slice (some ⟨g, 0, none⟩) n c) ∧ w.heap.size ≤ g ∧ Row w' g c l ∧ l.length = n ∧ Below w.heap.size w w'

theorem refput_tcn (ch ak : Bool) (ro co br po ag ma he de : Int) (w : World) :
    Calls Tryz.prog 88 #[.agg #[.bool true, .bool ch, .bool ak, .int .u64 ro, .int .u32 co, .int .u64 br, .int .u16 po, .int .u16 ag, .int .u16 ma, .int .u16 he, .int .u16 de]] w (RefBPutEnd tcnB 4 w) := by
  go_enter Tryz.func88, Tryz.ntmps88
  go_wp2
  go_ret
  refine ⟨_, _, rfl, ?_, ⟨[], rfl, by decide, ?_⟩, by decide, (below_new (Nat.le_refl _)).alloc (by simp) _⟩
  · simp
  · have e : tcnB.map bc ++ [] = [.int .u8 0, .int .u8 0, .int .u8 0, .int .u8 128] := by kernel_rfl
    rw [e]
    have := heap_alloc_new (w.alloc (.cells #[.bool true, .bool ch, .bool ak, .int .u64 ro, .int .u32 co, .int .u64 br, .int .u16 po, .int .u16 ag, .int .u16 ma, .int .u16 he, .int .u16 de] 46)) (.cells #[.int .u8 0, .int .u8 0, .int .u8 0, .int .u8 128] 5)
    rw [World.size_alloc] at this
    exact this

theorem head5 (ch ak : Bool) : ((beB 0 3 ++ beB 0 1) ++ beB (flI ch ak) 1).map bc = [.int .u8 0, .int .u8 0, .int .u8 0, .int .u8 0, .int .u8 (flI ch ak)] := by
  cases ch <;> cases ak <;> kernel_rfl

theorem head5_len (ch ak : Bool) : ((beB 0 3 ++ beB 0 1) ++ beB (flI ch ak) 1).length = 5 := by simp [beB_len]

/-- The row of five bytes, as the document's text lays it. -/
theorem row5 (w : World) (n : Int) : Bk (w.alloc (.cells #[.int .u8 0, .int .u8 0, .int .u8 0, .int .u8 0, .int .u8 n] 5)) w.heap.size 5 [.int .u8 0, .int .u8 0, .int .u8 0, .int .u8 0, .int .u8 n] := heap_alloc_new w _

set_option maxRecDepth 100000 in
set_option maxHeartbeats 2000000 in
theorem refput_cfg (ch ak : Bool) (ro co br po ag ma he de : Int) (hin : BpIn ro co br po ag ma he de) (w : World) :
    Calls Tryz.prog 88 #[.agg #[.bool false, .bool ch, .bool ak, .int .u64 ro, .int .u32 co, .int .u64 br, .int .u16 po, .int .u16 ag, .int .u16 ma, .int .u16 he, .int .u16 de]] w (RefBPutEnd (bpB ch ak ro co br po ag ma he de) 35 w) := by
  obtain ⟨⟨r0, r1⟩, ⟨o0, o1⟩, ⟨b0, b1⟩, ⟨p0, p1⟩, ⟨a0, a1⟩, ⟨m0, m1⟩, ⟨h0, h1⟩, ⟨d0, d1⟩⟩ := hin
  have hfin := Lib.hid (head5 ch ak)
  have hlen := Lib.hid (bpB_len ch ak ro co br po ag ma he de)
  match ch, ak with
  | false, false =>
    go_enter Tryz.func88, Tryz.ntmps88
    go_upto_region 1 with fail
    obtain ⟨w0, hB0, hb0, hs0, hw0⟩ := bboxed w false false false ro co br po ag ma he de
    rw [← hw0]
    clear hw0
    obtain ⟨c0, c1, c2, c3, c4, c5, c6, c7, c8, c9, c10⟩ := hB0.cells
    go_wp2_with fail
    (with_reducible refine (refput_s 8 8 (Lib.hid rfl) ro _ r0 r1 (by omega) (by omega)).mono ?_); rintro e wv ⟨gv, cv, rfl, hrv, hbv⟩
    have hfl : ((beB 0 3 ++ beB 0 1) ++ beB (flI false false) 1).map bc = [.int .u8 0, .int .u8 0, .int .u8 0, .int .u8 0, .int .u8 0] := by kernel_rfl
    have hP1 : Bk wv w0.heap.size 5 (((beB 0 3 ++ beB 0 1) ++ beB (flI false false) 1).map bc) := by rw [hfl]; exact Bk.below (row5 w0 0) hbv (by simp)
    have hbW : Below (w.heap.size + 1) w0 wv := (below_new hs0).trans (hbv.mono (by simp; omega))
    obtain ⟨l0, hl0⟩ : ∃ l, l = (beB 0 3 ++ beB 0 1) ++ beB (flI false false) 1 := ⟨_, rfl⟩
    have hn0 : Hid (l0.length = 5) := by show _ = _; rw [hl0, head5_len]
    rw [← hl0] at hP1
    have HL0 := Lib.hid hl0
    have hown := own_of_bkR 5 hn0 (by omega) hP1 (base := w.heap.size + 1) hs0
    have hsW : w.heap.size + 1 ≤ wv.heap.size := Nat.le_trans hs0 hbW.size
    clear hl0 hfl hbv hP1 c0 c1 c2 c3 c4 c5 c6 c7 c8 c9 c10
    have hk1 : Hid ((beB ro 8).length = 8) := Lib.hid (beB_len ro 8)
    go_wp2_with (at_builtin; refine append_bytes _ rfl (.tmp 24) (.tmp 27) rfl (w.heap.size + 1) w0.heap.size 5 5 l0 rfl hown (some ⟨gv, 0, none⟩) 8 cv 0 wv.heap.size (beB ro 8) rfl hrv hk1 (fun e => by cases e) (by omega) hsW (w.heap.size + 1) w0 hbW (Nat.le_refl _) ?_; intro g1 cap1 w1 hown1 hb1 hsz1; have hB1 := hB0.below hb1 (Nat.lt_succ_self _); obtain ⟨c0, c1, c2, c3, c4, c5, c6, c7, c8, c9, c10⟩ := hB1.cells)
    obtain ⟨l1, hl1⟩ : ∃ l, l = l0 ++ beB ro 8 := ⟨_, rfl⟩
    rw [← hl1] at hown1
    have HL1 := Lib.hid hl1
    clear hl1 hown hrv hbW hsW hk1
    (with_reducible refine (refput_s 4 4 (Lib.hid rfl) co _ o0 (by omega) (by omega) (by omega)).mono ?_); rintro e wv ⟨gv, cv, rfl, hrv, hbv⟩
    have hown := own_below hown1 hbv (Row.of_own hown1).1.lt
    have hbW : Below (w.heap.size + 1) w0 wv := hb1.trans (hbv.mono hsz1)
    have hsW : w.heap.size + 1 ≤ wv.heap.size := Nat.le_trans hsz1 hbv.size
    clear hbv hown1 hb1 hsz1 hB1 c0 c1 c2 c3 c4 c5 c6 c7 c8 c9 c10
    have hk2 : Hid ((beB co 4).length = 4) := Lib.hid (beB_len co 4)
    go_wp2_with (at_builtin; refine append_bytes _ rfl (.tmp 29) (.tmp 33) rfl (w.heap.size + 1) g1 13 cap1 l1 rfl hown (some ⟨gv, 0, none⟩) 4 cv 0 wv.heap.size (beB co 4) rfl hrv hk2 (fun e => by cases e) (by omega) hsW (w.heap.size + 1) w0 hbW (Nat.le_refl _) ?_; intro g2 cap2 w2 hown2 hb2 hsz2; have hB2 := hB0.below hb2 (Nat.lt_succ_self _); obtain ⟨c0, c1, c2, c3, c4, c5, c6, c7, c8, c9, c10⟩ := hB2.cells)
    obtain ⟨l2, hl2⟩ : ∃ l, l = l1 ++ beB co 4 := ⟨_, rfl⟩
    rw [← hl2] at hown2
    have HL2 := Lib.hid hl2
    clear hl2 hown hrv hbW hsW hk2
    (with_reducible refine (refput_s 8 8 (Lib.hid rfl) br _ b0 (by omega) (by omega) (by omega)).mono ?_); rintro e wv ⟨gv, cv, rfl, hrv, hbv⟩
    have hown := own_below hown2 hbv (Row.of_own hown2).1.lt
    have hbW : Below (w.heap.size + 1) w0 wv := hb2.trans (hbv.mono hsz2)
    have hsW : w.heap.size + 1 ≤ wv.heap.size := Nat.le_trans hsz2 hbv.size
    clear hbv hown2 hb2 hsz2 hB2 c0 c1 c2 c3 c4 c5 c6 c7 c8 c9 c10
    have hk3 : Hid ((beB br 8).length = 8) := Lib.hid (beB_len br 8)
    go_wp2_with (at_builtin; refine append_bytes _ rfl (.tmp 35) (.tmp 38) rfl (w.heap.size + 1) g2 17 cap2 l2 rfl hown (some ⟨gv, 0, none⟩) 8 cv 0 wv.heap.size (beB br 8) rfl hrv hk3 (fun e => by cases e) (by omega) hsW (w.heap.size + 1) w0 hbW (Nat.le_refl _) ?_; intro g3 cap3 w3 hown3 hb3 hsz3; have hB3 := hB0.below hb3 (Nat.lt_succ_self _); obtain ⟨c0, c1, c2, c3, c4, c5, c6, c7, c8, c9, c10⟩ := hB3.cells)
    obtain ⟨l3, hl3⟩ : ∃ l, l = l2 ++ beB br 8 := ⟨_, rfl⟩
    rw [← hl3] at hown3
    have HL3 := Lib.hid hl3
    clear hl3 hown hrv hbW hsW hk3
    (with_reducible refine (refput_s 2 2 (Lib.hid rfl) po _ p0 (by omega) (by omega) (by omega)).mono ?_); rintro e wv ⟨gv, cv, rfl, hrv, hbv⟩
    have hown := own_below hown3 hbv (Row.of_own hown3).1.lt
    have hbW : Below (w.heap.size + 1) w0 wv := hb3.trans (hbv.mono hsz3)
    have hsW : w.heap.size + 1 ≤ wv.heap.size := Nat.le_trans hsz3 hbv.size
    clear hbv hown3 hb3 hsz3 hB3 c0 c1 c2 c3 c4 c5 c6 c7 c8 c9 c10
    have hk4 : Hid ((beB po 2).length = 2) := Lib.hid (beB_len po 2)
    go_wp2_with (at_builtin; refine append_bytes _ rfl (.tmp 40) (.tmp 44) rfl (w.heap.size + 1) g3 25 cap3 l3 rfl hown (some ⟨gv, 0, none⟩) 2 cv 0 wv.heap.size (beB po 2) rfl hrv hk4 (fun e => by cases e) (by omega) hsW (w.heap.size + 1) w0 hbW (Nat.le_refl _) ?_; intro g4 cap4 w4 hown4 hb4 hsz4; have hB4 := hB0.below hb4 (Nat.lt_succ_self _); obtain ⟨c0, c1, c2, c3, c4, c5, c6, c7, c8, c9, c10⟩ := hB4.cells)
    obtain ⟨l4, hl4⟩ : ∃ l, l = l3 ++ beB po 2 := ⟨_, rfl⟩
    rw [← hl4] at hown4
    have HL4 := Lib.hid hl4
    clear hl4 hown hrv hbW hsW hk4
    (with_reducible refine (refput_s 2 2 (Lib.hid rfl) ag _ a0 (by omega) (by omega) (by omega)).mono ?_); rintro e wv ⟨gv, cv, rfl, hrv, hbv⟩
    have hown := own_below hown4 hbv (Row.of_own hown4).1.lt
    have hbW : Below (w.heap.size + 1) w0 wv := hb4.trans (hbv.mono hsz4)
    have hsW : w.heap.size + 1 ≤ wv.heap.size := Nat.le_trans hsz4 hbv.size
    clear hbv hown4 hb4 hsz4 hB4 c0 c1 c2 c3 c4 c5 c6 c7 c8 c9 c10
    have hk5 : Hid ((beB ag 2).length = 2) := Lib.hid (beB_len ag 2)
    go_wp2_with (at_builtin; refine append_bytes _ rfl (.tmp 46) (.tmp 50) rfl (w.heap.size + 1) g4 27 cap4 l4 rfl hown (some ⟨gv, 0, none⟩) 2 cv 0 wv.heap.size (beB ag 2) rfl hrv hk5 (fun e => by cases e) (by omega) hsW (w.heap.size + 1) w0 hbW (Nat.le_refl _) ?_; intro g5 cap5 w5 hown5 hb5 hsz5; have hB5 := hB0.below hb5 (Nat.lt_succ_self _); obtain ⟨c0, c1, c2, c3, c4, c5, c6, c7, c8, c9, c10⟩ := hB5.cells)
    obtain ⟨l5, hl5⟩ : ∃ l, l = l4 ++ beB ag 2 := ⟨_, rfl⟩
    rw [← hl5] at hown5
    have HL5 := Lib.hid hl5
    clear hl5 hown hrv hbW hsW hk5
    (with_reducible refine (refput_s 2 2 (Lib.hid rfl) ma _ m0 (by omega) (by omega) (by omega)).mono ?_); rintro e wv ⟨gv, cv, rfl, hrv, hbv⟩
    have hown := own_below hown5 hbv (Row.of_own hown5).1.lt
    have hbW : Below (w.heap.size + 1) w0 wv := hb5.trans (hbv.mono hsz5)
    have hsW : w.heap.size + 1 ≤ wv.heap.size := Nat.le_trans hsz5 hbv.size
    clear hbv hown5 hb5 hsz5 hB5 c0 c1 c2 c3 c4 c5 c6 c7 c8 c9 c10
    have hk6 : Hid ((beB ma 2).length = 2) := Lib.hid (beB_len ma 2)
    go_wp2_with (at_builtin; refine append_bytes _ rfl (.tmp 52) (.tmp 56) rfl (w.heap.size + 1) g5 29 cap5 l5 rfl hown (some ⟨gv, 0, none⟩) 2 cv 0 wv.heap.size (beB ma 2) rfl hrv hk6 (fun e => by cases e) (by omega) hsW (w.heap.size + 1) w0 hbW (Nat.le_refl _) ?_; intro g6 cap6 w6 hown6 hb6 hsz6; have hB6 := hB0.below hb6 (Nat.lt_succ_self _); obtain ⟨c0, c1, c2, c3, c4, c5, c6, c7, c8, c9, c10⟩ := hB6.cells)
    obtain ⟨l6, hl6⟩ : ∃ l, l = l5 ++ beB ma 2 := ⟨_, rfl⟩
    rw [← hl6] at hown6
    have HL6 := Lib.hid hl6
    clear hl6 hown hrv hbW hsW hk6
    (with_reducible refine (refput_s 2 2 (Lib.hid rfl) he _ h0 (by omega) (by omega) (by omega)).mono ?_); rintro e wv ⟨gv, cv, rfl, hrv, hbv⟩
    have hown := own_below hown6 hbv (Row.of_own hown6).1.lt
    have hbW : Below (w.heap.size + 1) w0 wv := hb6.trans (hbv.mono hsz6)
    have hsW : w.heap.size + 1 ≤ wv.heap.size := Nat.le_trans hsz6 hbv.size
    clear hbv hown6 hb6 hsz6 hB6 c0 c1 c2 c3 c4 c5 c6 c7 c8 c9 c10
    have hk7 : Hid ((beB he 2).length = 2) := Lib.hid (beB_len he 2)
    go_wp2_with (at_builtin; refine append_bytes _ rfl (.tmp 58) (.tmp 62) rfl (w.heap.size + 1) g6 31 cap6 l6 rfl hown (some ⟨gv, 0, none⟩) 2 cv 0 wv.heap.size (beB he 2) rfl hrv hk7 (fun e => by cases e) (by omega) hsW (w.heap.size + 1) w0 hbW (Nat.le_refl _) ?_; intro g7 cap7 w7 hown7 hb7 hsz7; have hB7 := hB0.below hb7 (Nat.lt_succ_self _); obtain ⟨c0, c1, c2, c3, c4, c5, c6, c7, c8, c9, c10⟩ := hB7.cells)
    obtain ⟨l7, hl7⟩ : ∃ l, l = l6 ++ beB he 2 := ⟨_, rfl⟩
    rw [← hl7] at hown7
    have HL7 := Lib.hid hl7
    clear hl7 hown hrv hbW hsW hk7
    (with_reducible refine (refput_s 2 2 (Lib.hid rfl) de _ d0 (by omega) (by omega) (by omega)).mono ?_); rintro e wv ⟨gv, cv, rfl, hrv, hbv⟩
    have hown := own_below hown7 hbv (Row.of_own hown7).1.lt
    have hbW : Below (w.heap.size + 1) w0 wv := hb7.trans (hbv.mono hsz7)
    have hsW : w.heap.size + 1 ≤ wv.heap.size := Nat.le_trans hsz7 hbv.size
    clear hbv hown7 hb7 hsz7 hB7 c0 c1 c2 c3 c4 c5 c6 c7 c8 c9 c10
    have hk8 : Hid ((beB de 2).length = 2) := Lib.hid (beB_len de 2)
    go_wp2_with (at_builtin; refine append_bytes _ rfl (.tmp 64) (.tmp 68) rfl (w.heap.size + 1) g7 33 cap7 l7 rfl hown (some ⟨gv, 0, none⟩) 2 cv 0 wv.heap.size (beB de 2) rfl hrv hk8 (fun e => by cases e) (by omega) hsW (w.heap.size + 1) w0 hbW (Nat.le_refl _) ?_; intro g8 cap8 w8 hown8 hb8 hsz8)
    obtain ⟨hrow, hg, hq⟩ := Row.of_own hown8
    have hE : bpB false false ro co br po ag ma he de = l7 ++ beB de 2 := by rw [HL7.out, HL6.out, HL5.out, HL4.out, HL3.out, HL2.out, HL1.out, HL0.out]; rfl
    rw [← hE] at hrow
    go_ret
    exact ⟨g8, cap8, rfl, Nat.le_of_succ_le hg, hrow, hlen.out, hb0.trans (hb8.mono (Nat.le_succ _))⟩
  | false, true =>
    go_enter Tryz.func88, Tryz.ntmps88
    go_upto_region 1 with fail
    obtain ⟨w0, hB0, hb0, hs0, hw0⟩ := bboxed w false false true ro co br po ag ma he de
    rw [← hw0]
    clear hw0
    obtain ⟨c0, c1, c2, c3, c4, c5, c6, c7, c8, c9, c10⟩ := hB0.cells
    go_wp2_with fail
    (with_reducible refine (refput_s 8 8 (Lib.hid rfl) ro _ r0 r1 (by omega) (by omega)).mono ?_); rintro e wv ⟨gv, cv, rfl, hrv, hbv⟩
    have hfl : ((beB 0 3 ++ beB 0 1) ++ beB (flI false true) 1).map bc = [.int .u8 0, .int .u8 0, .int .u8 0, .int .u8 0, .int .u8 128] := by kernel_rfl
    have hP1 : Bk wv w0.heap.size 5 (((beB 0 3 ++ beB 0 1) ++ beB (flI false true) 1).map bc) := by rw [hfl]; exact Bk.below (row5 w0 128) hbv (by simp)
    have hbW : Below (w.heap.size + 1) w0 wv := (below_new hs0).trans (hbv.mono (by simp; omega))
    obtain ⟨l0, hl0⟩ : ∃ l, l = (beB 0 3 ++ beB 0 1) ++ beB (flI false true) 1 := ⟨_, rfl⟩
    have hn0 : Hid (l0.length = 5) := by show _ = _; rw [hl0, head5_len]
    rw [← hl0] at hP1
    have HL0 := Lib.hid hl0
    have hown := own_of_bkR 5 hn0 (by omega) hP1 (base := w.heap.size + 1) hs0
    have hsW : w.heap.size + 1 ≤ wv.heap.size := Nat.le_trans hs0 hbW.size
    clear hl0 hfl hbv hP1 c0 c1 c2 c3 c4 c5 c6 c7 c8 c9 c10
    have hk1 : Hid ((beB ro 8).length = 8) := Lib.hid (beB_len ro 8)
    go_wp2_with (at_builtin; refine append_bytes _ rfl (.tmp 24) (.tmp 27) rfl (w.heap.size + 1) w0.heap.size 5 5 l0 rfl hown (some ⟨gv, 0, none⟩) 8 cv 0 wv.heap.size (beB ro 8) rfl hrv hk1 (fun e => by cases e) (by omega) hsW (w.heap.size + 1) w0 hbW (Nat.le_refl _) ?_; intro g1 cap1 w1 hown1 hb1 hsz1; have hB1 := hB0.below hb1 (Nat.lt_succ_self _); obtain ⟨c0, c1, c2, c3, c4, c5, c6, c7, c8, c9, c10⟩ := hB1.cells)
    obtain ⟨l1, hl1⟩ : ∃ l, l = l0 ++ beB ro 8 := ⟨_, rfl⟩
    rw [← hl1] at hown1
    have HL1 := Lib.hid hl1
    clear hl1 hown hrv hbW hsW hk1
    (with_reducible refine (refput_s 4 4 (Lib.hid rfl) co _ o0 (by omega) (by omega) (by omega)).mono ?_); rintro e wv ⟨gv, cv, rfl, hrv, hbv⟩
    have hown := own_below hown1 hbv (Row.of_own hown1).1.lt
    have hbW : Below (w.heap.size + 1) w0 wv := hb1.trans (hbv.mono hsz1)
    have hsW : w.heap.size + 1 ≤ wv.heap.size := Nat.le_trans hsz1 hbv.size
    clear hbv hown1 hb1 hsz1 hB1 c0 c1 c2 c3 c4 c5 c6 c7 c8 c9 c10
    have hk2 : Hid ((beB co 4).length = 4) := Lib.hid (beB_len co 4)
    go_wp2_with (at_builtin; refine append_bytes _ rfl (.tmp 29) (.tmp 33) rfl (w.heap.size + 1) g1 13 cap1 l1 rfl hown (some ⟨gv, 0, none⟩) 4 cv 0 wv.heap.size (beB co 4) rfl hrv hk2 (fun e => by cases e) (by omega) hsW (w.heap.size + 1) w0 hbW (Nat.le_refl _) ?_; intro g2 cap2 w2 hown2 hb2 hsz2; have hB2 := hB0.below hb2 (Nat.lt_succ_self _); obtain ⟨c0, c1, c2, c3, c4, c5, c6, c7, c8, c9, c10⟩ := hB2.cells)
    obtain ⟨l2, hl2⟩ : ∃ l, l = l1 ++ beB co 4 := ⟨_, rfl⟩
    rw [← hl2] at hown2
    have HL2 := Lib.hid hl2
    clear hl2 hown hrv hbW hsW hk2
    (with_reducible refine (refput_s 8 8 (Lib.hid rfl) br _ b0 (by omega) (by omega) (by omega)).mono ?_); rintro e wv ⟨gv, cv, rfl, hrv, hbv⟩
    have hown := own_below hown2 hbv (Row.of_own hown2).1.lt
    have hbW : Below (w.heap.size + 1) w0 wv := hb2.trans (hbv.mono hsz2)
    have hsW : w.heap.size + 1 ≤ wv.heap.size := Nat.le_trans hsz2 hbv.size
    clear hbv hown2 hb2 hsz2 hB2 c0 c1 c2 c3 c4 c5 c6 c7 c8 c9 c10
    have hk3 : Hid ((beB br 8).length = 8) := Lib.hid (beB_len br 8)
    go_wp2_with (at_builtin; refine append_bytes _ rfl (.tmp 35) (.tmp 38) rfl (w.heap.size + 1) g2 17 cap2 l2 rfl hown (some ⟨gv, 0, none⟩) 8 cv 0 wv.heap.size (beB br 8) rfl hrv hk3 (fun e => by cases e) (by omega) hsW (w.heap.size + 1) w0 hbW (Nat.le_refl _) ?_; intro g3 cap3 w3 hown3 hb3 hsz3; have hB3 := hB0.below hb3 (Nat.lt_succ_self _); obtain ⟨c0, c1, c2, c3, c4, c5, c6, c7, c8, c9, c10⟩ := hB3.cells)
    obtain ⟨l3, hl3⟩ : ∃ l, l = l2 ++ beB br 8 := ⟨_, rfl⟩
    rw [← hl3] at hown3
    have HL3 := Lib.hid hl3
    clear hl3 hown hrv hbW hsW hk3
    (with_reducible refine (refput_s 2 2 (Lib.hid rfl) po _ p0 (by omega) (by omega) (by omega)).mono ?_); rintro e wv ⟨gv, cv, rfl, hrv, hbv⟩
    have hown := own_below hown3 hbv (Row.of_own hown3).1.lt
    have hbW : Below (w.heap.size + 1) w0 wv := hb3.trans (hbv.mono hsz3)
    have hsW : w.heap.size + 1 ≤ wv.heap.size := Nat.le_trans hsz3 hbv.size
    clear hbv hown3 hb3 hsz3 hB3 c0 c1 c2 c3 c4 c5 c6 c7 c8 c9 c10
    have hk4 : Hid ((beB po 2).length = 2) := Lib.hid (beB_len po 2)
    go_wp2_with (at_builtin; refine append_bytes _ rfl (.tmp 40) (.tmp 44) rfl (w.heap.size + 1) g3 25 cap3 l3 rfl hown (some ⟨gv, 0, none⟩) 2 cv 0 wv.heap.size (beB po 2) rfl hrv hk4 (fun e => by cases e) (by omega) hsW (w.heap.size + 1) w0 hbW (Nat.le_refl _) ?_; intro g4 cap4 w4 hown4 hb4 hsz4; have hB4 := hB0.below hb4 (Nat.lt_succ_self _); obtain ⟨c0, c1, c2, c3, c4, c5, c6, c7, c8, c9, c10⟩ := hB4.cells)
    obtain ⟨l4, hl4⟩ : ∃ l, l = l3 ++ beB po 2 := ⟨_, rfl⟩
    rw [← hl4] at hown4
    have HL4 := Lib.hid hl4
    clear hl4 hown hrv hbW hsW hk4
    (with_reducible refine (refput_s 2 2 (Lib.hid rfl) ag _ a0 (by omega) (by omega) (by omega)).mono ?_); rintro e wv ⟨gv, cv, rfl, hrv, hbv⟩
    have hown := own_below hown4 hbv (Row.of_own hown4).1.lt
    have hbW : Below (w.heap.size + 1) w0 wv := hb4.trans (hbv.mono hsz4)
    have hsW : w.heap.size + 1 ≤ wv.heap.size := Nat.le_trans hsz4 hbv.size
    clear hbv hown4 hb4 hsz4 hB4 c0 c1 c2 c3 c4 c5 c6 c7 c8 c9 c10
    have hk5 : Hid ((beB ag 2).length = 2) := Lib.hid (beB_len ag 2)
    go_wp2_with (at_builtin; refine append_bytes _ rfl (.tmp 46) (.tmp 50) rfl (w.heap.size + 1) g4 27 cap4 l4 rfl hown (some ⟨gv, 0, none⟩) 2 cv 0 wv.heap.size (beB ag 2) rfl hrv hk5 (fun e => by cases e) (by omega) hsW (w.heap.size + 1) w0 hbW (Nat.le_refl _) ?_; intro g5 cap5 w5 hown5 hb5 hsz5; have hB5 := hB0.below hb5 (Nat.lt_succ_self _); obtain ⟨c0, c1, c2, c3, c4, c5, c6, c7, c8, c9, c10⟩ := hB5.cells)
    obtain ⟨l5, hl5⟩ : ∃ l, l = l4 ++ beB ag 2 := ⟨_, rfl⟩
    rw [← hl5] at hown5
    have HL5 := Lib.hid hl5
    clear hl5 hown hrv hbW hsW hk5
    (with_reducible refine (refput_s 2 2 (Lib.hid rfl) ma _ m0 (by omega) (by omega) (by omega)).mono ?_); rintro e wv ⟨gv, cv, rfl, hrv, hbv⟩
    have hown := own_below hown5 hbv (Row.of_own hown5).1.lt
    have hbW : Below (w.heap.size + 1) w0 wv := hb5.trans (hbv.mono hsz5)
    have hsW : w.heap.size + 1 ≤ wv.heap.size := Nat.le_trans hsz5 hbv.size
    clear hbv hown5 hb5 hsz5 hB5 c0 c1 c2 c3 c4 c5 c6 c7 c8 c9 c10
    have hk6 : Hid ((beB ma 2).length = 2) := Lib.hid (beB_len ma 2)
    go_wp2_with (at_builtin; refine append_bytes _ rfl (.tmp 52) (.tmp 56) rfl (w.heap.size + 1) g5 29 cap5 l5 rfl hown (some ⟨gv, 0, none⟩) 2 cv 0 wv.heap.size (beB ma 2) rfl hrv hk6 (fun e => by cases e) (by omega) hsW (w.heap.size + 1) w0 hbW (Nat.le_refl _) ?_; intro g6 cap6 w6 hown6 hb6 hsz6; have hB6 := hB0.below hb6 (Nat.lt_succ_self _); obtain ⟨c0, c1, c2, c3, c4, c5, c6, c7, c8, c9, c10⟩ := hB6.cells)
    obtain ⟨l6, hl6⟩ : ∃ l, l = l5 ++ beB ma 2 := ⟨_, rfl⟩
    rw [← hl6] at hown6
    have HL6 := Lib.hid hl6
    clear hl6 hown hrv hbW hsW hk6
    (with_reducible refine (refput_s 2 2 (Lib.hid rfl) he _ h0 (by omega) (by omega) (by omega)).mono ?_); rintro e wv ⟨gv, cv, rfl, hrv, hbv⟩
    have hown := own_below hown6 hbv (Row.of_own hown6).1.lt
    have hbW : Below (w.heap.size + 1) w0 wv := hb6.trans (hbv.mono hsz6)
    have hsW : w.heap.size + 1 ≤ wv.heap.size := Nat.le_trans hsz6 hbv.size
    clear hbv hown6 hb6 hsz6 hB6 c0 c1 c2 c3 c4 c5 c6 c7 c8 c9 c10
    have hk7 : Hid ((beB he 2).length = 2) := Lib.hid (beB_len he 2)
    go_wp2_with (at_builtin; refine append_bytes _ rfl (.tmp 58) (.tmp 62) rfl (w.heap.size + 1) g6 31 cap6 l6 rfl hown (some ⟨gv, 0, none⟩) 2 cv 0 wv.heap.size (beB he 2) rfl hrv hk7 (fun e => by cases e) (by omega) hsW (w.heap.size + 1) w0 hbW (Nat.le_refl _) ?_; intro g7 cap7 w7 hown7 hb7 hsz7; have hB7 := hB0.below hb7 (Nat.lt_succ_self _); obtain ⟨c0, c1, c2, c3, c4, c5, c6, c7, c8, c9, c10⟩ := hB7.cells)
    obtain ⟨l7, hl7⟩ : ∃ l, l = l6 ++ beB he 2 := ⟨_, rfl⟩
    rw [← hl7] at hown7
    have HL7 := Lib.hid hl7
    clear hl7 hown hrv hbW hsW hk7
    (with_reducible refine (refput_s 2 2 (Lib.hid rfl) de _ d0 (by omega) (by omega) (by omega)).mono ?_); rintro e wv ⟨gv, cv, rfl, hrv, hbv⟩
    have hown := own_below hown7 hbv (Row.of_own hown7).1.lt
    have hbW : Below (w.heap.size + 1) w0 wv := hb7.trans (hbv.mono hsz7)
    have hsW : w.heap.size + 1 ≤ wv.heap.size := Nat.le_trans hsz7 hbv.size
    clear hbv hown7 hb7 hsz7 hB7 c0 c1 c2 c3 c4 c5 c6 c7 c8 c9 c10
    have hk8 : Hid ((beB de 2).length = 2) := Lib.hid (beB_len de 2)
    go_wp2_with (at_builtin; refine append_bytes _ rfl (.tmp 64) (.tmp 68) rfl (w.heap.size + 1) g7 33 cap7 l7 rfl hown (some ⟨gv, 0, none⟩) 2 cv 0 wv.heap.size (beB de 2) rfl hrv hk8 (fun e => by cases e) (by omega) hsW (w.heap.size + 1) w0 hbW (Nat.le_refl _) ?_; intro g8 cap8 w8 hown8 hb8 hsz8)
    obtain ⟨hrow, hg, hq⟩ := Row.of_own hown8
    have hE : bpB false true ro co br po ag ma he de = l7 ++ beB de 2 := by rw [HL7.out, HL6.out, HL5.out, HL4.out, HL3.out, HL2.out, HL1.out, HL0.out]; rfl
    rw [← hE] at hrow
    go_ret
    exact ⟨g8, cap8, rfl, Nat.le_of_succ_le hg, hrow, hlen.out, hb0.trans (hb8.mono (Nat.le_succ _))⟩
  | true, false =>
    go_enter Tryz.func88, Tryz.ntmps88
    go_upto_region 1 with fail
    obtain ⟨w0, hB0, hb0, hs0, hw0⟩ := bboxed w false true false ro co br po ag ma he de
    rw [← hw0]
    clear hw0
    obtain ⟨c0, c1, c2, c3, c4, c5, c6, c7, c8, c9, c10⟩ := hB0.cells
    go_wp2_with fail
    (with_reducible refine (refput_s 8 8 (Lib.hid rfl) ro _ r0 r1 (by omega) (by omega)).mono ?_); rintro e wv ⟨gv, cv, rfl, hrv, hbv⟩
    have hfl : ((beB 0 3 ++ beB 0 1) ++ beB (flI true false) 1).map bc = [.int .u8 0, .int .u8 0, .int .u8 0, .int .u8 0, .int .u8 1] := by kernel_rfl
    have hP1 : Bk wv w0.heap.size 5 (((beB 0 3 ++ beB 0 1) ++ beB (flI true false) 1).map bc) := by rw [hfl]; exact Bk.below (row5 w0 1) hbv (by simp)
    have hbW : Below (w.heap.size + 1) w0 wv := (below_new hs0).trans (hbv.mono (by simp; omega))
    obtain ⟨l0, hl0⟩ : ∃ l, l = (beB 0 3 ++ beB 0 1) ++ beB (flI true false) 1 := ⟨_, rfl⟩
    have hn0 : Hid (l0.length = 5) := by show _ = _; rw [hl0, head5_len]
    rw [← hl0] at hP1
    have HL0 := Lib.hid hl0
    have hown := own_of_bkR 5 hn0 (by omega) hP1 (base := w.heap.size + 1) hs0
    have hsW : w.heap.size + 1 ≤ wv.heap.size := Nat.le_trans hs0 hbW.size
    clear hl0 hfl hbv hP1 c0 c1 c2 c3 c4 c5 c6 c7 c8 c9 c10
    have hk1 : Hid ((beB ro 8).length = 8) := Lib.hid (beB_len ro 8)
    go_wp2_with (at_builtin; refine append_bytes _ rfl (.tmp 24) (.tmp 27) rfl (w.heap.size + 1) w0.heap.size 5 5 l0 rfl hown (some ⟨gv, 0, none⟩) 8 cv 0 wv.heap.size (beB ro 8) rfl hrv hk1 (fun e => by cases e) (by omega) hsW (w.heap.size + 1) w0 hbW (Nat.le_refl _) ?_; intro g1 cap1 w1 hown1 hb1 hsz1; have hB1 := hB0.below hb1 (Nat.lt_succ_self _); obtain ⟨c0, c1, c2, c3, c4, c5, c6, c7, c8, c9, c10⟩ := hB1.cells)
    obtain ⟨l1, hl1⟩ : ∃ l, l = l0 ++ beB ro 8 := ⟨_, rfl⟩
    rw [← hl1] at hown1
    have HL1 := Lib.hid hl1
    clear hl1 hown hrv hbW hsW hk1
    (with_reducible refine (refput_s 4 4 (Lib.hid rfl) co _ o0 (by omega) (by omega) (by omega)).mono ?_); rintro e wv ⟨gv, cv, rfl, hrv, hbv⟩
    have hown := own_below hown1 hbv (Row.of_own hown1).1.lt
    have hbW : Below (w.heap.size + 1) w0 wv := hb1.trans (hbv.mono hsz1)
    have hsW : w.heap.size + 1 ≤ wv.heap.size := Nat.le_trans hsz1 hbv.size
    clear hbv hown1 hb1 hsz1 hB1 c0 c1 c2 c3 c4 c5 c6 c7 c8 c9 c10
    have hk2 : Hid ((beB co 4).length = 4) := Lib.hid (beB_len co 4)
    go_wp2_with (at_builtin; refine append_bytes _ rfl (.tmp 29) (.tmp 33) rfl (w.heap.size + 1) g1 13 cap1 l1 rfl hown (some ⟨gv, 0, none⟩) 4 cv 0 wv.heap.size (beB co 4) rfl hrv hk2 (fun e => by cases e) (by omega) hsW (w.heap.size + 1) w0 hbW (Nat.le_refl _) ?_; intro g2 cap2 w2 hown2 hb2 hsz2; have hB2 := hB0.below hb2 (Nat.lt_succ_self _); obtain ⟨c0, c1, c2, c3, c4, c5, c6, c7, c8, c9, c10⟩ := hB2.cells)
    obtain ⟨l2, hl2⟩ : ∃ l, l = l1 ++ beB co 4 := ⟨_, rfl⟩
    rw [← hl2] at hown2
    have HL2 := Lib.hid hl2
    clear hl2 hown hrv hbW hsW hk2
    (with_reducible refine (refput_s 8 8 (Lib.hid rfl) br _ b0 (by omega) (by omega) (by omega)).mono ?_); rintro e wv ⟨gv, cv, rfl, hrv, hbv⟩
    have hown := own_below hown2 hbv (Row.of_own hown2).1.lt
    have hbW : Below (w.heap.size + 1) w0 wv := hb2.trans (hbv.mono hsz2)
    have hsW : w.heap.size + 1 ≤ wv.heap.size := Nat.le_trans hsz2 hbv.size
    clear hbv hown2 hb2 hsz2 hB2 c0 c1 c2 c3 c4 c5 c6 c7 c8 c9 c10
    have hk3 : Hid ((beB br 8).length = 8) := Lib.hid (beB_len br 8)
    go_wp2_with (at_builtin; refine append_bytes _ rfl (.tmp 35) (.tmp 38) rfl (w.heap.size + 1) g2 17 cap2 l2 rfl hown (some ⟨gv, 0, none⟩) 8 cv 0 wv.heap.size (beB br 8) rfl hrv hk3 (fun e => by cases e) (by omega) hsW (w.heap.size + 1) w0 hbW (Nat.le_refl _) ?_; intro g3 cap3 w3 hown3 hb3 hsz3; have hB3 := hB0.below hb3 (Nat.lt_succ_self _); obtain ⟨c0, c1, c2, c3, c4, c5, c6, c7, c8, c9, c10⟩ := hB3.cells)
    obtain ⟨l3, hl3⟩ : ∃ l, l = l2 ++ beB br 8 := ⟨_, rfl⟩
    rw [← hl3] at hown3
    have HL3 := Lib.hid hl3
    clear hl3 hown hrv hbW hsW hk3
    (with_reducible refine (refput_s 2 2 (Lib.hid rfl) po _ p0 (by omega) (by omega) (by omega)).mono ?_); rintro e wv ⟨gv, cv, rfl, hrv, hbv⟩
    have hown := own_below hown3 hbv (Row.of_own hown3).1.lt
    have hbW : Below (w.heap.size + 1) w0 wv := hb3.trans (hbv.mono hsz3)
    have hsW : w.heap.size + 1 ≤ wv.heap.size := Nat.le_trans hsz3 hbv.size
    clear hbv hown3 hb3 hsz3 hB3 c0 c1 c2 c3 c4 c5 c6 c7 c8 c9 c10
    have hk4 : Hid ((beB po 2).length = 2) := Lib.hid (beB_len po 2)
    go_wp2_with (at_builtin; refine append_bytes _ rfl (.tmp 40) (.tmp 44) rfl (w.heap.size + 1) g3 25 cap3 l3 rfl hown (some ⟨gv, 0, none⟩) 2 cv 0 wv.heap.size (beB po 2) rfl hrv hk4 (fun e => by cases e) (by omega) hsW (w.heap.size + 1) w0 hbW (Nat.le_refl _) ?_; intro g4 cap4 w4 hown4 hb4 hsz4; have hB4 := hB0.below hb4 (Nat.lt_succ_self _); obtain ⟨c0, c1, c2, c3, c4, c5, c6, c7, c8, c9, c10⟩ := hB4.cells)
    obtain ⟨l4, hl4⟩ : ∃ l, l = l3 ++ beB po 2 := ⟨_, rfl⟩
    rw [← hl4] at hown4
    have HL4 := Lib.hid hl4
    clear hl4 hown hrv hbW hsW hk4
    (with_reducible refine (refput_s 2 2 (Lib.hid rfl) ag _ a0 (by omega) (by omega) (by omega)).mono ?_); rintro e wv ⟨gv, cv, rfl, hrv, hbv⟩
    have hown := own_below hown4 hbv (Row.of_own hown4).1.lt
    have hbW : Below (w.heap.size + 1) w0 wv := hb4.trans (hbv.mono hsz4)
    have hsW : w.heap.size + 1 ≤ wv.heap.size := Nat.le_trans hsz4 hbv.size
    clear hbv hown4 hb4 hsz4 hB4 c0 c1 c2 c3 c4 c5 c6 c7 c8 c9 c10
    have hk5 : Hid ((beB ag 2).length = 2) := Lib.hid (beB_len ag 2)
    go_wp2_with (at_builtin; refine append_bytes _ rfl (.tmp 46) (.tmp 50) rfl (w.heap.size + 1) g4 27 cap4 l4 rfl hown (some ⟨gv, 0, none⟩) 2 cv 0 wv.heap.size (beB ag 2) rfl hrv hk5 (fun e => by cases e) (by omega) hsW (w.heap.size + 1) w0 hbW (Nat.le_refl _) ?_; intro g5 cap5 w5 hown5 hb5 hsz5; have hB5 := hB0.below hb5 (Nat.lt_succ_self _); obtain ⟨c0, c1, c2, c3, c4, c5, c6, c7, c8, c9, c10⟩ := hB5.cells)
    obtain ⟨l5, hl5⟩ : ∃ l, l = l4 ++ beB ag 2 := ⟨_, rfl⟩
    rw [← hl5] at hown5
    have HL5 := Lib.hid hl5
    clear hl5 hown hrv hbW hsW hk5
    (with_reducible refine (refput_s 2 2 (Lib.hid rfl) ma _ m0 (by omega) (by omega) (by omega)).mono ?_); rintro e wv ⟨gv, cv, rfl, hrv, hbv⟩
    have hown := own_below hown5 hbv (Row.of_own hown5).1.lt
    have hbW : Below (w.heap.size + 1) w0 wv := hb5.trans (hbv.mono hsz5)
    have hsW : w.heap.size + 1 ≤ wv.heap.size := Nat.le_trans hsz5 hbv.size
    clear hbv hown5 hb5 hsz5 hB5 c0 c1 c2 c3 c4 c5 c6 c7 c8 c9 c10
    have hk6 : Hid ((beB ma 2).length = 2) := Lib.hid (beB_len ma 2)
    go_wp2_with (at_builtin; refine append_bytes _ rfl (.tmp 52) (.tmp 56) rfl (w.heap.size + 1) g5 29 cap5 l5 rfl hown (some ⟨gv, 0, none⟩) 2 cv 0 wv.heap.size (beB ma 2) rfl hrv hk6 (fun e => by cases e) (by omega) hsW (w.heap.size + 1) w0 hbW (Nat.le_refl _) ?_; intro g6 cap6 w6 hown6 hb6 hsz6; have hB6 := hB0.below hb6 (Nat.lt_succ_self _); obtain ⟨c0, c1, c2, c3, c4, c5, c6, c7, c8, c9, c10⟩ := hB6.cells)
    obtain ⟨l6, hl6⟩ : ∃ l, l = l5 ++ beB ma 2 := ⟨_, rfl⟩
    rw [← hl6] at hown6
    have HL6 := Lib.hid hl6
    clear hl6 hown hrv hbW hsW hk6
    (with_reducible refine (refput_s 2 2 (Lib.hid rfl) he _ h0 (by omega) (by omega) (by omega)).mono ?_); rintro e wv ⟨gv, cv, rfl, hrv, hbv⟩
    have hown := own_below hown6 hbv (Row.of_own hown6).1.lt
    have hbW : Below (w.heap.size + 1) w0 wv := hb6.trans (hbv.mono hsz6)
    have hsW : w.heap.size + 1 ≤ wv.heap.size := Nat.le_trans hsz6 hbv.size
    clear hbv hown6 hb6 hsz6 hB6 c0 c1 c2 c3 c4 c5 c6 c7 c8 c9 c10
    have hk7 : Hid ((beB he 2).length = 2) := Lib.hid (beB_len he 2)
    go_wp2_with (at_builtin; refine append_bytes _ rfl (.tmp 58) (.tmp 62) rfl (w.heap.size + 1) g6 31 cap6 l6 rfl hown (some ⟨gv, 0, none⟩) 2 cv 0 wv.heap.size (beB he 2) rfl hrv hk7 (fun e => by cases e) (by omega) hsW (w.heap.size + 1) w0 hbW (Nat.le_refl _) ?_; intro g7 cap7 w7 hown7 hb7 hsz7; have hB7 := hB0.below hb7 (Nat.lt_succ_self _); obtain ⟨c0, c1, c2, c3, c4, c5, c6, c7, c8, c9, c10⟩ := hB7.cells)
    obtain ⟨l7, hl7⟩ : ∃ l, l = l6 ++ beB he 2 := ⟨_, rfl⟩
    rw [← hl7] at hown7
    have HL7 := Lib.hid hl7
    clear hl7 hown hrv hbW hsW hk7
    (with_reducible refine (refput_s 2 2 (Lib.hid rfl) de _ d0 (by omega) (by omega) (by omega)).mono ?_); rintro e wv ⟨gv, cv, rfl, hrv, hbv⟩
    have hown := own_below hown7 hbv (Row.of_own hown7).1.lt
    have hbW : Below (w.heap.size + 1) w0 wv := hb7.trans (hbv.mono hsz7)
    have hsW : w.heap.size + 1 ≤ wv.heap.size := Nat.le_trans hsz7 hbv.size
    clear hbv hown7 hb7 hsz7 hB7 c0 c1 c2 c3 c4 c5 c6 c7 c8 c9 c10
    have hk8 : Hid ((beB de 2).length = 2) := Lib.hid (beB_len de 2)
    go_wp2_with (at_builtin; refine append_bytes _ rfl (.tmp 64) (.tmp 68) rfl (w.heap.size + 1) g7 33 cap7 l7 rfl hown (some ⟨gv, 0, none⟩) 2 cv 0 wv.heap.size (beB de 2) rfl hrv hk8 (fun e => by cases e) (by omega) hsW (w.heap.size + 1) w0 hbW (Nat.le_refl _) ?_; intro g8 cap8 w8 hown8 hb8 hsz8)
    obtain ⟨hrow, hg, hq⟩ := Row.of_own hown8
    have hE : bpB true false ro co br po ag ma he de = l7 ++ beB de 2 := by rw [HL7.out, HL6.out, HL5.out, HL4.out, HL3.out, HL2.out, HL1.out, HL0.out]; rfl
    rw [← hE] at hrow
    go_ret
    exact ⟨g8, cap8, rfl, Nat.le_of_succ_le hg, hrow, hlen.out, hb0.trans (hb8.mono (Nat.le_succ _))⟩
  | true, true =>
    go_enter Tryz.func88, Tryz.ntmps88
    go_upto_region 1 with fail
    obtain ⟨w0, hB0, hb0, hs0, hw0⟩ := bboxed w false true true ro co br po ag ma he de
    rw [← hw0]
    clear hw0
    obtain ⟨c0, c1, c2, c3, c4, c5, c6, c7, c8, c9, c10⟩ := hB0.cells
    go_wp2_with fail
    (with_reducible refine (refput_s 8 8 (Lib.hid rfl) ro _ r0 r1 (by omega) (by omega)).mono ?_); rintro e wv ⟨gv, cv, rfl, hrv, hbv⟩
    have hfl : ((beB 0 3 ++ beB 0 1) ++ beB (flI true true) 1).map bc = [.int .u8 0, .int .u8 0, .int .u8 0, .int .u8 0, .int .u8 129] := by kernel_rfl
    have hP1 : Bk wv w0.heap.size 5 (((beB 0 3 ++ beB 0 1) ++ beB (flI true true) 1).map bc) := by rw [hfl]; exact Bk.below (row5 w0 129) hbv (by simp)
    have hbW : Below (w.heap.size + 1) w0 wv := (below_new hs0).trans (hbv.mono (by simp; omega))
    obtain ⟨l0, hl0⟩ : ∃ l, l = (beB 0 3 ++ beB 0 1) ++ beB (flI true true) 1 := ⟨_, rfl⟩
    have hn0 : Hid (l0.length = 5) := by show _ = _; rw [hl0, head5_len]
    rw [← hl0] at hP1
    have HL0 := Lib.hid hl0
    have hown := own_of_bkR 5 hn0 (by omega) hP1 (base := w.heap.size + 1) hs0
    have hsW : w.heap.size + 1 ≤ wv.heap.size := Nat.le_trans hs0 hbW.size
    clear hl0 hfl hbv hP1 c0 c1 c2 c3 c4 c5 c6 c7 c8 c9 c10
    have hk1 : Hid ((beB ro 8).length = 8) := Lib.hid (beB_len ro 8)
    go_wp2_with (at_builtin; refine append_bytes _ rfl (.tmp 24) (.tmp 27) rfl (w.heap.size + 1) w0.heap.size 5 5 l0 rfl hown (some ⟨gv, 0, none⟩) 8 cv 0 wv.heap.size (beB ro 8) rfl hrv hk1 (fun e => by cases e) (by omega) hsW (w.heap.size + 1) w0 hbW (Nat.le_refl _) ?_; intro g1 cap1 w1 hown1 hb1 hsz1; have hB1 := hB0.below hb1 (Nat.lt_succ_self _); obtain ⟨c0, c1, c2, c3, c4, c5, c6, c7, c8, c9, c10⟩ := hB1.cells)
    obtain ⟨l1, hl1⟩ : ∃ l, l = l0 ++ beB ro 8 := ⟨_, rfl⟩
    rw [← hl1] at hown1
    have HL1 := Lib.hid hl1
    clear hl1 hown hrv hbW hsW hk1
    (with_reducible refine (refput_s 4 4 (Lib.hid rfl) co _ o0 (by omega) (by omega) (by omega)).mono ?_); rintro e wv ⟨gv, cv, rfl, hrv, hbv⟩
    have hown := own_below hown1 hbv (Row.of_own hown1).1.lt
    have hbW : Below (w.heap.size + 1) w0 wv := hb1.trans (hbv.mono hsz1)
    have hsW : w.heap.size + 1 ≤ wv.heap.size := Nat.le_trans hsz1 hbv.size
    clear hbv hown1 hb1 hsz1 hB1 c0 c1 c2 c3 c4 c5 c6 c7 c8 c9 c10
    have hk2 : Hid ((beB co 4).length = 4) := Lib.hid (beB_len co 4)
    go_wp2_with (at_builtin; refine append_bytes _ rfl (.tmp 29) (.tmp 33) rfl (w.heap.size + 1) g1 13 cap1 l1 rfl hown (some ⟨gv, 0, none⟩) 4 cv 0 wv.heap.size (beB co 4) rfl hrv hk2 (fun e => by cases e) (by omega) hsW (w.heap.size + 1) w0 hbW (Nat.le_refl _) ?_; intro g2 cap2 w2 hown2 hb2 hsz2; have hB2 := hB0.below hb2 (Nat.lt_succ_self _); obtain ⟨c0, c1, c2, c3, c4, c5, c6, c7, c8, c9, c10⟩ := hB2.cells)
    obtain ⟨l2, hl2⟩ : ∃ l, l = l1 ++ beB co 4 := ⟨_, rfl⟩
    rw [← hl2] at hown2
    have HL2 := Lib.hid hl2
    clear hl2 hown hrv hbW hsW hk2
    (with_reducible refine (refput_s 8 8 (Lib.hid rfl) br _ b0 (by omega) (by omega) (by omega)).mono ?_); rintro e wv ⟨gv, cv, rfl, hrv, hbv⟩
    have hown := own_below hown2 hbv (Row.of_own hown2).1.lt
    have hbW : Below (w.heap.size + 1) w0 wv := hb2.trans (hbv.mono hsz2)
    have hsW : w.heap.size + 1 ≤ wv.heap.size := Nat.le_trans hsz2 hbv.size
    clear hbv hown2 hb2 hsz2 hB2 c0 c1 c2 c3 c4 c5 c6 c7 c8 c9 c10
    have hk3 : Hid ((beB br 8).length = 8) := Lib.hid (beB_len br 8)
    go_wp2_with (at_builtin; refine append_bytes _ rfl (.tmp 35) (.tmp 38) rfl (w.heap.size + 1) g2 17 cap2 l2 rfl hown (some ⟨gv, 0, none⟩) 8 cv 0 wv.heap.size (beB br 8) rfl hrv hk3 (fun e => by cases e) (by omega) hsW (w.heap.size + 1) w0 hbW (Nat.le_refl _) ?_; intro g3 cap3 w3 hown3 hb3 hsz3; have hB3 := hB0.below hb3 (Nat.lt_succ_self _); obtain ⟨c0, c1, c2, c3, c4, c5, c6, c7, c8, c9, c10⟩ := hB3.cells)
    obtain ⟨l3, hl3⟩ : ∃ l, l = l2 ++ beB br 8 := ⟨_, rfl⟩
    rw [← hl3] at hown3
    have HL3 := Lib.hid hl3
    clear hl3 hown hrv hbW hsW hk3
    (with_reducible refine (refput_s 2 2 (Lib.hid rfl) po _ p0 (by omega) (by omega) (by omega)).mono ?_); rintro e wv ⟨gv, cv, rfl, hrv, hbv⟩
    have hown := own_below hown3 hbv (Row.of_own hown3).1.lt
    have hbW : Below (w.heap.size + 1) w0 wv := hb3.trans (hbv.mono hsz3)
    have hsW : w.heap.size + 1 ≤ wv.heap.size := Nat.le_trans hsz3 hbv.size
    clear hbv hown3 hb3 hsz3 hB3 c0 c1 c2 c3 c4 c5 c6 c7 c8 c9 c10
    have hk4 : Hid ((beB po 2).length = 2) := Lib.hid (beB_len po 2)
    go_wp2_with (at_builtin; refine append_bytes _ rfl (.tmp 40) (.tmp 44) rfl (w.heap.size + 1) g3 25 cap3 l3 rfl hown (some ⟨gv, 0, none⟩) 2 cv 0 wv.heap.size (beB po 2) rfl hrv hk4 (fun e => by cases e) (by omega) hsW (w.heap.size + 1) w0 hbW (Nat.le_refl _) ?_; intro g4 cap4 w4 hown4 hb4 hsz4; have hB4 := hB0.below hb4 (Nat.lt_succ_self _); obtain ⟨c0, c1, c2, c3, c4, c5, c6, c7, c8, c9, c10⟩ := hB4.cells)
    obtain ⟨l4, hl4⟩ : ∃ l, l = l3 ++ beB po 2 := ⟨_, rfl⟩
    rw [← hl4] at hown4
    have HL4 := Lib.hid hl4
    clear hl4 hown hrv hbW hsW hk4
    (with_reducible refine (refput_s 2 2 (Lib.hid rfl) ag _ a0 (by omega) (by omega) (by omega)).mono ?_); rintro e wv ⟨gv, cv, rfl, hrv, hbv⟩
    have hown := own_below hown4 hbv (Row.of_own hown4).1.lt
    have hbW : Below (w.heap.size + 1) w0 wv := hb4.trans (hbv.mono hsz4)
    have hsW : w.heap.size + 1 ≤ wv.heap.size := Nat.le_trans hsz4 hbv.size
    clear hbv hown4 hb4 hsz4 hB4 c0 c1 c2 c3 c4 c5 c6 c7 c8 c9 c10
    have hk5 : Hid ((beB ag 2).length = 2) := Lib.hid (beB_len ag 2)
    go_wp2_with (at_builtin; refine append_bytes _ rfl (.tmp 46) (.tmp 50) rfl (w.heap.size + 1) g4 27 cap4 l4 rfl hown (some ⟨gv, 0, none⟩) 2 cv 0 wv.heap.size (beB ag 2) rfl hrv hk5 (fun e => by cases e) (by omega) hsW (w.heap.size + 1) w0 hbW (Nat.le_refl _) ?_; intro g5 cap5 w5 hown5 hb5 hsz5; have hB5 := hB0.below hb5 (Nat.lt_succ_self _); obtain ⟨c0, c1, c2, c3, c4, c5, c6, c7, c8, c9, c10⟩ := hB5.cells)
    obtain ⟨l5, hl5⟩ : ∃ l, l = l4 ++ beB ag 2 := ⟨_, rfl⟩
    rw [← hl5] at hown5
    have HL5 := Lib.hid hl5
    clear hl5 hown hrv hbW hsW hk5
    (with_reducible refine (refput_s 2 2 (Lib.hid rfl) ma _ m0 (by omega) (by omega) (by omega)).mono ?_); rintro e wv ⟨gv, cv, rfl, hrv, hbv⟩
    have hown := own_below hown5 hbv (Row.of_own hown5).1.lt
    have hbW : Below (w.heap.size + 1) w0 wv := hb5.trans (hbv.mono hsz5)
    have hsW : w.heap.size + 1 ≤ wv.heap.size := Nat.le_trans hsz5 hbv.size
    clear hbv hown5 hb5 hsz5 hB5 c0 c1 c2 c3 c4 c5 c6 c7 c8 c9 c10
    have hk6 : Hid ((beB ma 2).length = 2) := Lib.hid (beB_len ma 2)
    go_wp2_with (at_builtin; refine append_bytes _ rfl (.tmp 52) (.tmp 56) rfl (w.heap.size + 1) g5 29 cap5 l5 rfl hown (some ⟨gv, 0, none⟩) 2 cv 0 wv.heap.size (beB ma 2) rfl hrv hk6 (fun e => by cases e) (by omega) hsW (w.heap.size + 1) w0 hbW (Nat.le_refl _) ?_; intro g6 cap6 w6 hown6 hb6 hsz6; have hB6 := hB0.below hb6 (Nat.lt_succ_self _); obtain ⟨c0, c1, c2, c3, c4, c5, c6, c7, c8, c9, c10⟩ := hB6.cells)
    obtain ⟨l6, hl6⟩ : ∃ l, l = l5 ++ beB ma 2 := ⟨_, rfl⟩
    rw [← hl6] at hown6
    have HL6 := Lib.hid hl6
    clear hl6 hown hrv hbW hsW hk6
    (with_reducible refine (refput_s 2 2 (Lib.hid rfl) he _ h0 (by omega) (by omega) (by omega)).mono ?_); rintro e wv ⟨gv, cv, rfl, hrv, hbv⟩
    have hown := own_below hown6 hbv (Row.of_own hown6).1.lt
    have hbW : Below (w.heap.size + 1) w0 wv := hb6.trans (hbv.mono hsz6)
    have hsW : w.heap.size + 1 ≤ wv.heap.size := Nat.le_trans hsz6 hbv.size
    clear hbv hown6 hb6 hsz6 hB6 c0 c1 c2 c3 c4 c5 c6 c7 c8 c9 c10
    have hk7 : Hid ((beB he 2).length = 2) := Lib.hid (beB_len he 2)
    go_wp2_with (at_builtin; refine append_bytes _ rfl (.tmp 58) (.tmp 62) rfl (w.heap.size + 1) g6 31 cap6 l6 rfl hown (some ⟨gv, 0, none⟩) 2 cv 0 wv.heap.size (beB he 2) rfl hrv hk7 (fun e => by cases e) (by omega) hsW (w.heap.size + 1) w0 hbW (Nat.le_refl _) ?_; intro g7 cap7 w7 hown7 hb7 hsz7; have hB7 := hB0.below hb7 (Nat.lt_succ_self _); obtain ⟨c0, c1, c2, c3, c4, c5, c6, c7, c8, c9, c10⟩ := hB7.cells)
    obtain ⟨l7, hl7⟩ : ∃ l, l = l6 ++ beB he 2 := ⟨_, rfl⟩
    rw [← hl7] at hown7
    have HL7 := Lib.hid hl7
    clear hl7 hown hrv hbW hsW hk7
    (with_reducible refine (refput_s 2 2 (Lib.hid rfl) de _ d0 (by omega) (by omega) (by omega)).mono ?_); rintro e wv ⟨gv, cv, rfl, hrv, hbv⟩
    have hown := own_below hown7 hbv (Row.of_own hown7).1.lt
    have hbW : Below (w.heap.size + 1) w0 wv := hb7.trans (hbv.mono hsz7)
    have hsW : w.heap.size + 1 ≤ wv.heap.size := Nat.le_trans hsz7 hbv.size
    clear hbv hown7 hb7 hsz7 hB7 c0 c1 c2 c3 c4 c5 c6 c7 c8 c9 c10
    have hk8 : Hid ((beB de 2).length = 2) := Lib.hid (beB_len de 2)
    go_wp2_with (at_builtin; refine append_bytes _ rfl (.tmp 64) (.tmp 68) rfl (w.heap.size + 1) g7 33 cap7 l7 rfl hown (some ⟨gv, 0, none⟩) 2 cv 0 wv.heap.size (beB de 2) rfl hrv hk8 (fun e => by cases e) (by omega) hsW (w.heap.size + 1) w0 hbW (Nat.le_refl _) ?_; intro g8 cap8 w8 hown8 hb8 hsz8)
    obtain ⟨hrow, hg, hq⟩ := Row.of_own hown8
    have hE : bpB true true ro co br po ag ma he de = l7 ++ beB de 2 := by rw [HL7.out, HL6.out, HL5.out, HL4.out, HL3.out, HL2.out, HL1.out, HL0.out]; rfl
    rw [← hE] at hrow
    go_ret
    exact ⟨g8, cap8, rfl, Nat.le_of_succ_le hg, hrow, hlen.out, hb0.trans (hb8.mono (Nat.le_succ _))⟩

end Go.Proofs.YtnmnihlhcokjpaaGreatDoor

/- What goes out: a Bpdu under a name, its bytes; an Out's row; Outs in memory. -/
namespace Go.Proofs.YtnmnihlhcokjpaaGreatDoor
set_option maxRecDepth 100000
open Go.ChangeShapes Go.WideShapes Go.ChangeAt Go.RowKit
set_option linter.unusedVariables false

/-- Boxes, where all below a block stays. -/
theorem Hs.under {w wx wy : World} {l : List (Nat × TypeId × List Value)} {B : Nat} (h : Hs w l wx) (b : Below B wx wy) (hl : ∀ x ∈ l, x.1 < B) (hB : w.heap.size ≤ B) : Hs w l wy := by
  have h' := hs_iff.1 h
  exact hs_iff.2 ⟨fun x hx => ⟨Bk.below (h'.1 x hx).1 b (hl x hx), (h'.1 x hx).2⟩, h'.2.1, h.old.trans (b.mono hB)⟩

/-- A Bpdu. -/
structure Bq where
  tc : Bool
  ch : Bool
  ak : Bool
  ro : Int
  co : Int
  br : Int
  po : Int
  ag : Int
  ma : Int
  he : Int
  de : Int
def lB (x : Bq) : List Value := [.bool x.tc, .bool x.ch, .bool x.ak, .int .u64 x.ro, .int .u32 x.co, .int .u64 x.br, .int .u16 x.po, .int .u16 x.ag, .int .u16 x.ma, .int .u16 x.he, .int .u16 x.de]
def BqIn (x : Bq) : Prop := BpIn x.ro x.co x.br x.po x.ag x.ma x.he x.de
def tcnQ : Bq := ⟨true, false, false, 0, 0, 0, 0, 0, 0, 0, 0⟩
/-- Its bytes, and how many. -/
def bqB (x : Bq) : List UInt8 := if x.tc = true then tcnB else bpB x.ch x.ak x.ro x.co x.br x.po x.ag x.ma x.he x.de
def bqN (x : Bq) : Nat := if x.tc = true then 4 else 35
theorem bqB_len (x : Bq) : (bqB x).length = bqN x := by
  unfold bqB bqN
  split
  · decide
  · exact bpB_len _ _ _ _ _ _ _ _ _ _
theorem bqN_le (x : Bq) : bqN x ≤ 35 := by unfold bqN; split <;> omega
theorem bq_put (x : Bq) (hin : BqIn x) (w : World) : Calls Tryz.prog 112 #[.agg (lB x).toArray] w (BPutEnd (bqB x) (bqN x) w) := by
  obtain ⟨tc, ch, ak, ro, co, br, po, ag, ma, he, de⟩ := x
  cases tc with
  | true => exact put_tcn ch ak ro co br po ag ma he de w
  | false => exact put_cfg ch ak ro co br po ag ma he de hin w
theorem bq_refput (x : Bq) (hin : BqIn x) (w : World) : Calls Tryz.prog 88 #[.agg (lB x).toArray] w (RefBPutEnd (bqB x) (bqN x) w) := by
  obtain ⟨tc, ch, ak, ro, co, br, po, ag, ma, he, de⟩ := x
  cases tc with
  | true => exact refput_tcn ch ak ro co br po ag ma he de w
  | false => exact refput_cfg ch ak ro co br po ag ma he de hin w

/-- What goes out by a port: the port, the sender, the Bpdu. -/
structure Ou where
  i : Int
  fr : Int
  x : Bq
/-- The frame's data. -/
def ouB (o : Ou) : List UInt8 := 66 :: 66 :: 3 :: bqB o.x
def ouN (o : Ou) : Nat := 3 + bqN o.x
theorem ouB_len (o : Ou) : (ouB o).length = ouN o := by
  unfold ouB ouN
  simp only [List.length_cons, bqB_len]
  omega
/-- An Out, where its data lies in block g. -/
structure Oc where
  o : Ou
  g : Nat
  cap : Nat
def lO (c : Oc) : List Value := [.int .i64 c.o.i, .int .u64 1652522221568, .int .u64 c.o.fr, .int .u16 (ouN c.o), .slice (some ⟨c.g, 0, none⟩) (ouN c.o) c.cap]
theorem lO_len (c : Oc) : (lO c).length = 5 := rfl
theorem lO_one (c : Oc) : (lO c).all (·.oneCell') = true := rfl
/-- Its data lies there. -/
def OcAt (w : World) (B : Nat) (c : Oc) : Prop := B ≤ c.g ∧ Row w c.g c.cap (ouB c.o)
theorem OcAt.below {w w' : World} {B : Nat} {c : Oc} (h : OcAt w B c) (b : Below w.heap.size w w') : OcAt w' B c := ⟨h.1, h.2.below b h.2.lt⟩

/-- What Out hands out. -/
def OutEnd (w : World) (o : Ou) (e : Ending) (w' : World) : Prop := ∃ g cap, e = .returned (.agg (lO ⟨o, g, cap⟩).toArray) ∧ OcAt w' w.heap.size ⟨o, g, cap⟩ ∧ Below w.heap.size w w'

end Go.Proofs.YtnmnihlhcokjpaaGreatDoor

/- Times: contracts of the functions of span and of the document's answers, for every argument. -/
namespace Go.Proofs.YtnmnihlhcokjpaaGreatDoor
set_option maxRecDepth 100000
open Go.ChangeShapes Go.WideShapes Go.ChangeAt Go.RowKit
set_option linter.unusedVariables false

/-- Whole seconds, and begun ones. -/
def floorI (t : Int) : Int := max t 0 / 256
def ceilI (t : Int) : Int := (max t 0 + 255) / 256
def olderI (t : Int) : Int := cutI (cutI t + 256)

theorem field_any (t : Int) (h0 : -9223372036854775808 ≤ t) (h1 : t ≤ 9223372036854775807) (w : World) :
    Calls Tryz.prog 116 #[.int .i64 t] w fun e w' => e = .returned (.int .u16 (cutI t)) ∧ w = w' := by
  obtain ⟨b0, b1⟩ := cutI_bd t
  go_enter Tryz.func116, Tryz.ntmps116
  go_wp2_with (go_at_call 79; (with_reducible refine (cut_any _ h0 h1 _).mono ?_); rintro e w' ⟨rfl, rfl⟩)
  go_ret
  exact ⟨rfl, rfl⟩

theorem older_any (t : Int) (h0 : -9223372036854775808 ≤ t) (h1 : t ≤ 9223372036854775807) (w : World) :
    Calls Tryz.prog 115 #[.int .i64 t] w fun e w' => e = .returned (.int .i64 (olderI t)) ∧ w = w' := by
  obtain ⟨b0, b1⟩ := cutI_bd t
  go_enter Tryz.func115, Tryz.ntmps115
  go_wp2_with (go_at_call 79; (with_reducible refine (cut_any _ (by omega) (by omega) _).mono ?_); rintro e w' ⟨rfl, rfl⟩)
  go_ret
  exact ⟨rfl, rfl⟩

theorem refcut_any (t : Int) (h0 : -9223372036854775808 ≤ t) (h1 : t ≤ 9223372036854775807) (w : World) :
    Calls Tryz.prog 64 #[.int .i64 t] w fun e w' => e = .returned (.int .i64 (cutI t)) ∧ w = w' := by
  go_enter Tryz.func64, Tryz.ntmps64
  go_wp2
  all_goals go_ret
  all_goals exact ⟨ret_int (by unfold cutI; omega), rfl⟩

end Go.Proofs.YtnmnihlhcokjpaaGreatDoor

/- What a port tells, and what becomes of the view: no program but what an Out's row is. -/
namespace Go.Proofs.YtnmnihlhcokjpaaGreatDoor
set_option maxRecDepth 100000
open Go.ChangeShapes Go.WideShapes Go.ChangeAt Go.RowKit
set_option linter.unusedVariables false

/-- The Age that is told. -/
def toldI (t : Th) (L : List Po) : Int := if t.ro = t.ow then 0 else if 0 ≤ t.rp then (match L[t.rp.toNat]? with | some p => olderI p.av | none => 0) else 0
theorem toldI_bd (t : Th) (L : List Po) : 0 ≤ toldI t L ∧ toldI t L ≤ 65535 := by
  unfold toldI
  split
  · omega
  · split
    · split
      · exact cutI_bd _
      · omega
    · omega
/-- The configuration. -/
def confQ (t : Th) (a : Int) (p : Po) : Bq := ⟨false, t.ch, p.ak, t.ro, t.co, t.ow, p.id, cutI a, cutI t.n1, cutI t.n2, cutI t.n3⟩
def sentP (p : Po) : Po := { p with ak := false, pe := false, ho := true, hv := 0 }
def owingP (p : Po) : Po := { p with pe := true }
/-- A port told: its view's ports, and what goes out. -/
def confR (t : Th) (L : List Po) (i : Int) : List Po × List Ou :=
  if 0 ≤ i then (match L[i.toNat]? with
    | none => (L, [])
    | some p => if p.ho = true then (L.set i.toNat (owingP p), []) else if t.n1 ≤ toldI t L then (L, []) else (L.set i.toNat (sentP p), [⟨i, t.ow % 281474976710656, confQ t (toldI t L) p⟩]))
  else (L, [])
theorem confR_neg {t : Th} {L : List Po} {i : Int} (h : i < 0) : confR t L i = (L, []) := by unfold confR; rw [if_neg (by omega)]
theorem confR_out {t : Th} {L : List Po} {i : Int} (h : L.length ≤ i) : confR t L i = (L, []) := by
  unfold confR
  split
  · rw [List.getElem?_eq_none (by omega)]
  · rfl
theorem confR_at {t : Th} {L : List Po} {k : Nat} {p : Po} (h : L[k]? = some p) : confR t L k = if p.ho = true then (L.set k (owingP p), []) else if t.n1 ≤ toldI t L then (L, []) else (L.set k (sentP p), [⟨k, t.ow % 281474976710656, confQ t (toldI t L) p⟩]) := by
  unfold confR
  rw [if_pos (by omega), Int.toNat_natCast, h]

/-- Outs in a row of the call's own, their data in blocks of the call's own. -/
def OutsR (w : World) (base : Nat) (v : Value) (M : List Ou) : Prop := ∃ C : List Oc, C.map (·.o) = M ∧ OwnL lO 5 83 w base v C ∧ ∀ c ∈ C, OcAt w base c
theorem OutsR.nil (w : World) (base : Nat) : OutsR w base (.slice none 0 0) [] := ⟨[], rfl, OwnL.nil _ _ _, fun c h => by cases h⟩
theorem OutsR.below {w w' : World} {base : Nat} {v : Value} {M : List Ou} (h : OutsR w base v M) (b : Below w.heap.size w w') : OutsR w' base v M := by
  obtain ⟨C, h1, h2, h3⟩ := h
  exact ⟨C, h1, h2.below b, fun c hc => (h3 c hc).below b⟩
theorem OutsR.heap {w w' : World} {base : Nat} {v : Value} {M : List Ou} (h : OutsR w base v M) (hh : ∀ k, base ≤ k → w'.heap[k]? = w.heap[k]?) : OutsR w' base v M := by
  obtain ⟨C, h1, h2, h3⟩ := h
  refine ⟨C, h1, ⟨h2.1, h2.2.imp id ?_⟩, fun c hc => ?_⟩
  · rintro ⟨g, cap', cur, hv, hg, e, r⟩
    exact ⟨g, cap', cur, hv, hg, (hh g hg).trans e, r⟩
  · obtain ⟨hg, sp, y1, y2, y3⟩ := h3 c hc
    exact ⟨hg, sp, y1, y2, (hh c.g hg).trans y3⟩
theorem OutsR.mono {w : World} {base base' : Nat} {v : Value} {M : List Ou} (h : OutsR w base v M) (hb : base' ≤ base) : OutsR w base' v M := by
  obtain ⟨C, h1, h2, h3⟩ := h
  exact ⟨C, h1, h2.mono hb, fun c hc => ⟨Nat.le_trans hb (h3 c hc).1, (h3 c hc).2⟩⟩
/-- What telling hands out. -/
def ConfEnd (w : World) (t : Th) (n : Nat) (R : List Po × List Ou) (e : Ending) (w' : World) : Prop :=
  ∃ D cap v, e = .returned (.tuple #[.agg (lT t D n cap).toArray, v]) ∧ (D = none → cap = 0) ∧ TS w [] D R.1 w' ∧ OutsR w' w.heap.size v R.2

end Go.Proofs.YtnmnihlhcokjpaaGreatDoor

/- All designated ports tell, one behind the other: no program. -/
namespace Go.Proofs.YtnmnihlhcokjpaaGreatDoor
set_option maxRecDepth 100000
open Go.ChangeShapes Go.WideShapes Go.ChangeAt Go.RowKit
set_option linter.unusedVariables false

theorem confR_len (t : Th) (L : List Po) (i : Int) : (confR t L i).1.length = L.length := by
  unfold confR
  split
  · split
    · rfl
    · split
      · exact List.length_set ..
      · split
        · rfl
        · exact List.length_set ..
  · rfl
theorem confR_few (t : Th) (L : List Po) (i : Int) : (confR t L i).2.length ≤ 1 := by
  unfold confR
  split
  · split
    · simp
    · split
      · simp
      · split <;> simp
  · simp
theorem confR_bd {t : Th} {L : List Po} (hb : ∀ x ∈ L, PoB x) (i : Int) : ∀ x ∈ (confR t L i).1, PoB x := by
  unfold confR
  split
  · split
    · exact hb
    · rename_i p hp
      have hP := hb p (List.mem_of_getElem? hp)
      split
      · intro x hx
        rcases List.mem_or_eq_of_mem_set hx with q | rfl
        · exact hb x q
        · exact hP
      · split
        · exact hb
        · intro x hx
          rcases List.mem_or_eq_of_mem_set hx with q | rfl
          · exact hb x q
          · unfold PoB sentP at *
            dsimp only at *
            omega
  · exact hb

/-- Does a port tell? -/
def tellsB (t : Th) (p : Po) : Bool := decide (p.hb = t.ow) && (decide (p.hp = p.id) && !decide (p.st = 0))
def allStep (t : Th) (s : List Po × List Ou) (i : Nat) : List Po × List Ou := match s.1[i]? with
  | some p => if tellsB t p = true then ((confR t s.1 i).1, s.2 ++ (confR t s.1 i).2) else s
  | none => s
/-- The first k have told. -/
def allR (t : Th) (L : List Po) : Nat → List Po × List Ou
  | 0 => (L, [])
  | k + 1 => allStep t (allR t L k) k
theorem allStep_yes {t : Th} {s : List Po × List Ou} {i : Nat} {p : Po} (h : s.1[i]? = some p) (hp : tellsB t p = true) : allStep t s i = ((confR t s.1 i).1, s.2 ++ (confR t s.1 i).2) := by unfold allStep; rw [h]; simp only [hp, if_true]
theorem allStep_no {t : Th} {s : List Po × List Ou} {i : Nat} {p : Po} (h : s.1[i]? = some p) (hp : tellsB t p = false) : allStep t s i = s := by unfold allStep; rw [h]; simp [hp]
theorem allStep_bd (t : Th) (s : List Po × List Ou) (i : Nat) (hb : ∀ x ∈ s.1, PoB x) : (allStep t s i).1.length = s.1.length ∧ (allStep t s i).2.length ≤ s.2.length + 1 ∧ ∀ x ∈ (allStep t s i).1, PoB x := by
  unfold allStep
  split
  · split
    · refine ⟨confR_len _ _ _, ?_, confR_bd hb _⟩
      rw [List.length_append]
      have := confR_few t s.1 i
      omega
    · exact ⟨rfl, Nat.le_succ _, hb⟩
  · exact ⟨rfl, Nat.le_succ _, hb⟩
theorem allR_bd {t : Th} {L : List Po} (hb : ∀ x ∈ L, PoB x) : ∀ k, (allR t L k).1.length = L.length ∧ (allR t L k).2.length ≤ k ∧ ∀ x ∈ (allR t L k).1, PoB x
  | 0 => ⟨rfl, Nat.zero_le _, hb⟩
  | k + 1 => by
    obtain ⟨h1, h2, h3⟩ := allR_bd hb k
    obtain ⟨g1, g2, g3⟩ := allStep_bd t (allR t L k) k h3
    exact ⟨g1.trans h1, by show (allStep t (allR t L k) k).2.length ≤ _; omega, g3⟩

/-- What telling by all hands out. -/
def AllEnd (w : World) (t : Th) (n : Nat) (R : List Po × List Ou) (e : Ending) (w' : World) : Prop :=
  ∃ D cap v, e = .returned (.tuple #[.agg (lT t D n cap).toArray, v]) ∧ (D = none → cap = 0) ∧ PoAt w' D w'.heap.size R.1 ∧ OutsR w' w.heap.size v R.2 ∧ Below w.heap.size w w'

end Go.Proofs.YtnmnihlhcokjpaaGreatDoor
