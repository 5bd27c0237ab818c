/- The document's Check and Put: the same number, the same bytes. -/
import Derived.Test.YtneofpgpinkamaaFrameBase
import Derived.RegionTactic
import Derived.Deep.RegionLaw
import Derived.Deep.RegionLawGrows
import Derived.Deep.AppendLies
import Derived.Deep.DeepCutAuto
namespace Go.Proofs.Ytneofpgpinkamaa
open Go.ChangeShapes Go.WideShapes Go.ChangeAt Go.RowKit
set_option linter.unusedVariables false

theorem refcheck_any (t f k : Int) (A : Option Addr) (n c : Nat) (hn : n ≤ 9223372036854775807) (h0 : 0 ≤ t) (h1 : 0 ≤ f) (h2 : 0 ≤ k) (h3 : t < 18446744073709551616) (h4 : f < 18446744073709551616) (h5 : k < 65536) (w : World) :
    Calls Try.prog 10 #[.agg #[.int .u64 t, .int .u64 f, .int .u16 k, .slice A n c]] w (CheckEnd t f k n w) := by
  by_cases g1 : 281474976710655 < t
  · have e : checkI t f k n = 1 := by unfold checkI; rw [if_pos (.inl g1)]
    have d1 : decide (281474976710655 < t) = true := by simpa using g1
    have E := Lib.hid e
    clear e
    go_enter Try.func10, Try.ntmps10
    go_wp2
    go_ret
    exact ⟨ret_int E.out.symm, below_new (Nat.le_refl _)⟩
  · have d1 : decide (281474976710655 < t) = false := by simpa using g1
    by_cases g2 : 281474976710655 < f
    · have e : checkI t f k n = 1 := by unfold checkI; rw [if_pos (.inr g2)]
      have d2 : decide (281474976710655 < f) = true := by simpa using g2
      have E := Lib.hid e
      clear e
      go_enter Try.func10, Try.ntmps10
      go_wp2
      go_ret
      exact ⟨ret_int E.out.symm, below_new (Nat.le_refl _)⟩
    · have d2 : decide (281474976710655 < f) = false := by simpa using g2
      have e : checkI t f k n = if 1500 < n then 4 else if 1536 ≤ k then 0 else if k ≤ 1500 ∧ k = n then 0 else 3 := by unfold checkI; rw [if_neg (by omega)]
      have E := Lib.hid e
      clear e
      by_cases g3 : 1500 < n
      · have d3 : decide (1500 < (n : Int)) = true := by simp; omega
        go_enter Try.func10, Try.ntmps10
        go_wp2
        go_ret
        exact ⟨ret_int (by rw [E.out, if_pos g3]), below_new (Nat.le_refl _)⟩
      · have d3 : decide (1500 < (n : Int)) = false := by simp; omega
        by_cases g5 : k < 1501
        · have d5 : decide (1535 < k) = false := by simp; omega
          by_cases g6 : k = n
          · have d6 : (k == (n : Int)) = true := by simpa using g6
            have G6 := Lib.hid g6
            clear g6
            go_enter Try.func10, Try.ntmps10
            go_wp2
            go_ret
            exact ⟨ret_int (by rw [E.out, if_neg g3, if_neg (by omega), if_pos ⟨by omega, G6.out⟩]), below_new (Nat.le_refl _)⟩
          · have d6 : (k == (n : Int)) = false := by simpa using g6
            go_enter Try.func10, Try.ntmps10
            go_wp2
            go_ret
            exact ⟨ret_int (by rw [E.out, if_neg g3, if_neg (by omega), if_neg (by omega)]), below_new (Nat.le_refl _)⟩
        · have d5 : decide (k < 1501) = false := by simpa using g5
          by_cases g4 : 1535 < k
          · go_enter Try.func10, Try.ntmps10
            go_wp2
            go_ret
            exact ⟨ret_int (by rw [E.out, if_neg g3, if_pos (by omega)]), below_new (Nat.le_refl _)⟩
          · have d4 : decide (1535 < k) = false := by simpa using g4
            go_enter Try.func10, Try.ntmps10
            go_wp2
            go_ret
            exact ⟨ret_int (by rw [E.out, if_neg g3, if_neg (by omega), if_neg (by omega)]), below_new (Nat.le_refl _)⟩

/-- Six bytes as cells. -/
def sixB (a : Int) : Array Value := ((beB a 6).map bc).toArray

theorem sixB_ref (a : Int) (h : 0 ≤ a) : sixB a = #[.int .u8 (a % 281474976710656 / 256 / 256 / 256 / 256 / 256 % 256), .int .u8 (a % 281474976710656 / 256 / 256 / 256 / 256 % 256), .int .u8 (a % 281474976710656 / 256 / 256 / 256 % 256),
    .int .u8 (a % 281474976710656 / 256 / 256 % 256), .int .u8 (a % 281474976710656 / 256 % 256), .int .u8 (a % 256)] := by
  simp only [sixB, beB, List.nil_append, List.cons_append, List.map_cons, List.map_nil, bc, byte_nat]
  have e0 : a / 256 / 256 / 256 / 256 / 256 % 256 = a % 281474976710656 / 256 / 256 / 256 / 256 / 256 % 256 := by omega
  have e1 : a / 256 / 256 / 256 / 256 % 256 = a % 281474976710656 / 256 / 256 / 256 / 256 % 256 := by omega
  have e2 : a / 256 / 256 / 256 % 256 = a % 281474976710656 / 256 / 256 / 256 % 256 := by omega
  have e3 : a / 256 / 256 % 256 = a % 281474976710656 / 256 / 256 % 256 := by omega
  have e4 : a / 256 % 256 = a % 281474976710656 / 256 % 256 := by omega
  rw [← e0, ← e1, ← e2, ← e3, ← e4]

set_option maxRecDepth 100000 in
set_option maxHeartbeats 1000000 in
theorem refput6 (a : Int) (hp0 : 0 ≤ a) (hp1 : a < 18446744073709551616) (w : World) :
    Calls Try.prog 23 #[.int .u64 a] w fun e w' => e = .returned (.slice (some ⟨w.heap.size, 0, none⟩) 6 6) ∧ w.alloc (.cells (sixB a) 5) = w' := by
  have hmk : ∀ w, (Instr.makeSlice 25 (.int .i64 6) (.int .i64 6)).run Try.prog w = .ok (.slice (some ⟨w.heap.size, 0, none⟩) 6 6) (w.alloc (.cells #[.int .u8 0, .int .u8 0, .int .u8 0, .int .u8 0, .int .u8 0, .int .u8 0] 5)) := fun _ => by kernel_rfl
  have hp2 : a ≤ 18446744073709551615 := by omega
  go_enter Try.func23, Try.ntmps23
  go_wp2
  go_rounds 7
  go_ret
  exact ⟨rfl, congrArg (fun c => w.alloc (.cells c 5)) (sixB_ref a hp0)⟩

/-- What the first statement leaves: twelve bytes of the call's own, the frame still in its box. -/
def RP (w : World) (t f k : Int) (A : Option Addr) (n c : Nat) (v : Value) (wx : World) : Prop :=
  ∃ g cap, v = .slice (some ⟨g, 0, none⟩) 12 cap ∧ wx.ownsRow (w.heap.size + 1) 5 1 (.slice (some ⟨g, 0, none⟩) 12 cap) 12 ((beB t 6 ++ beB f 6).map bc) ∧ FB wx w.heap.size t f k A n c ∧ Below w.heap.size w wx ∧ w.heap.size + 1 ≤ wx.heap.size

theorem len6 (t : Int) : ((beB t 6).map bc).length = 6 * 1 := by simp [beB_len]

theorem six_cells (w : World) (g : Nat) (a : Int) (h : w.heap[g]? = some (.cells (sixB a) 5 (0, 0))) : ∀ j u, ((beB a 6).map bc)[j]? = some u → w.cell? ((⟨g, 0, none⟩ : Addr).add j) = some u := by
  intro j u hu
  have := (show Bk w g 5 ((beB a 6).map bc) from h).cell j
  rw [addr_add, Nat.zero_add, this, hu]

theorem six_first (w : World) (o p : Obj) : ((w.alloc o).alloc p).drew.heap[w.heap.size]? = some o := by
  have h : ((w.alloc o).alloc p).heap[w.heap.size]? = (w.alloc o).heap[w.heap.size]? := (below_new (w := w.alloc o) (o := p) (Nat.le_refl _)).block _ (by simp)
  exact h.trans (heap_alloc_new w _)

theorem six_second (w : World) (o p : Obj) : ((w.alloc o).alloc p).drew.heap[w.heap.size + 1]? = some p := by
  have h := heap_alloc_new (w.alloc o) p
  rw [World.size_alloc] at h
  exact h

theorem two_bytes (w : World) (k : Int) (h0 : 0 ≤ k) (h1 : k < 65536) : Bk (w.alloc (.cells #[.int .u8 (IntKind.u16.wrap (k.tdiv 256) % 256), .int .u8 (k % 256)] 5)) w.heap.size 5 ((beB k 2).map bc) := by
  have e : ((beB k 2).map bc) = [.int .u8 (IntKind.u16.wrap (k.tdiv 256) % 256), .int .u8 (k % 256)] := by
    simp only [beB, List.nil_append, List.cons_append, List.map_cons, List.map_nil, bc, byte_nat]
    rw [Int.tdiv_eq_ediv_of_nonneg h0, show IntKind.u16.wrap (k / 256) = k / 256 % 65536 by simp [IntKind.wrap, IntKind.bits, IntKind.signed], show k / 256 % 65536 % 256 = k / 256 % 256 by omega]
  rw [e]
  exact heap_alloc_new w _

theorem own_le {w : World} {base base' n : Nat} {v : Value} {xs : List Value} (h : w.ownsRow base 5 1 v n xs) (hb : base' ≤ base) : w.ownsRow base' 5 1 v n xs :=
  ⟨h.1, h.2.elim Or.inl (fun ⟨g, cap, cur, hv, hg, r⟩ => Or.inr ⟨g, cap, cur, hv, Nat.le_trans hb hg, r⟩)⟩

theorem rp_end {w w0 w' : World} (hsz : w0.heap.size = w.heap.size + 1) {t f k : Int} {A : Option Addr} {n c : Nat} (hB : FB w0 w.heap.size t f k A n c) (hb : Below w.heap.size w w0) {o p : Obj} (g cap : Nat)
    (hown : w'.ownsRow ((w0.alloc o).alloc p).drew.heap.size 5 1 (.slice (some ⟨g, 0, none⟩) (6 + 6) cap) (6 + 6) ((beB t 6).map bc ++ (beB f 6).map bc)) (hgrow : ((w0.alloc o).alloc p).drew.grownBy w' none) :
    RP w t f k A n c (.slice (some ⟨g, 0, none⟩) 12 cap) w' := by
  have hb1 : Below w0.heap.size w0 ((w0.alloc o).alloc p).drew := ((below_new (Nat.le_refl _)).alloc (by simp) _).drew
  have hb2 : Below w0.heap.size w0 w' := hb1.grown hgrow hb1.size (fun k hk => by cases hk)
  refine ⟨g, cap, rfl, ?_, hB.below hb2 (by omega), hb.trans (hb2.mono hb.size), ?_⟩
  · have := own_le hown (base' := w.heap.size + 1) (by have := hb1.size; omega)
    rw [← List.map_append] at this
    exact this
  · have := hb2.size; omega

/-- What the document's 'Put' leaves: a row of the call's own. -/
def RefPutEnd (t f k : Int) (l : List UInt8) (n : Nat) (w : World) (e : Ending) (w' : World) : Prop :=
  ∃ g cap, e = .returned (.slice (some ⟨g, 0, none⟩) (14 + n) cap) ∧ w.heap.size ≤ g ∧ Row w' g cap (frB t f k l) ∧ Below w.heap.size w w'

set_option maxHeartbeats 2000000 in
theorem refput_any (t f k : Int) (A : Option Addr) (n c : Nat) (l : List UInt8) (hl : Hid (l.length = n)) (hnc : Hid (A = none → c = 0)) (hn : n ≤ 3000) (h0 : 0 ≤ t) (h1 : 0 ≤ f) (h2 : 0 ≤ k) (h3 : t < 18446744073709551616) (h4 : f < 18446744073709551616) (h5 : k < 65536) (w : World)
    (hr : RB w A 0 w.heap.size l) :
    Calls Try.prog 12 #[.agg #[.int .u64 t, .int .u64 f, .int .u16 k, .slice A n c]] w (RefPutEnd t f k l n w) := by
  obtain ⟨i0, hi0, hz0, hz1, hz2⟩ := info_parts Try.infoByte
  have HI0 := Lib.hid hi0
  have HZ0 := Lib.hid hz0
  have HZ1 := Lib.hid hz1
  have HZ2 := Lib.hid hz2
  clear hi0 hz0 hz1 hz2
  go_enter Try.func12, Try.ntmps12
  go_upto_region 1 with fail
  obtain ⟨w0, hB0, hbb0, hs0, hw0⟩ := boxed w t f k A n c
  rw [← hw0]
  have hsz : w0.heap.size = w.heap.size + 1 := by rw [hw0]; simp
  have HS := Lib.hid hsz
  clear hw0 hsz
  go_cut [3] (fun v wx => RP w t f k A n c v wx)
  case first =>
    obtain ⟨c0, c1, c2, c3⟩ := hB0.cells
    have C1 : Hid (∀ j u, ((beB t 6).map bc)[j]? = some u → ((w0.alloc (.cells (sixB t) 5)).alloc (.cells (sixB f) 5)).drew.cell? ((⟨w0.heap.size, 0, none⟩ : Addr).add j) = some u) := six_cells _ _ _ (six_first w0 _ _)
    have C2 : Hid (∀ j u, ((beB f 6).map bc)[j]? = some u → ((w0.alloc (.cells (sixB t) 5)).alloc (.cells (sixB f) 5)).drew.cell? ((⟨w0.heap.size + 1, 0, none⟩ : Addr).add j) = some u) := six_cells _ _ _ (six_second w0 _ _)
    go_region_law (first
      | (go_simp; go_at_call 23; (with_reducible refine (refput6 t h0 h3 _).mono ?_); rintro e w' ⟨rfl, rfl⟩)
      | (go_simp; go_at_call 23; (with_reducible refine (refput6 f h1 h4 _).mono ?_); rintro e w' ⟨rfl, rfl⟩)
      | (refine step_append_grows rfl (.tmp 6) (.tmp 9) 25 rfl 5 i0 (.int .u8 0) 1 1 Try.underlying25 HI0.out HZ0.out HZ1.out HZ2.out rfl (by decide) (some ⟨w0.heap.size, 0, none⟩) 6 6 ((beB t 6).map bc) (by simp [Act.eval]) (fun e => by cases e) (len6 t) (fun b e => by cases e; exact C1.out) ⟨w0.heap.size + 1, 0, none⟩ 6 6 ((beB f 6).map bc) (by simp [Act.eval]) (len6 f) C2.out (one_bcs _) (by omega) (by unfold maxLen; omega) (by omega) ?_; intro v' w' hown hgrow; obtain ⟨g, cap, rfl, hg, hlt⟩ := hown.form (by omega)))
    all_goals go_wp2_with fail
    all_goals go_meet
    all_goals exact rp_end HS.out hB0 hbb0 g cap hown hgrow
  case rest =>
    obtain ⟨g, cap, rfl, hown, hB1, hbw, hsx⟩ := hcut
    obtain ⟨c0, c1, c2, c3⟩ := hB1.cells
    have ht := two_bytes wc k h2 h5
    have hbt : Below wc.heap.size wc (wc.alloc (.cells #[.int .u8 (IntKind.u16.wrap (k.tdiv 256) % 256), .int .u8 (k % 256)] 5)) := below_new (Nat.le_refl _)
    have hl2 : Hid ((beB k 2).length = 2) := Lib.hid (beB_len k 2)
    have hwsz := hbw.size
    go_wp2_with (first
      | (at_builtin; refine append_bytes _ rfl (.tmp 11) (.tmp 20) rfl (w.heap.size + 1) g 12 cap (beB t 6 ++ beB f 6) rfl (hown.alloc _) (some ⟨wc.heap.size, 0, none⟩) 2 2 0 (wc.heap.size + 1) (beB k 2) rfl (ht.rb 0 (wc.heap.size + 1) (Nat.zero_le _) (Nat.lt_succ_self _)) hl2 (fun e => by cases e) (by omega) (by simp; omega) (w.heap.size + 1) wc (hbt.mono hsx) (Nat.le_refl _) ?_; intro g2 cap2 w2 hown2 hb2 hsz2; have hB2 := hB1.below hb2 (Nat.lt_succ_self _); have hbw2 := hbw.trans (hb2.mono (Nat.le_succ _)); clear c0 c1 c2 c3; obtain ⟨c0, c1, c2, c3⟩ := hB2.cells)
      | (at_builtin; refine append_bytes _ rfl (.tmp 22) (.tmp 24) rfl (w.heap.size + 1) g2 14 cap2 ((beB t 6 ++ beB f 6) ++ beB k 2) rfl hown2 A n c 0 w.heap.size l rfl (hr.below hbw2 (Nat.le_refl _)) hl hnc.out (by omega) hsz2 w.heap.size w hbw2 (Nat.le_succ _) ?_; intro g3 cap3 w3 hown3 hb3 hsz3))
    obtain ⟨hrow, hg3, hq⟩ := Row.of_own hown3
    go_ret
    exact ⟨g3, cap3, rfl, Nat.le_of_succ_le hg3, hrow, hb3⟩

end Go.Proofs.Ytneofpgpinkamaa
