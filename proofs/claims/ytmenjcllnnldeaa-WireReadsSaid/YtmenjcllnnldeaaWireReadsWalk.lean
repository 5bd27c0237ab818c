/- The law WireReads, walked: it answers true, whatever the bytes and the counts. -/
import Derived.Test.YtmenjcllnnldeaaWireArg
import Derived.RegionTactic
import Derived.Laws.BytesArg
import Derived.Deep.RegionWith
import Derived.Deep.DrawnRows
import Derived.Deep.RegionHeld3
import Derived.Deep.CutRange
namespace Go.Proofs.Ytmenjcllnnldeaa
open Go.ChangeShapes Go.WideShapes Go.ChangeAt Go.RowKit
set_option linter.unusedVariables false

theorem reads_long (A B : Option Addr) (m c k d : Nat) (h : 600 < m ∨ 600 < k) (hm : m ≤ 9223372036854775807) (hk : k ≤ 9223372036854775807) (w : World) :
    Calls Try.prog 3 #[.slice A m c, .slice B k d] w fun e w' => e = .returned (.bool true) ∧ Below w.heap.size w w' := by
  by_cases h6 : 600 < m
  · clear h
    go_enter Try.func3, Try.ntmps3
    go_wp2_with fail
    (with_reducible refine (awake_any _).mono ?_); rintro e wa ⟨rfl, hba⟩
    go_wp2_with fail
    (with_reducible refine (awake_any _).mono ?_); rintro e wb ⟨rfl, hbb⟩
    go_wp2
    go_ret
    exact ⟨rfl, hba.trans (hbb.mono hba.size)⟩
  · have h7 : 600 < k := by omega
    have h8 : decide (600 < (m : Int)) = false := by simp; omega
    clear h h6
    go_enter Try.func3, Try.ntmps3
    go_wp2_with fail
    (with_reducible refine (awake_any _).mono ?_); rintro e wa ⟨rfl, hba⟩
    go_wp2_with fail
    (with_reducible refine (awake_any _).mono ?_); rintro e wb ⟨rfl, hbb⟩
    go_wp2
    go_ret
    exact ⟨rfl, hba.trans (hbb.mono hba.size)⟩

/-- 's[p:]', run. -/
theorem cut_any (A : Option Addr) (m c p : Nat) (h : p ≤ m) (w : World) :
    (Instr.sliceAt 22 (.slice A m c) (some (.int .i64 (p : Int))) none none).run Try.prog w = .ok (.slice (cutA A p c) (m - p) (c - p)) w := by
  have hu : Try.prog.underlying 22 = some (.slice (Try.prog.elem 22)) := by kernel_rfl
  have hs : (sizeOf (Try.prog.elem 22)).run Try.prog w = .ok 1 w := by kernel_rfl
  rw [run_sliceAt_slice w _ _ _ _ _ hu, run_slice_l w _ _ _ _ hu .i64 (p : Int) (by omega) (by omega), hs]
  simp [Result.andThen, sliced, cutA]

/-- 's[p:p+k]', run. -/
theorem cut2_any (A : Option Addr) (m c p q k : Nat) (hq : q = p + k) (h : q ≤ c) (w : World) :
    (Instr.sliceAt 22 (.slice A m c) (some (.int .i64 (p : Int))) (some (.int .i64 (q : Int))) none).run Try.prog w = .ok (.slice (cutA A p c) k (c - p)) w := by
  have hu : Try.prog.underlying 22 = some (.slice (Try.prog.elem 22)) := by kernel_rfl
  have hs : (sizeOf (Try.prog.elem 22)).run Try.prog w = .ok 1 w := by kernel_rfl
  rw [run_sliceAt_slice w _ _ _ _ _ hu, run_slice_lh w _ _ _ _ hu .i64 .i64 (p : Int) (q : Int) (by omega) (by omega) (by omega), hs]
  have e : q - p = k := by omega
  simp [Result.andThen, sliced, cutA, e]

theorem rb_tail {w : World} {A : Option Addr} {lo hi m c : Nat} {b : List UInt8} (h : RB w A lo hi b) (hl : b.length = m) (hmc : m ≤ c) (p : Nat) : RB w (cutA A p c) lo hi (b.drop p) :=
  h.drop p c (by omega)

theorem drop_len {m : Nat} {b : List UInt8} (hl : Hid (b.length = m)) (p : Nat) : Hid ((b.drop p).length = m - p) := by
  show _ = _
  rw [List.length_drop, hl.out]

/-- The law's own test: so many can't be read. -/
def badB (s : Bool) (len n : Int) : Bool := s || decide (n < 0) || decide (len < n)

/-- Where the reader stands. -/
def AtR (w wx : World) (hi hp : Nat) (x : List UInt8) (s : Bool) : Prop := (∃ A', RD 44 wx w.heap.size hi hp A' x s) ∧ Below w.heap.size w wx ∧ hi ≤ wx.heap.size

theorem badB_iff (s : Bool) (m p : Nat) (n : Int) (x : List UInt8) (hp : p ≤ m) (hx : x.length = m - p) : badB s ((m : Int) - (p : Int)) n = true ↔ BadN s x.length n := by
  unfold badB BadN
  rw [hx, Int.ofNat_sub hp]
  simp [or_assoc]

attribute [local go_sem ↓] Go.wp_at_zero Go.wp_at_succ

set_option maxRecDepth 100000 in
set_option maxHeartbeats 4000000 in
theorem reads_short (A B : Option Addr) (m c ln d : Nat) (b : List UInt8) (hl : Hid (b.length = m)) (h6 : m ≤ 600) (hmc : m ≤ c) (h7 : ln ≤ 600) (w : World) (hr : RB w A 0 w.heap.size b)
    (hz : ∀ k, k < ln → ∃ ad n, B = some ad ∧ ad.block < w.heap.size ∧ w.cell? (ad.add k) = some (.int .i64 n) ∧ (Lit.int .i64 n).wf = true) :
    Calls Try.prog 3 #[.slice A m c, .slice B ln d] w fun e w' => e = .returned (.bool true) ∧ Below w.heap.size w w' := by
  have HZ := Lib.hid hz
  clear hz
  have d6 : decide (600 < (m : Int)) = false := by simp; omega
  have d7 : decide (600 < (ln : Int)) = false := by simp; omega
  go_enter Try.func3, Try.ntmps3
  go_wp2_with fail
  (with_reducible refine (awake_any _).mono ?_); rintro e wa ⟨rfl, hba⟩
  go_wp2_with fail
  (with_reducible refine (new_any A c b m 0 w.heap.size hl (by omega) _ (hr.below hba (Nat.le_refl _)) hba.size).mono ?_); rintro e w2 ⟨hp, A2, rfl, hR2, hb2⟩
  have hlo : w.heap.size ≤ wa.heap.size := hba.size
  obtain ⟨hi, hhi⟩ : ∃ hi, hi = w2.heap.size := ⟨_, rfl⟩
  rw [← hhi] at hR2
  have hbw2 : Below w.heap.size w w2 := below_two hba hb2 hlo
  have HHI := Lib.hid hhi
  have hRw := hR2.wide hlo (Nat.le_refl _)
  clear hhi hR2 hb2 hba hlo
  go_wp2_with fail
  clear d6 d7
  go_loopw [6, 7, 8] (fun at_ en i wr => ∃ (k p : Nat) (s : Bool) (A' : Option Addr), k ≤ ln ∧ p ≤ m ∧ i = .int .i64 k ∧ at_ = .int .i64 p ∧ en = .bool s ∧ RD 44 wr w.heap.size hi hp A' (b.drop p) s ∧ Below w.heap.size w wr ∧ hi ≤ wr.heap.size)
    (fun _ _ i _ => ln - (intOf i).toNat)
  case atStart => exact ⟨0, 0, false, A2, Nat.zero_le _, Nat.zero_le _, rfl, rfl, rfl, hRw, hbw2, by rw [HHI.out]; exact Nat.le_refl _⟩
  case round =>
    obtain ⟨k, p, s, A', hk, hpm, rfl, rfl, rfl, hR, hbl, hhi⟩ := hrel
    clear hRw hbw2
    by_cases hlt : k < ln
    · obtain ⟨ad, n, rfl, hadb, hcell0, hwf⟩ := HZ.out k hlt
      obtain ⟨n0, n1⟩ := bounds_i64 hwf
      have hcell : wr.cell? (ad.add k) = some (.int .i64 n) := (hbl.cell (by rw [add_block]; exact hadb)).trans hcell0
      obtain ⟨x, hx⟩ : ∃ x, x = b.drop p := ⟨_, rfl⟩
      have hxl := drop_len hl p
      have hrx : ∀ W, Below w.heap.size w W → RB W (cutA A p c) 0 w.heap.size (b.drop p) := fun W hW => rb_tail (hr.below hW (Nat.le_refl _)) hl.out hmc p
      rw [← hx] at hR hxl hrx
      have hdl : x.length ≤ 140737488355328 := by rw [hxl.out]; omega
      have HX := Lib.hid hx
      have HRX := Lib.hid hrx
      clear hcell0 hwf hx hrx
      have HBI := Lib.hid (badB_iff s m p n x hpm hxl.out)
      go_upto_region 10 with fail
      go_cut [48] from 26 to 101 (fun c48 wx => c48 = .bool (badB s ((m : Int) - (p : Int)) n) ∧ wr = wx)
      case first =>
        cases s
        · by_cases hn : n < 0
          · go_wp2
            go_meet
            case rel => exact ⟨congrArg Value.bool (by simp [badB, hn]), rfl⟩
          · have hd1 : decide (n < 0) = false := by simpa using hn
            by_cases hn2 : (m : Int) - (p : Int) < n
            · go_wp2
              go_meet
              case rel => exact ⟨congrArg Value.bool (by simp [badB, hn2]), rfl⟩
            · have hd2 : decide ((m : Int) - (p : Int) < n) = false := by simpa using hn2
              go_wp2
              go_meet
              case rel => exact ⟨congrArg Value.bool (by simp [badB, hd1, hd2]), rfl⟩
        · go_wp2
          go_meet
          case rel => exact ⟨congrArg Value.bool (by simp [badB]), rfl⟩
      case rest =>
        obtain ⟨rfl, rfl⟩ := hcut
        have hRd := hR.drew
        have hhd : hi ≤ wr.drew.heap.size := hhi
        by_cases hB : badB s ((m : Int) - (p : Int)) n = true
        · have hbad := HBI.out.1 hB
          have hcn := conv_nil
          rw [hB]
          clear hB
          go_upto_if 60 with fail
          go_cut [6] from 26 to 101 (fun s6 wx => s6 = .int .i64 (p : Int) ∧ AtR w wx hi hp x true)
          case first =>
            by_cases hev : n.tmod 2 = 0
            · have he : (n.tmod 2 == 0) = true := by simpa using hev
              clear hev
              go_wp2
              refine wp_region_noPanic ?_
              go_region_held (fun w' => Below w.heap.size w w' ∧ hi ≤ w'.heap.size) (first | exact ⟨hbl.drew, hhi⟩ | exact ⟨hbl.drew.trans hb3, Nat.le_trans hhd hb3.size⟩ | assumption) (first
                | (go_at_call 9; (with_reducible refine (bytes_bad _ _ hp _ _ _ n _ hRd hdl n0 n1 hhd hbad).mono ?_); rintro e w3 ⟨rfl, hR3, hB3, hb3⟩; have hcv := conv_bk wr.heap.size [] hB3 0 0 (Lib.hid rfl)))
              all_goals refine NoPanic.normal ?_
              all_goals go_wp2
              all_goals go_meet
              all_goals exact ⟨rfl, ⟨_, hR3⟩, hbl.drew.trans hb3, Nat.le_trans hhd hb3.size⟩
            · have he : (n.tmod 2 == 0) = false := by simpa using hev
              clear hev
              go_wp2_with (first
                | (go_at_call 10; (with_reducible refine (num_bad _ _ hp _ _ _ n _ hR hdl n0 n1 hbad).mono ?_); rintro e w3 ⟨rfl, hR3, hb3, hz3⟩; have HZ3 := Lib.hid hz3; clear hz3)
                | (go_at_call 11; (with_reducible refine (refnum_any none 0 [] 0 0 0 (Lib.hid rfl) (by omega) _ (RB.nil _ _ _ _)).mono ?_); rintro e w' ⟨rfl, rfl⟩))
              go_meet
              exact ⟨rfl, ⟨_, hR3⟩, hbl.trans hb3, by rw [HZ3.out]; exact hhi⟩
          case rest =>
            obtain ⟨rfl, ⟨A3, hR3⟩, hbl3, hhi3⟩ := hcut
            have hR3d := hR3.drew
            have hhi3d : hi ≤ wc.drew.heap.size := hhi3
            have hsl := cut_any A m c p hpm
            have hcb0 := conv_any (HRX.out _ hbl3.drew) (m - p) (c - p) hxl
            clear hR hRd hhd hbl hhi
            go_wp2
            refine wp_region_noPanic ?_
            go_region_held (fun w' => Below w.heap.size w w' ∧ hi ≤ w'.heap.size) (first | exact ⟨hbl3.drew, hhi3⟩ | exact ⟨hbl3.drew.trans (hb4.mono hbl3.drew.size), Nat.le_trans hhi3d hb4.size⟩ | assumption) (first
              | (go_at_call 12; (with_reducible refine (short_any _ _ hp _ _ _ _ hR3d).mono ?_); rintro e w' ⟨rfl, rfl⟩)
              | (go_at_call 13; (with_reducible refine (rest_any _ _ hp _ _ _ _ hR3d hdl).mono ?_); rintro e w4 ⟨rfl, hB4, hb4⟩; have hR4 := hR3d.below hb4 hhi3d; have hcv4 := conv_bk wc.heap.size x hB4 x.length x.length (Lib.hid rfl); have hcb4 := conv_any (HRX.out _ (hbl3.drew.trans (hb4.mono hbl3.drew.size))) (m - p) (c - p) hxl)
              | (go_at_call 14; (with_reducible refine (err_any _ _ hp _ _ _ _ hR4).mono ?_); rintro e w' ⟨rfl, rfl⟩))
            all_goals refine NoPanic.normal ?_
            all_goals go_wp2
            all_goals go_roundw
            all_goals first
              | exact ⟨k + 1, p, true, A3, by omega, hpm, by go_num, rfl, rfl, by rw [← HX.out]; exact hR4, hbl3.drew.trans (hb4.mono hbl3.drew.size), Nat.le_trans hhi3d hb4.size⟩
              | (simp [intOf]; omega)
        · have hnb : ¬ BadN s x.length n := fun h => hB (HBI.out.2 h)
          have hB' : badB s ((m : Int) - (p : Int)) n = false := by simpa using hB
          rw [hB']
          clear hB hB'
          have hs : s = false := by
            cases s
            · rfl
            · exact absurd (Or.inl rfl) hnb
          subst hs
          have hn0 : 0 ≤ n := by
            by_cases h : n < 0
            · exact absurd (Or.inr (Or.inl h)) hnb
            · omega
          have hnx : ¬ (x.length : Int) < n := fun h => hnb (Or.inr (Or.inr h))
          obtain ⟨kk, rfl⟩ : ∃ kk : Nat, n = (kk : Int) := ⟨n.toNat, by omega⟩
          have hkx : kk ≤ x.length := by omega
          have hkm : p + kk ≤ m := by have := hxl.out; omega
          obtain ⟨p2, hp2⟩ : ∃ p2 : Nat, p2 = p + kk := ⟨_, rfl⟩
          have hp2m : p2 ≤ m := by omega
          have hp2i : (p : Int) + (kk : Int) = (p2 : Int) := by omega
          obtain ⟨x1, hx1⟩ : ∃ x1, x1 = x.take kk := ⟨_, rfl⟩
          obtain ⟨x2, hx2⟩ : ∃ x2, x2 = x.drop kk := ⟨_, rfl⟩
          have hx1l : Hid (x1.length = kk) := by show _ = _; rw [hx1, List.length_take]; omega
          have hx2l : Hid (x2.length = m - p2) := by show _ = _; rw [hx2, List.length_drop, hxl.out]; omega
          have HX2 : Hid (x2 = b.drop p2) := by show _ = _; rw [hx2, HX.out, List.drop_drop, hp2]
          have hdl2 : x2.length ≤ 140737488355328 := by rw [hx2l.out]; omega
          have hrw : ∀ W, Below w.heap.size w W → RB W (cutA A p c) 0 w.heap.size x1 := fun W hW => by rw [hx1]; exact (HRX.out W hW).take kk
          have hrx2 : ∀ W, Below w.heap.size w W → RB W (cutA A p2 c) 0 w.heap.size x2 := fun W hW => by rw [HX2.out]; exact rb_tail (hr.below hW (Nat.le_refl _)) hl.out hmc p2
          have HRW := Lib.hid hrw
          have HRX2 := Lib.hid hrx2
          have HX1 := Lib.hid hx1
          have HXD := Lib.hid hx2
          have HP2 := Lib.hid hp2
          have hsl2 := cut2_any A m c p p2 kk hp2 (by omega)
          have hcw0 := conv_any (HRW.out _ hbl.drew) kk (c - p) hx1l
          clear hrw hrx2 hx1 hx2 hp2 hnb hnx HBI
          go_upto_if 60 with fail
          go_cut [6] from 26 to 101 (fun s6 wx => s6 = .int .i64 (p2 : Int) ∧ AtR w wx hi hp x2 false)
          case first =>
            by_cases hev : (kk : Int) % 2 = 0
            · have he : ((kk : Int) % 2 == 0) = true := by simpa using hev
              clear hev
              go_wp2
              refine wp_region_noPanic ?_
              go_region_held (fun w' => Below w.heap.size w w' ∧ hi ≤ w'.heap.size) (first | exact ⟨hbl.drew, hhi⟩ | exact ⟨hbl.drew.trans hb3, Nat.le_trans hhd hb3.size⟩ | assumption) (first
                | (go_at_call 9; (with_reducible refine (bytes_ok _ _ hp _ x kk _ hRd hdl hkx hhd).mono ?_); rintro e w3 ⟨rfl, hR3, hB3, hb3⟩; rw [← HXD.out] at hR3; rw [← HX1.out] at hB3; have hcv := conv_bk wr.heap.size x1 hB3 kk kk hx1l; have hcw3 := conv_any (HRW.out _ (hbl.drew.trans hb3)) kk (c - p) hx1l))
              all_goals refine NoPanic.normal ?_
              all_goals go_wp2
              all_goals go_meet
              all_goals exact ⟨rfl, ⟨_, hR3⟩, hbl.drew.trans hb3, Nat.le_trans hhd hb3.size⟩
            · have he : ((kk : Int) % 2 == 0) = false := by simpa using hev
              clear hev
              go_wp2_with (first
                | (go_at_call 10; (with_reducible refine (num_ok _ _ hp _ x kk _ (Lib.hid rfl) _ hR hdl hkx).mono ?_); rintro e w3 ⟨rfl, hR3, hb3, hz3⟩; rw [← HXD.out] at hR3; rw [← HX1.out]; have HZ3 := Lib.hid hz3; clear hz3)
                | (go_at_call 11; (with_reducible refine (refnum_any (cutA A p c) (c - p) x1 kk 0 w.heap.size hx1l (by omega) _ (HRW.out _ (hbl.trans hb3))).mono ?_); rintro e w' ⟨rfl, rfl⟩))
              go_meet
              exact ⟨rfl, ⟨_, hR3⟩, hbl.trans hb3, by rw [HZ3.out]; exact hhi⟩
          case rest =>
            obtain ⟨rfl, ⟨A3, hR3⟩, hbl3, hhi3⟩ := hcut
            have hR3d := hR3.drew
            have hhi3d : hi ≤ wc.drew.heap.size := hhi3
            have hsl := cut_any A m c p2 hp2m
            have hcb0 := conv_any (HRX2.out _ hbl3.drew) (m - p2) (c - p2) hx2l
            clear hR hRd hhd hbl hhi hcw0 hsl2 hp2i
            go_wp2
            refine wp_region_noPanic ?_
            go_region_held (fun w' => Below w.heap.size w w' ∧ hi ≤ w'.heap.size) (first | exact ⟨hbl3.drew, hhi3⟩ | exact ⟨hbl3.drew.trans (hb4.mono hbl3.drew.size), Nat.le_trans hhi3d hb4.size⟩ | assumption) (first
              | (go_at_call 12; (with_reducible refine (short_any _ _ hp _ _ _ _ hR3d).mono ?_); rintro e w' ⟨rfl, rfl⟩)
              | (go_at_call 13; (with_reducible refine (rest_any _ _ hp _ _ _ _ hR3d hdl2).mono ?_); rintro e w4 ⟨rfl, hB4, hb4⟩; have hR4 := hR3d.below hb4 hhi3d; have hcv4 := conv_bk wc.heap.size x2 hB4 x2.length x2.length (Lib.hid rfl); have hcb4 := conv_any (HRX2.out _ (hbl3.drew.trans (hb4.mono hbl3.drew.size))) (m - p2) (c - p2) hx2l)
              | (go_at_call 14; (with_reducible refine (err_any _ _ hp _ _ _ _ hR4).mono ?_); rintro e w' ⟨rfl, rfl⟩))
            all_goals refine NoPanic.normal ?_
            all_goals go_wp2
            all_goals go_roundw
            all_goals first
              | exact ⟨k + 1, p2, false, A3, by omega, hp2m, by go_num, rfl, rfl, by rw [← HX2.out]; exact hR4, hbl3.drew.trans (hb4.mono hbl3.drew.size), Nat.le_trans hhi3d hb4.size⟩
              | (simp [intOf]; omega)
    · obtain rfl : k = ln := by omega
      go_wp2
      go_ret
      exact ⟨rfl, hbl⟩

theorem WireReads_walk (a0 : Option Addr) (len0 cap0 : Nat) (z0 : List Int) (a1 : Option Addr) (len1 cap1 : Nat) (z1 : List Int) (w : World) (w0 : IsRow .u8 w a0 len0 cap0 z0) (w1 : IsRow .i64 w a1 len1 cap1 z1) :
    Calls Try.prog 3 #[.slice a0 len0 cap0, .slice a1 len1 cap1] w fun e w' => e = .returned (.bool true) ∧ Below w.heap.size w w' := by
  obtain ⟨l, hl, hr, hc, hm⟩ := bytes_in w0
  by_cases h : 600 < len0 ∨ 600 < len1
  · exact reads_long _ _ _ _ _ _ h hm (ints_len w1) w
  · exact reads_short a0 a1 len0 cap0 len1 cap1 l hl (by omega) hc (by omega) w hr (ints_in w1)

end Go.Proofs.Ytmenjcllnnldeaa
