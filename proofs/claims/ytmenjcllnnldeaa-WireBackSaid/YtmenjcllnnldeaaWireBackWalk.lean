/- The law WireBack, walked: it answers true, whatever the numbers and the bytes behind them. -/
import Derived.Test.YtmenjcllnnldeaaWireAppend
import Derived.RegionTactic
import Derived.Laws.BytesArg
import Derived.Deep.RegionWith
import Derived.Deep.DrawnRows
import Derived.Deep.RegionHeld3
namespace Go.Proofs.Ytmenjcllnnldeaa
open Go.ChangeShapes Go.WideShapes Go.ChangeAt Go.RowKit
set_option linter.unusedVariables false

theorem back_long (A B : Option Addr) (k c m d : Nat) (h : 75 < k ∨ 600 < m) (hm : m ≤ 9223372036854775807) (hk : k ≤ 9223372036854775807) (w : World) :
    Calls Try.prog 4 #[.slice A k c, .slice B m d] w fun e w' => e = .returned (.bool true) ∧ Below w.heap.size w w' := by
  by_cases h6 : 75 < k
  · clear h
    go_enter Try.func4, Try.ntmps4
    go_wp2_with fail
    (with_reducible refine (awake_any _).mono ?_); rintro e wa ⟨rfl, hba⟩
    go_wp2_with fail
    (with_reducible refine (awake_any _).mono ?_); rintro e wb ⟨rfl, hbb⟩
    go_wp2
    go_ret
    exact ⟨rfl, hba.trans (hbb.mono hba.size)⟩
  · have h7 : 600 < m := by omega
    have h8 : decide (75 < (k : Int)) = false := by simp; omega
    clear h h6
    go_enter Try.func4, Try.ntmps4
    go_wp2_with fail
    (with_reducible refine (awake_any _).mono ?_); rintro e wa ⟨rfl, hba⟩
    go_wp2_with fail
    (with_reducible refine (awake_any _).mono ?_); rintro e wb ⟨rfl, hbb⟩
    go_wp2
    go_ret
    exact ⟨rfl, hba.trans (hbb.mono hba.size)⟩

/-- The bytes of the first 'k' numbers. -/
def encF (f : Nat → Int) : Nat → List UInt8
  | 0 => []
  | k + 1 => (encF f k ++ beB (f k) 8) ++ beB (f k % 65536) 2

/-- The bytes of 'j' numbers from place 'k' on. -/
def sufS (f : Nat → Int) : Nat → Nat → List UInt8
  | 0, _ => []
  | j + 1, k => beB (f k) 8 ++ (beB (f k % 65536) 2 ++ sufS f j (k + 1))

theorem encF_len (f : Nat → Int) (k : Nat) : (encF f k).length = 10 * k := by
  induction k with
  | zero => rfl
  | succ k ih => simp [encF, ih, beB_len]; omega

theorem enc_suf (f : Nat → Int) (j k : Nat) : encF f k ++ sufS f j k = encF f (k + j) := by
  induction j generalizing k with
  | zero => simp [sufS]
  | succ j ih =>
    have := ih (k + 1)
    rw [show k + (j + 1) = k + 1 + j by omega, ← this]
    simp [sufS, encF, List.append_assoc]

theorem suf_len (f : Nat → Int) (j k : Nat) : (sufS f j k).length = 10 * j := by
  induction j generalizing k with
  | zero => rfl
  | succ j ih => simp [sufS, ih, beB_len]; omega

theorem enc_all (f : Nat → Int) (n : Nat) : encF f n = sufS f n 0 := by
  have := enc_suf f n 0
  simpa [encF] using this.symm

theorem front_num (n : Int) (h0 : 0 ≤ n) (h1 : n < 18446744073709551616) (k : Nat) (r : List UInt8) : numU ((beB n k ++ r).take k) = restK n k := by
  rw [List.take_append_of_le_length (by rw [beB_len]; omega), List.take_of_length_le (by rw [beB_len]; omega), numU_beB n h0 h1]

theorem front_drop (n : Int) (k : Nat) (r : List UInt8) : (beB n k ++ r).drop k = r := by
  rw [List.drop_append_of_le_length (by rw [beB_len]; omega), List.drop_eq_nil_of_le (by rw [beB_len]; omega), List.nil_append]

theorem rest8 (n : Int) (h0 : 0 ≤ n) (h1 : n < 18446744073709551616) : restK n 8 = n := restK_big n h0 h1 0
theorem rest2 (n : Int) : restK (n % 65536) 2 = n % 65536 := by simp only [restK]; omega

theorem wrapu16 (z : Int) : IntKind.u16.wrap z = z % 65536 := by simp [IntKind.wrap, IntKind.bits, IntKind.signed]

theorem cell_in {w w' : World} {ad : Addr} {k : Nat} {v : Value} (hb : Below w.heap.size w w') (ha : ad.block < w.heap.size) (hc : w.cell? (ad.add k) = some v) : w'.cell? (ad.add k) = some v :=
  (hb.cell (by rw [add_block]; exact ha)).trans hc

attribute [local go_sem ↓] Go.wp_at_zero Go.wp_at_succ

set_option maxRecDepth 100000 in
set_option maxHeartbeats 4000000 in
theorem back_short (A B : Option Addr) (ln c m d : Nat) (f : Nat → Int) (l : List UInt8) (hl : Hid (l.length = m)) (h6 : m ≤ 600) (h7 : ln ≤ 75) (hnd : Hid (B = none → d = 0)) (w : World) (hr : RB w B 0 w.heap.size l)
    (hz : ∀ k, k < ln → 0 ≤ f k ∧ f k < 18446744073709551616 ∧ ∃ ad, A = some ad ∧ ad.block < w.heap.size ∧ w.cell? (ad.add k) = some (.int .u64 (f k))) :
    Calls Try.prog 4 #[.slice A ln c, .slice B m d] w fun e w' => e = .returned (.bool true) ∧ Below w.heap.size w w' := by
  have HZ := Lib.hid hz
  clear hz
  have d6 : decide (600 < (m : Int)) = false := by simp; omega
  have d7 : decide (75 < (ln : Int)) = false := by simp; omega
  go_enter Try.func4, Try.ntmps4
  go_wp2_with fail
  (with_reducible refine (awake_any _).mono ?_); rintro e wa ⟨rfl, hba⟩
  go_wp2_with fail
  go_loopw [5, 6] (fun b i wr => ∃ (k n : Nat) (A1 : Option Addr), k ≤ ln ∧ n = 10 * k ∧ i = .int .i64 k ∧ b = .slice A1 n n ∧ RB wr A1 w.heap.size wr.heap.size (encF f k) ∧ Below w.heap.size w wr)
    (fun _ i _ => ln - (intOf i).toNat)
  case atStart => exact ⟨0, 0, none, Nat.zero_le _, rfl, rfl, rfl, RB.nil _ _ _ _, hba⟩
  case round =>
    obtain ⟨k, n, A1, hk, hn, rfl, rfl, hb1, hbl⟩ := hrel
    clear hba
    by_cases hlt : k < ln
    · obtain ⟨q0, q1, ad, rfl, hadb, hcell0⟩ := HZ.out k hlt
      obtain ⟨z, hzz⟩ : ∃ z, z = f k := ⟨_, rfl⟩
      have hcell : wr.cell? (ad.add k) = some (.int .u64 z) := by rw [hbl.cell (by rw [add_block]; exact hadb), hcell0, hzz]
      have HZZ := Lib.hid hzz
      rw [← hzz] at q0 q1
      have hn6 : n ≤ 750 := by omega
      have hen : Hid ((encF f k).length = n) := by show _ = _; rw [encF_len, hn]
      have HN := Lib.hid hn
      clear hzz hcell0 hn
      go_wp2_with fail
      (with_reducible refine (put64 A1 n (encF f k) n w.heap.size wr.heap.size 8 8 z (Lib.hid rfl) (by omega) q0 q1 hen (by omega) _ hb1 (Nat.le_refl _)).mono ?_); rintro e w1 ⟨rfl, hB1, hb2⟩
      have hbl1 : Below w.heap.size w w1 := below_two hbl hb2 hbl.size
      have hcell1 : w1.cell? (ad.add k) = some (.int .u64 z) := (hb2.cell (by rw [add_block]; exact Nat.lt_of_lt_of_le hadb hbl.size)).trans hcell
      have hen8 : Hid ((encF f k ++ beB z 8).length = n + 8) := by show _ = _; rw [List.length_append, hen.out, beB_len]
      have hws : w.heap.size ≤ wr.heap.size := hbl.size
      go_wp2_with fail
      rw [wrapu16 z]
      (with_reducible refine (put16 _ (n + 8) (encF f k ++ beB z 8) (n + 8) w.heap.size w1.heap.size 2 2 (z % 65536) (Lib.hid rfl) (by omega) (by omega) (by omega) hen8 (by omega) _ (hB1.rb w.heap.size w1.heap.size hws hB1.lt) (Nat.le_refl _)).mono ?_); rintro e w2 ⟨rfl, hB2, hb3⟩
      go_wp2
      go_roundw
      case rel =>
        refine ⟨k + 1, n + 8 + 2, some ⟨w1.heap.size, 0, none⟩, by omega, by rw [HN.out]; omega, by go_num, rfl, ?_, below_two hbl1 hb3 hbl1.size⟩
        rw [show encF f (k + 1) = (encF f k ++ beB z 8) ++ beB (z % 65536) 2 by rw [HZZ.out]; rfl]
        exact hB2.rb w.heap.size w2.heap.size hbl1.size hB2.lt
      case measure => simp [intOf]; omega
    · obtain rfl : ln = k := by omega
      have hen : Hid ((encF f ln).length = n) := by show _ = _; rw [encF_len, hn]
      have hn6 : n ≤ 750 := by omega
      have hn0 : A1 = none → n = 0 := by
        intro e
        rcases Nat.eq_zero_or_pos (encF f ln).length with q | q
        · rw [← hen.out]; exact q
        · obtain ⟨_, e', _⟩ := hb1 q; rw [e] at e'; cases e'
      have HN0 := Lib.hid hn0
      have hws : w.heap.size ≤ wr.heap.size := hbl.size
      clear hn hn0 hlt hk d6 d7
      go_wp2_with (first
        | (at_builtin; refine append_bytes _ rfl (.tmp 41) (.tmp 42) rfl wr.heap.size wr.heap.size 0 0 [] rfl (owns_empty wr 5) A1 n n w.heap.size wr.heap.size (encF f ln) rfl (hb1.below (below_new (Nat.le_refl _)) (Nat.le_refl _)) hen HN0.out (by omega) (by simp) w.heap.size w (hbl.alloc hws _) hws ?_; intro g1 cap1 w1 hown1 hbw1 hsz1; simp only [Nat.zero_add, List.nil_append] at hown1)
        | (at_builtin; refine append_bytes _ rfl (.tmp 43) (.tmp 44) rfl wr.heap.size g1 n cap1 (encF f ln) rfl hown1 B m d 0 w.heap.size l rfl (hr.below hbw1 (Nat.le_refl _)) hl hnd.out (by omega) hsz1 w.heap.size w hbw1 hws ?_; intro g2 cap2 w2 hown2 hbw2 hsz2))
      obtain ⟨hrow, hg, hq⟩ := Row.of_own hown2
      have hg1 := hrow.lt
      have hlen : Hid ((encF f ln ++ l).length = n + m) := Lib.hid hq
      clear hown1 hown2 hq hbw1 hsz1
      (with_reducible refine (new_any _ _ (encF f ln ++ l) (n + m) 0 w2.heap.size hlen (by omega) _ (hrow.rb 0 w2.heap.size (Nat.zero_le _) hg1) (Nat.le_refl _)).mono ?_); rintro e w3 ⟨hp, A3, rfl, hR3, hb3⟩
      obtain ⟨hi, hhi⟩ : ∃ hi, hi = w3.heap.size := ⟨_, rfl⟩
      rw [← hhi, enc_all] at hR3
      have hbw3 : Below w.heap.size w w3 := below_two hbw2 hb3 hbw2.size
      have hRw := hR3.wide hbw2.size (Nat.le_refl hi)
      have hhi3 : hi ≤ w3.heap.size := by rw [hhi]; exact Nat.le_refl _
      clear hR3 hb3 hhi hrow hg hg1 hlen hbw2 hsz2 hb1 hbl hws HN0
      go_wp2_with fail
      go_loopw [8] (fun i wx => ∃ (k : Nat) (A4 : Option Addr), k ≤ ln ∧ i = .int .i64 k ∧ RD 44 wx w.heap.size hi hp A4 (sufS f (ln - k) k ++ l) false ∧ Below w.heap.size w wx ∧ hi ≤ wx.heap.size)
        (fun i _ => ln - (intOf i).toNat)
      case atStart => exact ⟨0, A3, Nat.zero_le _, rfl, hRw, hbw3, hhi3⟩
      case round =>
        obtain ⟨k, A4, hk, rfl, hR, hbl, hhx⟩ := hrel
        clear hRw hbw3 hhi3
        by_cases hlt : k < ln
        · obtain ⟨q0, q1, ad, rfl, hadb, hcell0⟩ := HZ.out k hlt
          obtain ⟨z, hzz⟩ : ∃ z, z = f k := ⟨_, rfl⟩
          rw [← hzz] at q0 q1 hcell0
          obtain ⟨y2, hy2⟩ : ∃ y2, y2 = sufS f (ln - (k + 1)) (k + 1) ++ l := ⟨_, rfl⟩
          obtain ⟨y1, hy1⟩ : ∃ y1, y1 = beB (z % 65536) 2 ++ y2 := ⟨_, rfl⟩
          obtain ⟨y0, hy0⟩ : ∃ y0, y0 = beB z 8 ++ y1 := ⟨_, rfl⟩
          have e0 : sufS f (ln - k) k ++ l = y0 := by
            rw [show ln - k = (ln - (k + 1)) + 1 by omega, hy0, hy1, hy2, hzz]
            simp [sufS, List.append_assoc]
          rw [e0] at hR
          have HD0 : Hid (y0.drop 8 = y1) := by show _ = _; rw [hy0, front_drop]
          have HD1 : Hid (y1.drop 2 = y2) := by show _ = _; rw [hy1, front_drop]
          have HN0 : Hid (numU (y0.take 8) = z) := by show _ = _; rw [hy0, front_num z q0 q1, rest8 z q0 q1]
          have HN1 : Hid (numU (y1.take 2) = z % 65536) := by show _ = _; rw [hy1, front_num (z % 65536) (by omega) (by omega), rest2 z]
          have hl0 : 8 ≤ y0.length := by rw [hy0, List.length_append, beB_len]; omega
          have hl1 : 2 ≤ y1.length := by rw [hy1, List.length_append, beB_len]; omega
          have hm2 : y2.length ≤ 140737488355000 := by rw [hy2, List.length_append, hl.out, suf_len]; omega
          have hm1 : y1.length ≤ 140737488355328 := by rw [hy1, List.length_append, beB_len]; omega
          have hm0 : y0.length ≤ 140737488355328 := by rw [hy0, hy1, List.length_append, List.length_append, beB_len, beB_len]; omega
          have HY2 := Lib.hid hy2
          have hcellr := cell_in hbl hadb hcell0
          have htm : z.tmod 65536 = z % 65536 := Int.tmod_eq_emod_of_nonneg q0
          have hRd := hR.drew
          have hhd : hi ≤ wr.drew.heap.size := hhx
          have hk0 : (0 : Int) ≤ (k : Int) := by omega
          have hk1 : (k : Int) < (ln : Int) := by omega
          have HC0 := Lib.hid hcell0
          clear hy0 hy1 hy2 e0 hzz hcell0
          go_wp2
          refine wp_region_noPanic ?_
          go_region_held (fun w' => Below w.heap.size w w' ∧ hi ≤ w'.heap.size ∧ w'.cell? (ad.add k) = some (.int .u64 z)) (first | exact ⟨hbl.drew, hhd, hcellr⟩ | exact ⟨hbw4, hhi4, cell_in hbw4 hadb HC0.out⟩ | exact ⟨hbw5, hhi5, cell_in hbw5 hadb HC0.out⟩ | assumption) (first
            | (go_at_call 10; (with_reducible refine (num_ok _ _ hp _ y0 8 8 (Lib.hid rfl) _ hRd hm0 hl0).mono ?_); rintro e w4 ⟨rfl, hR4, hb4, hz4⟩; rw [HN0.out]; rw [HD0.out] at hR4; have hbw4 := hbl.drew.trans hb4; have hhi4 : hi ≤ w4.heap.size := Nat.le_trans hhd hb4.size; clear hz4)
            | (go_at_call 10; (with_reducible refine (num_ok _ _ hp _ y1 2 2 (Lib.hid rfl) _ hR4 hm1 hl1).mono ?_); rintro e w5 ⟨rfl, hR5, hb5, hz5⟩; rw [HN1.out]; rw [HD1.out] at hR5; have hbw5 := hbw4.trans hb5; have hhi5 : hi ≤ w5.heap.size := Nat.le_trans hhi4 hb5.size; clear hz5))
          all_goals refine NoPanic.normal ?_
          all_goals go_wp2
          all_goals go_roundw
          all_goals rw [HY2.out] at hR5
          all_goals first
            | exact ⟨k + 1, _, by omega, by go_num, hR5, hbw5, hhi5⟩
            | (simp [intOf]; done)
            | (simp [intOf]; omega)
        · obtain rfl : ln = k := by omega
          rw [show sufS f (ln - ln) ln ++ l = l by rw [Nat.sub_self]; rfl] at hR
          have hRd := hR.drew
          have hhd : hi ≤ wr.drew.heap.size := hhx
          have hdl : l.length ≤ 140737488355328 := by rw [hl.out]; omega
          have hcb0 := conv_any (hr.below hbl.drew (Nat.le_refl _)) m d hl
          clear hlt hk
          go_wp2
          refine wp_region_noPanic ?_
          go_region_held (fun w' => Below w.heap.size w w' ∧ hi ≤ w'.heap.size) (first | exact ⟨hbl.drew, hhd⟩ | exact ⟨hbw4, hhi4⟩ | assumption) (first
            | (go_at_call 12; (with_reducible refine (short_any _ _ hp _ _ _ _ hRd).mono ?_); rintro e w' ⟨rfl, rfl⟩)
            | (go_at_call 13; (with_reducible refine (rest_any _ _ hp _ _ _ _ hRd hdl).mono ?_); rintro e w4 ⟨rfl, hB4, hb4⟩; have hbw4 := hbl.drew.trans (hb4.mono hbl.drew.size); have hhi4 : hi ≤ w4.heap.size := Nat.le_trans hhd hb4.size; have hcv4 := conv_bk wr.heap.size l hB4 l.length l.length (Lib.hid rfl); have hcb4 := conv_any (hr.below hbw4 (Nat.le_refl _)) m d hl))
          all_goals refine NoPanic.normal ?_
          all_goals go_wp2
          all_goals go_ret
          all_goals exact ⟨rfl, hbw4⟩

theorem WireBack_walk (a0 : Option Addr) (len0 cap0 : Nat) (z0 : List Int) (a1 : Option Addr) (len1 cap1 : Nat) (z1 : List Int) (w : World) (w0 : IsRow .u64 w a0 len0 cap0 z0) (w1 : IsRow .u8 w a1 len1 cap1 z1) :
    Calls Try.prog 4 #[.slice a0 len0 cap0, .slice a1 len1 cap1] w fun e w' => e = .returned (.bool true) ∧ Below w.heap.size w w' := by
  obtain ⟨l, hl, hr, hc, hm⟩ := bytes_in w1
  by_cases h : 75 < len0 ∨ 600 < len1
  · exact back_long _ _ _ _ _ _ h hm (ints_len w0) w
  · refine back_short a0 a1 len0 cap0 len1 cap1 (fun k => z0.getD k 0) l hl (by omega) (by omega) (Lib.hid (none_cap w1)) w hr ?_
    rcases w0 with ⟨rfl, rfl, rfl, rfl⟩ | ⟨ad, rfl, hl0, hm0, hz, hc0, hw⟩
    · intro k hk; omega
    · intro k hk
      have hkz : k < z0.length := by omega
      have e : z0.getD k 0 = z0[k] := by simp [List.getD_eq_getElem?_getD, List.getElem?_eq_getElem hkz]
      have h1 := hc0 k hkz
      have h2 := block_lt_of_cell h1
      rw [add_block] at h2
      obtain ⟨p0, p1⟩ := bounds_u64 (hw z0[k] (List.getElem_mem hkz))
      rw [← e] at p0 p1
      exact ⟨p0, by omega, ad, rfl, h2, h1⟩

end Go.Proofs.Ytmenjcllnnldeaa
