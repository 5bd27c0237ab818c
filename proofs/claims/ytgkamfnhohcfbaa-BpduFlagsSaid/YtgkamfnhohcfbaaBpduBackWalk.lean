/- The law BpduBack, walked: it answers true, whatever the Bpdu, the bytes behind it, and the cut. -/
import Derived.Test.YtgkamfnhohcfbaaBpduOwnWalk
import Derived.Test.YtgkamfnhohcfbaaWireAppend
import Derived.Test.YtgkamfnhohcfbaaWireCut
namespace Go.Proofs.Ytgkamfnhohcfbaa
open Go.ChangeShapes Go.WideShapes Go.ChangeAt Go.RowKit
set_option linter.unusedVariables false

theorem walk_many (tc ch ak : Bool) (ro co br po ag ma he de : Int) (B : Option Addr) (m d : Nat) (hm : 2000 < m) (hmx : m ≤ 9223372036854775807) (k : Int) (w : World) :
    Calls Try.prog 5 #[.agg #[.bool tc, .bool ch, .bool ak, .int .u64 ro, .int .u32 co, .int .u64 br, .int .u16 po, .int .u16 ag, .int .u16 ma, .int .u16 he, .int .u16 de], .slice B m d, .int .u8 k] w fun e w' => e = .returned (.bool true) ∧ Below w.heap.size w w' := by
  have hd : decide (2000 < (m : Int)) = true := by simp; omega
  go_enter Try.func5, Try.ntmps5
  go_wp2_with fail
  obtain ⟨w0, hB0, hb0, hs0, hw0⟩ := bboxed w tc ch ak ro co br po ag ma he de
  rw [← hw0]
  clear hw0
  (with_reducible refine (awake_any _).mono ?_); rintro e w1 ⟨rfl, hb1⟩
  go_wp2_with fail
  (with_reducible refine (awake_any _).mono ?_); rintro e w2 ⟨rfl, hb2⟩
  go_wp2
  go_ret
  exact ⟨rfl, (hb0.trans (hb1.mono hb0.size)).trans (hb2.mono (Nat.le_trans hb0.size hb1.size))⟩

theorem row_le {w : World} {base g n cap : Nat} {l : List UInt8} (h : w.ownsRow base 5 1 (.slice (some ⟨g, 0, none⟩) n cap) n (l.map bc)) : n ≤ cap := by
  obtain ⟨⟨_, _, h2, _⟩, _, h3⟩ := Row.of_own h
  omega

theorem row_rb {w : World} {base g n cap : Nat} {l : List UInt8} (h : w.ownsRow base 5 1 (.slice (some ⟨g, 0, none⟩) n cap) n (l.map bc)) : RB w (some ⟨g, 0, none⟩) 0 w.heap.size l :=
  (Row.of_own h).1.rb 0 _ (Nat.zero_le _) (Row.of_own h).1.lt

theorem bpL_cut (tc ch ak : Bool) (ro co br po ag ma he de : Int) (hin : BpIn ro co br po ag ma he de) (q : Nat) (h : q < bpN tc) : gE ((bpL tc ch ak ro co br po ag ma he de).take q) = 2 := by
  cases tc
  · exact gE_bpB_cut ch ak ro co br po ag ma he de hin q h
  · exact gE_tcn_cut q h

set_option maxRecDepth 100000 in
set_option maxHeartbeats 4000000 in
theorem walk_few (tc ch ak : Bool) (ro co br po ag ma he de : Int) (B : Option Addr) (m d : Nat) (lm : List UInt8) (hlm : Hid (lm.length = m)) (hm : m ≤ 2000) (hmd : Hid (B = none → d = 0)) (k : Nat) (hk : k < 256) (w : World) (hin : BpIn ro co br po ag ma he de) (hr : RB w B 0 w.heap.size lm) :
    Calls Try.prog 5 #[.agg #[.bool tc, .bool ch, .bool ak, .int .u64 ro, .int .u32 co, .int .u64 br, .int .u16 po, .int .u16 ag, .int .u16 ma, .int .u16 he, .int .u16 de], .slice B m d, .int .u8 k] w fun e w' => e = .returned (.bool true) ∧ Below w.heap.size w w' := by
  obtain ⟨l, hl⟩ : ∃ l, l = bpL tc ch ak ro co br po ag ma he de := ⟨_, rfl⟩
  obtain ⟨n, hn⟩ : ∃ n, n = bpN tc := ⟨_, rfl⟩
  have HP := Lib.hid (put_any tc ch ak ro co br po ag ma he de hin)
  rw [← hl, ← hn] at HP
  have hn2 : n ≤ 35 := by rw [hn]; exact (bpN_le tc).2
  have hn1 : 0 < n := by rw [hn]; exact (bpN_le tc).1
  obtain ⟨q, hq⟩ : ∃ q, q = k % n := ⟨_, rfl⟩
  have hqn : q < n := by rw [hq]; exact Nat.mod_lt _ hn1
  have hE3 : Hid (gE (l.take q) = 2) := Lib.hid (by rw [hl]; exact bpL_cut tc ch ak ro co br po ag ma he de hin q (by rw [← hn]; exact hqn))
  have hm1 : (k : Int) % (n : Int) = (q : Int) := by rw [hq]; exact (Int.natCast_emod k n).symm
  have hm2 : (k : Int).tmod (n : Int) = (q : Int) := by rw [← hm1]; exact Int.tmod_eq_emod_of_nonneg (by omega)
  have hd : decide (2000 < (m : Int)) = false := by simp; omega
  have HL := Lib.hid hl
  have HN := Lib.hid hn
  have HI := Lib.hid hin
  clear hl hn hin hq
  go_enter Try.func5, Try.ntmps5
  go_wp2_with fail
  obtain ⟨w0, hB0, hb0, hs0, hw0⟩ := bboxed w tc ch ak ro co br po ag ma he de
  rw [← hw0]
  clear hw0
  (with_reducible refine (awake_any _).mono ?_); rintro e w1 ⟨rfl, hba⟩
  have B0 := hB0.below hba hs0
  have hb1 := below_two hb0 hba hb0.size
  have hs1 := Nat.lt_of_lt_of_le hs0 hba.size
  clear hB0 hb0 hba hs0
  obtain ⟨c0, c1, c2, c3, c4, c5, c6, c7, c8, c9, c10⟩ := B0.cells
  go_wp2_with fail
  clear c0 c1 c2 c3 c4 c5 c6 c7 c8 c9 c10
  (with_reducible refine (HP.out _).mono ?_); rintro e w2 ⟨g, rfl, hg, hP, hlen, hb2⟩
  have hLn := Lib.hid hlen
  have B0 := B0.below hb2 hs1
  have hb2 := hb1.trans (hb2.mono hb1.size)
  have hs2 := Nat.lt_of_lt_of_le (Nat.lt_of_lt_of_le hs1 hg) (Nat.le_of_lt hP.lt)
  have hP := hP.rb 0 w2.heap.size (Nat.zero_le _) hP.lt
  clear hb1 hs1 hlen hg HP
  have hr2 := get_rb hr hb2
  have hlm2 : Hid ((l ++ lm).length = n + m) := Lib.hid (by rw [List.length_append, hLn.out, hlm.out])
  go_upto_region 5 with (first
    | (at_builtin; refine append_bytes _ rfl (.tmp 23) (.tmp 24) rfl w2.heap.size w2.heap.size 0 0 [] rfl (owns_empty w2 5) (some ⟨g, 0, none⟩) n n 0 w2.heap.size l rfl (hP.below (below_new (Nat.le_refl _)) (Nat.le_refl _)) hLn (fun e => by cases e) (by omega) (by simp) w2.heap.size w2 (below_new (Nat.le_refl _)) (Nat.le_refl _) ?_; intro g1 cap1 w3 hown1 hb3 hsz1; simp only [Nat.zero_add, List.nil_append] at hown1)
    | (at_builtin; refine append_bytes _ rfl (.tmp 25) (.tmp 26) rfl w2.heap.size g1 n cap1 l rfl hown1 B m d 0 w2.heap.size lm rfl (hr2.below hb3 (Nat.le_refl _)) hlm hmd.out (by omega) hsz1 w2.heap.size w2 hb3 (Nat.le_refl _) ?_; intro g2 cap2 w4 hown2 hb4 hsz2)
    | (go_at_call 11; (with_reducible refine (get_any _ cap2 (l ++ lm) (n + m) hlm2 (by omega) (row_le hown2) _ (row_rb hown2)).mono ?_); rintro e w5 ⟨rfl, hc5⟩))
  have hb5 := hb2.trans (hb4.mono hb2.size)
  have hd5 := hb5.trans (hc5.mono hb5.size)
  obtain ⟨X1, u1, hX, hu, B1, hb6, hs6, hn6⟩ := step_new hd5 (gTc (l ++ lm)) (gCh (l ++ lm)) (gAk (l ++ lm)) (gRo (l ++ lm)) (gCo (l ++ lm)) (gBr (l ++ lm)) (gPo (l ++ lm)) (gAg (l ++ lm)) (gMa (l ++ lm)) (gHe (l ++ lm)) (gDe (l ++ lm))
  have hz2 : w2.heap.size ≤ u1.heap.size := Nat.le_trans hb4.size (Nat.le_trans hc5.size hn6.size)
  have hN6 : Below w2.heap.size w2 u1 := (hb4.trans (hc5.mono hb4.size)).trans (hn6.mono (Nat.le_trans hb4.size hc5.size))
  have B0 := B0.below hN6 hs2
  have hs6' := Nat.lt_of_lt_of_le hs2 hz2
  have hP := (hP.below hN6 (Nat.le_refl _)).wide (Nat.le_refl _) hz2
  rw [← hu, ← hX]
  clear hu hX hc5 hd5 hn6 hb5 hb4 hown1 hown2 hb3 hsz1 hsz2 hs2 hb2 hN6 hz2 hr2
  have hcut := cut3_any (some ⟨g, 0, none⟩) n n q (Nat.le_of_lt hqn)
  have hlq : Hid ((l.take q).length = q) := Lib.hid (by rw [List.length_take, hLn.out]; omega)
  go_wp2_with fail
  (with_reducible refine (get_any _ n (l.take q) q hlq (by omega) (Nat.le_of_lt hqn) _ (hP.take q)).mono ?_); rintro e w6 ⟨rfl, hc7⟩
  clear hcut hm1 hm2
  have hd7 := hb6.trans (hc7.mono hb6.size)
  go_upto_region 6 with fail
  obtain ⟨X2, u2, hX, hu, _, hb8, _, hn8⟩ := step_new hd7 (gTc (l.take q)) (gCh (l.take q)) (gAk (l.take q)) (gRo (l.take q)) (gCo (l.take q)) (gBr (l.take q)) (gPo (l.take q)) (gAg (l.take q)) (gMa (l.take q)) (gHe (l.take q)) (gDe (l.take q))
  have B1 := (B1.below hc7 hs6).below hn8 (Nat.lt_of_lt_of_le hs6 hc7.size)
  have B0 := (B0.below hc7 hs6').below hn8 (Nat.lt_of_lt_of_le hs6' hc7.size)
  rw [← hu, ← hX]
  rw [hE3.out]
  clear hu hX hc7 hd7 hn8 hb6 hP hs6 hs6'
  obtain ⟨c0, c1, c2, c3, c4, c5, c6, c7, c8, c9, c10⟩ := B0.cells
  clear B0
  obtain ⟨E, hE⟩ : ∃ v, v = gE (l ++ lm) := ⟨_, rfl⟩
  rw [← hE]
  cases tc
  · have hl' : l = bpB ch ak ro co br po ag ma he de := HL.out
    have hn' : n = 35 := HN.out
    clear HL HN
    subst hl' hn'
    rw [gE_bpB ch ak ro co br po ag ma he de HI.out lm] at hE
    by_cases far : 2147483648 ≤ co
    · have fd : decide (2147483648 ≤ co) = true := by simpa using far
      have hb' : gE (bpB ch ak ro co br po ag ma he de ++ lm) ≠ 0 := by rw [gE_bpB ch ak ro co br po ag ma he de HI.out lm, if_pos far]; decide
      obtain ⟨z0, z1, z2, z3, z4, z5, z6, z7, z8, z9, z10⟩ := g_bad _ hb'
      rw [z0, z1, z2, z3, z4, z5, z6, z7, z8, z9, z10] at B1
      clear z0 z1 z2 z3 z4 z5 z6 z7 z8 z9 z10 hb'
      rw [if_pos far] at hE
      subst hE
      obtain ⟨d0, d1, d2, d3, d4, d5, d6, d7, d8, d9, d10⟩ := B1.cells
      have q1 : ∀ w : World, (Op.equalIn 10000 28 (.agg #[.bool false, .bool false, .bool false, .int .u64 0, .int .u32 0, .int .u64 0, .int .u16 0, .int .u16 0, .int .u16 0, .int .u16 0, .int .u16 0]) (.agg #[.bool false, .bool false, .bool false, .int .u64 0, .int .u32 0, .int .u64 0, .int .u16 0, .int .u16 0, .int .u16 0, .int .u16 0, .int .u16 0])).run Try.prog w = .ok true w := eq_same false false false 0 0 0 0 0 0 0 0
      clear far
      go_wp2
      go_ret
      exact ⟨rfl, hb8⟩
    · have fd : decide (2147483648 ≤ co) = false := by simpa using far
      by_cases old : ma ≤ ag
      · have od : decide (ma ≤ ag) = true := by simpa using old
        have hb' : gE (bpB ch ak ro co br po ag ma he de ++ lm) ≠ 0 := by rw [gE_bpB ch ak ro co br po ag ma he de HI.out lm, if_neg far, if_pos old]; decide
        obtain ⟨z0, z1, z2, z3, z4, z5, z6, z7, z8, z9, z10⟩ := g_bad _ hb'
        rw [z0, z1, z2, z3, z4, z5, z6, z7, z8, z9, z10] at B1
        clear z0 z1 z2 z3 z4 z5 z6 z7 z8 z9 z10 hb'
        rw [if_neg far, if_pos old] at hE
        subst hE
        obtain ⟨d0, d1, d2, d3, d4, d5, d6, d7, d8, d9, d10⟩ := B1.cells
        have q1 : ∀ w : World, (Op.equalIn 10000 28 (.agg #[.bool false, .bool false, .bool false, .int .u64 0, .int .u32 0, .int .u64 0, .int .u16 0, .int .u16 0, .int .u16 0, .int .u16 0, .int .u16 0]) (.agg #[.bool false, .bool false, .bool false, .int .u64 0, .int .u32 0, .int .u64 0, .int .u16 0, .int .u16 0, .int .u16 0, .int .u16 0, .int .u16 0])).run Try.prog w = .ok true w := eq_same false false false 0 0 0 0 0 0 0 0
        clear far old
        go_wp2
        go_ret
        exact ⟨rfl, hb8⟩
      · have od : decide (ma ≤ ag) = false := by simpa using old
        rw [if_neg far, if_neg old] at hE
        obtain ⟨z0, z1, z2, z3, z4, z5, z6, z7, z8, z9, z10⟩ := g_bpB ch ak ro co br po ag ma he de HI.out lm (by rw [gE_bpB ch ak ro co br po ag ma he de HI.out lm, if_neg far, if_neg old])
        rw [z0, z1, z2, z3, z4, z5, z6, z7, z8, z9, z10] at B1
        clear z0 z1 z2 z3 z4 z5 z6 z7 z8 z9 z10 far old
        subst hE
        obtain ⟨d0, d1, d2, d3, d4, d5, d6, d7, d8, d9, d10⟩ := B1.cells
        have q1 : ∀ w : World, (Op.equalIn 10000 28 (.agg #[.bool false, .bool ch, .bool ak, .int .u64 ro, .int .u32 co, .int .u64 br, .int .u16 po, .int .u16 ag, .int .u16 ma, .int .u16 he, .int .u16 de]) (.agg #[.bool false, .bool ch, .bool ak, .int .u64 ro, .int .u32 co, .int .u64 br, .int .u16 po, .int .u16 ag, .int .u16 ma, .int .u16 he, .int .u16 de])).run Try.prog w = .ok true w := eq_same false ch ak ro co br po ag ma he de
        go_wp2
        go_ret
        exact ⟨rfl, hb8⟩
  · have hl' : l = tcnB := HL.out
    have hn' : n = 4 := HN.out
    clear HL HN
    subst hl' hn'
    obtain ⟨z0, z1, z2, z3, z4, z5, z6, z7, z8, z9, z10⟩ := g_tcnB lm
    rw [z0, z1, z2, z3, z4, z5, z6, z7, z8, z9, z10] at B1
    clear z0 z1 z2 z3 z4 z5 z6 z7 z8 z9 z10
    rw [gE_tcnB lm] at hE
    subst hE
    obtain ⟨d0, d1, d2, d3, d4, d5, d6, d7, d8, d9, d10⟩ := B1.cells
    have q1 : ∀ w : World, (Op.equalIn 10000 28 (.agg #[.bool true, .bool false, .bool false, .int .u64 0, .int .u32 0, .int .u64 0, .int .u16 0, .int .u16 0, .int .u16 0, .int .u16 0, .int .u16 0]) (.agg #[.bool true, .bool false, .bool false, .int .u64 0, .int .u32 0, .int .u64 0, .int .u16 0, .int .u16 0, .int .u16 0, .int .u16 0, .int .u16 0])).run Try.prog w = .ok true w := eq_same true false false 0 0 0 0 0 0 0 0
    go_wp2
    go_ret
    exact ⟨rfl, hb8⟩

theorem BpduBack_walk (tc ch ak : Bool) (ro co br po ag ma he de : Int) (a1 : Option Addr) (len1 cap1 : Nat) (z1 : List Int) (k : Int) (w : World) (hin : BpIn ro co br po ag ma he de) (w1 : IsRow .u8 w a1 len1 cap1 z1) (h2 : (Lit.int .u8 k).wf = true) :
    Calls Try.prog 5 #[.agg #[.bool tc, .bool ch, .bool ak, .int .u64 ro, .int .u32 co, .int .u64 br, .int .u16 po, .int .u16 ag, .int .u16 ma, .int .u16 he, .int .u16 de], .slice a1 len1 cap1, .int .u8 k] w fun e w' => e = .returned (.bool true) ∧ Below w.heap.size w w' := by
  obtain ⟨lm, hl, hr, hlc, hmx⟩ := bytes_in w1
  by_cases h : 2000 < len1
  · exact walk_many tc ch ak ro co br po ag ma he de a1 len1 cap1 h hmx k w
  · obtain ⟨k0, k1⟩ := u8_wf h2
    obtain ⟨j, rfl⟩ : ∃ j : Nat, k = j := ⟨k.toNat, by omega⟩
    exact walk_few tc ch ak ro co br po ag ma he de a1 len1 cap1 lm hl (by omega) (Lib.hid (none_cap w1)) j (by omega) w hin hr

end Go.Proofs.Ytgkamfnhohcfbaa
