/- The law BpduOwn, walked: it answers true, whatever the Bpdu, the bridge and the port. -/
import Derived.Test.YtgkamfnhohcfbaaBpduBackMath
import Derived.Test.YtgkamfnhohcfbaaBpduGetsWalk
import Derived.Test.YtgkamfnhohcfbaaBpduPutsWalk
namespace Go.Proofs.Ytgkamfnhohcfbaa
open Go.ChangeShapes Go.WideShapes Go.ChangeAt Go.RowKit
set_option linter.unusedVariables false

theorem bpN_le (tc : Bool) : 0 < bpN tc ∧ bpN tc ≤ 35 := by cases tc <;> decide

set_option maxRecDepth 100000 in
set_option maxHeartbeats 4000000 in
theorem BpduOwn_walk (tc ch ak : Bool) (ro co br po ag ma he de : Int) (b p : Int) (w : World) (hin : BpIn ro co br po ag ma he de) (_h1 : (Lit.int .u64 b).wf = true) (_h2 : (Lit.int .u16 p).wf = true) :
    Calls Try.prog 6 #[.agg #[.bool tc, .bool ch, .bool ak, .int .u64 ro, .int .u32 co, .int .u64 br, .int .u16 po, .int .u16 ag, .int .u16 ma, .int .u16 he, .int .u16 de], .int .u64 b, .int .u16 p] w fun e w' => e = .returned (.bool true) ∧ Below w.heap.size w w' := by
  obtain ⟨l, hl⟩ : ∃ l, l = bpL tc ch ak ro co br po ag ma he de := ⟨_, rfl⟩
  obtain ⟨n, hn⟩ : ∃ n, n = bpN tc := ⟨_, rfl⟩
  have HP := Lib.hid (put_any tc ch ak ro co br po ag ma he de hin)
  rw [← hl, ← hn] at HP
  have hn2 : n ≤ 35 := by rw [hn]; exact (bpN_le tc).2
  have HL := Lib.hid hl
  have HI := Lib.hid hin
  clear hl hn hin
  go_enter Try.func6, Try.ntmps6
  go_wp2_with fail
  obtain ⟨w0, hB0, hb0, hs0, hw0⟩ := bboxed w tc ch ak ro co br po ag ma he de
  rw [← hw0]
  clear hw0
  (with_reducible refine (awake_any _).mono ?_); rintro e w1 ⟨rfl, hba⟩
  have B0 := hB0.below hba hs0
  have hb1 := below_two hb0 hba hb0.size
  have hs1 := Nat.lt_of_lt_of_le hs0 hba.size
  clear hB0 hb0 hba hs0
  obtain ⟨c0, c1, c2, c3, c4, c5, c6, c7, c8, c9, c10⟩ := B0.cells
  go_wp2_with fail
  clear c0 c1 c2 c3 c4 c5 c6 c7 c8 c9 c10
  (with_reducible refine (HP.out _).mono ?_); rintro e w2 ⟨g, rfl, hg, hP, hlen, hb2⟩
  have hLn := Lib.hid hlen
  have B0 := B0.below hb2 hs1
  have hb2 := hb1.trans (hb2.mono hb1.size)
  have hs2 := Nat.lt_of_lt_of_le (Nat.lt_of_lt_of_le hs1 hg) (Nat.le_of_lt hP.lt)
  have hP := hP.rb 0 w2.heap.size (Nat.zero_le _) hP.lt
  clear hb1 hs1 hlen hg
  go_wp2_with fail
  (with_reducible refine (get_any _ n l n hLn (by omega) (Nat.le_refl _) _ hP).mono ?_); rintro e w3 ⟨rfl, hc3⟩
  have hd3 := hb2.trans (hc3.mono hb2.size)
  go_upto_region 5 with fail
  obtain ⟨X1, u1, hX, hu, _, hb3, _, hn3⟩ := step_new hd3 (gTc l) (gCh l) (gAk l) (gRo l) (gCo l) (gBr l) (gPo l) (gAg l) (gMa l) (gHe l) (gDe l)
  have B0 := (B0.below hc3 hs2).below hn3 (Nat.lt_of_lt_of_le hs2 hc3.size)
  have hs3 := Nat.lt_of_lt_of_le (Nat.lt_of_lt_of_le hs2 hc3.size) hn3.size
  have hP := ((hP.below hc3 (Nat.le_refl _)).below hn3 hc3.size).wide (Nat.le_refl _) (Nat.le_trans hc3.size hn3.size)
  rw [← hu, ← hX]
  clear hu hX hc3 hd3 hn3 hs2 hb2
  obtain ⟨c0, c1, c2, c3, c4, c5, c6, c7, c8, c9, c10⟩ := B0.cells
  go_wp2_with fail
  clear c0 c1 c2 c3 c4 c5 c6 c7 c8 c9 c10
  (with_reducible refine (for_any _ n l n hLn (by omega) (Nat.le_refl _) br po _ hP).mono ?_); rintro e w4 ⟨rfl, hc4⟩
  have hd4 := hb3.trans (hc4.mono hb3.size)
  go_upto_region 6 with fail
  obtain ⟨X2, u2, hX, hu, _, hb4, _, hn4⟩ := step_new hd4 (fTc l br po) (fCh l br po) (fAk l br po) (fRo l br po) (fCo l br po) (fBr l br po) (fPo l br po) (fAg l br po) (fMa l br po) (fHe l br po) (fDe l br po)
  have B0 := (B0.below hc4 hs3).below hn4 (Nat.lt_of_lt_of_le hs3 hc4.size)
  have hs4 := Nat.lt_of_lt_of_le (Nat.lt_of_lt_of_le hs3 hc4.size) hn4.size
  have hP := ((hP.below hc4 (Nat.le_refl _)).below hn4 hc4.size).wide (Nat.le_refl _) (Nat.le_trans hc4.size hn4.size)
  rw [← hu, ← hX]
  clear hu hX hc4 hd4 hn4 hs3 hb3
  go_wp2_with fail
  (with_reducible refine (for_any _ n l n hLn (by omega) (Nat.le_refl _) b p _ hP).mono ?_); rintro e w5 ⟨rfl, hc5⟩
  have hd5 := hb4.trans (hc5.mono hb4.size)
  go_upto_region 7 with fail
  obtain ⟨X3, u3, hX, hu, _, hb5, _, hn5⟩ := step_new hd5 (fTc l b p) (fCh l b p) (fAk l b p) (fRo l b p) (fCo l b p) (fBr l b p) (fPo l b p) (fAg l b p) (fMa l b p) (fHe l b p) (fDe l b p)
  have B0 := (B0.below hc5 hs4).below hn5 (Nat.lt_of_lt_of_le hs4 hc5.size)
  rw [← hu, ← hX]
  clear hu hX hc5 hd5 hn5 hs4 hb4 hP HP
  obtain ⟨c0, c1, c2, c3, c4, c5, c6, c7, c8, c9, c10⟩ := B0.cells
  clear B0
  obtain ⟨E, hE⟩ : ∃ E, E = gE l := ⟨_, rfl⟩
  obtain ⟨F1, hF1⟩ : ∃ F, F = fE l br po := ⟨_, rfl⟩
  obtain ⟨F2, hF2⟩ : ∃ F, F = fE l b p := ⟨_, rfl⟩
  rw [← hE, ← hF1, ← hF2]
  have hl := HL.out
  by_cases er : E = 0
  · cases tc
    · have hl' : l = bpB ch ak ro co br po ag ma he de := hl
      rw [hl'] at hE hF1 hF2
      rw [own_bpB ch ak ro co br po ag ma he de HI.out (hE.symm.trans er)] at hF1 hF2
      have eF1 : F1 = 6 := by rw [hF1]; simp
      clear hl hl' hE hF1
      subst er eF1
      cases eb : br == b
      · have eF2 : F2 = 0 := by rw [hF2, eb]; rfl
        clear hF2
        subst eF2
        go_wp2
        go_ret
        exact ⟨rfl, hb5⟩
      · cases ep : po == p
        · have eF2 : F2 = 0 := by rw [hF2, eb, ep]; rfl
          clear hF2
          subst eF2
          go_wp2
          go_ret
          exact ⟨rfl, hb5⟩
        · have eF2 : F2 = 6 := by rw [hF2, eb, ep]; rfl
          clear hF2
          subst eF2
          go_wp2
          go_ret
          exact ⟨rfl, hb5⟩
    · have hl' : l = tcnB := hl
      rw [hl'] at hF1 hF2
      have eF1 : F1 = 0 := by rw [hF1, (own_tcn br po).2]
      have eF2 : F2 = 0 := by rw [hF2, (own_tcn b p).2]
      clear hl hl' hE hF1 hF2
      subst er eF1 eF2
      go_wp2
      go_ret
      exact ⟨rfl, hb5⟩
  · have eF1 : F1 = E := by rw [hF1, hE, own_wrong l br po (by rw [← hE]; exact er)]
    have eF2 : F2 = E := by rw [hF2, hE, own_wrong l b p (by rw [← hE]; exact er)]
    have d0 : (E != 0) = true := by simpa using er
    clear hl hE hF1 hF2 er
    subst eF1 eF2
    go_wp2
    go_ret
    exact ⟨rfl, hb5⟩

end Go.Proofs.Ytgkamfnhohcfbaa
