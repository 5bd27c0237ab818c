/- A Bpdu's bytes, read: lists and numbers alone. -/
import Derived.Test.YtgkamfnhohcfbaaBpduFor
import Derived.Test.YtgkamfnhohcfbaaBpduPut
namespace Go.Proofs.Ytgkamfnhohcfbaa
open Go Go.RowKit
set_option linter.unusedVariables false

theorem rest_1 (n : Int) (h0 : 0 ≤ n) (h1 : n < 256) : restK n 1 = n := by simp only [restK]; omega
theorem rest_2 (n : Int) (h0 : 0 ≤ n) (h1 : n < 65536) : restK n 2 = n := by simp only [restK]; omega
theorem rest_3 (n : Int) (h0 : 0 ≤ n) (h1 : n < 16777216) : restK n 3 = n := by simp only [restK]; omega
theorem rest_4 (n : Int) (h0 : 0 ≤ n) (h1 : n < 4294967296) : restK n 4 = n := by simp only [restK]; omega
theorem rest_8 (n : Int) (h0 : 0 ≤ n) (h1 : n < 18446744073709551616) : restK n 8 = n := restK_big n h0 h1 0

theorem fld_mid (x y : List UInt8) (v : Int) (p k : Nat) (hp : x.length = p) (h0 : 0 ≤ v) (h1 : v < 18446744073709551616) (hr : restK v k = v) : fld (x ++ (beB v k ++ y)) p k = v := by
  unfold fld
  rw [List.drop_append_of_le_length (by omega), List.drop_eq_nil_of_le (by omega), List.nil_append, List.take_append_of_le_length (by rw [beB_len]; exact Nat.le_refl _), List.take_of_length_le (by rw [beB_len]; exact Nat.le_refl _), numU_beB v h0 h1, hr]

/-- The fields in a configuration's bytes. -/
theorem bpB_flds (ch ak : Bool) (ro co br po ag ma he de : Int) (hin : BpIn ro co br po ag ma he de) (z : List UInt8) :
    fld (bpB ch ak ro co br po ag ma he de ++ z) 0 3 = 0 ∧ fld (bpB ch ak ro co br po ag ma he de ++ z) 3 1 = 0 ∧ fld (bpB ch ak ro co br po ag ma he de ++ z) 4 1 = flI ch ak ∧ fld (bpB ch ak ro co br po ag ma he de ++ z) 5 8 = ro ∧ fld (bpB ch ak ro co br po ag ma he de ++ z) 13 4 = co ∧ fld (bpB ch ak ro co br po ag ma he de ++ z) 17 8 = br ∧ fld (bpB ch ak ro co br po ag ma he de ++ z) 25 2 = po ∧ fld (bpB ch ak ro co br po ag ma he de ++ z) 27 2 = ag ∧ fld (bpB ch ak ro co br po ag ma he de ++ z) 29 2 = ma ∧ fld (bpB ch ak ro co br po ag ma he de ++ z) 31 2 = he ∧ fld (bpB ch ak ro co br po ag ma he de ++ z) 33 2 = de := by
  obtain ⟨⟨r0, r1⟩, ⟨o0, o1⟩, ⟨b0, b1⟩, ⟨p0, p1⟩, ⟨a0, a1⟩, ⟨n0, n1⟩, ⟨e0, e1⟩, ⟨d0, d1⟩⟩ := hin
  obtain ⟨f0, f1⟩ := flI_lo ch ak
  simp only [bpB, bpPre, bpHead, List.append_assoc]
  refine ⟨?_, ?_, ?_, ?_, ?_, ?_, ?_, ?_, ?_, ?_, ?_⟩
  · have := fld_mid ([] : List UInt8) (beB 0 1 ++ (beB (flI ch ak) 1 ++ (beB ro 8 ++ (beB co 4 ++ (beB br 8 ++ (beB po 2 ++ (beB ag 2 ++ (beB ma 2 ++ (beB he 2 ++ (beB de 2 ++ z)))))))))) 0 0 3 rfl (by omega) (by omega) (rest_3 _ (by omega) (by omega))
    simpa only [List.append_assoc, List.nil_append] using this
  · have := fld_mid (beB 0 3) (beB (flI ch ak) 1 ++ (beB ro 8 ++ (beB co 4 ++ (beB br 8 ++ (beB po 2 ++ (beB ag 2 ++ (beB ma 2 ++ (beB he 2 ++ (beB de 2 ++ z))))))))) 0 3 1 (by simp [beB_len]) (by omega) (by omega) (rest_1 _ (by omega) (by omega))
    simpa only [List.append_assoc, List.nil_append] using this
  · have := fld_mid (beB 0 3 ++ beB 0 1) (beB ro 8 ++ (beB co 4 ++ (beB br 8 ++ (beB po 2 ++ (beB ag 2 ++ (beB ma 2 ++ (beB he 2 ++ (beB de 2 ++ z)))))))) (flI ch ak) 4 1 (by simp [beB_len]) (by omega) (by omega) (rest_1 _ (by omega) (by omega))
    simpa only [List.append_assoc, List.nil_append] using this
  · have := fld_mid (beB 0 3 ++ beB 0 1 ++ beB (flI ch ak) 1) (beB co 4 ++ (beB br 8 ++ (beB po 2 ++ (beB ag 2 ++ (beB ma 2 ++ (beB he 2 ++ (beB de 2 ++ z))))))) ro 5 8 (by simp [beB_len]) (by omega) (by omega) (rest_8 _ (by omega) (by omega))
    simpa only [List.append_assoc, List.nil_append] using this
  · have := fld_mid (beB 0 3 ++ beB 0 1 ++ beB (flI ch ak) 1 ++ beB ro 8) (beB br 8 ++ (beB po 2 ++ (beB ag 2 ++ (beB ma 2 ++ (beB he 2 ++ (beB de 2 ++ z)))))) co 13 4 (by simp [beB_len]) (by omega) (by omega) (rest_4 _ (by omega) (by omega))
    simpa only [List.append_assoc, List.nil_append] using this
  · have := fld_mid (beB 0 3 ++ beB 0 1 ++ beB (flI ch ak) 1 ++ beB ro 8 ++ beB co 4) (beB po 2 ++ (beB ag 2 ++ (beB ma 2 ++ (beB he 2 ++ (beB de 2 ++ z))))) br 17 8 (by simp [beB_len]) (by omega) (by omega) (rest_8 _ (by omega) (by omega))
    simpa only [List.append_assoc, List.nil_append] using this
  · have := fld_mid (beB 0 3 ++ beB 0 1 ++ beB (flI ch ak) 1 ++ beB ro 8 ++ beB co 4 ++ beB br 8) (beB ag 2 ++ (beB ma 2 ++ (beB he 2 ++ (beB de 2 ++ z)))) po 25 2 (by simp [beB_len]) (by omega) (by omega) (rest_2 _ (by omega) (by omega))
    simpa only [List.append_assoc, List.nil_append] using this
  · have := fld_mid (beB 0 3 ++ beB 0 1 ++ beB (flI ch ak) 1 ++ beB ro 8 ++ beB co 4 ++ beB br 8 ++ beB po 2) (beB ma 2 ++ (beB he 2 ++ (beB de 2 ++ z))) ag 27 2 (by simp [beB_len]) (by omega) (by omega) (rest_2 _ (by omega) (by omega))
    simpa only [List.append_assoc, List.nil_append] using this
  · have := fld_mid (beB 0 3 ++ beB 0 1 ++ beB (flI ch ak) 1 ++ beB ro 8 ++ beB co 4 ++ beB br 8 ++ beB po 2 ++ beB ag 2) (beB he 2 ++ (beB de 2 ++ z)) ma 29 2 (by simp [beB_len]) (by omega) (by omega) (rest_2 _ (by omega) (by omega))
    simpa only [List.append_assoc, List.nil_append] using this
  · have := fld_mid (beB 0 3 ++ beB 0 1 ++ beB (flI ch ak) 1 ++ beB ro 8 ++ beB co 4 ++ beB br 8 ++ beB po 2 ++ beB ag 2 ++ beB ma 2) (beB de 2 ++ z) he 31 2 (by simp [beB_len]) (by omega) (by omega) (rest_2 _ (by omega) (by omega))
    simpa only [List.append_assoc, List.nil_append] using this
  · have := fld_mid (beB 0 3 ++ beB 0 1 ++ beB (flI ch ak) 1 ++ beB ro 8 ++ beB co 4 ++ beB br 8 ++ beB po 2 ++ beB ag 2 ++ beB ma 2 ++ beB he 2) z de 33 2 (by simp [beB_len]) (by omega) (by omega) (rest_2 _ (by omega) (by omega))
    simpa only [List.append_assoc, List.nil_append] using this

theorem tcnB_len : tcnB.length = 4 := by decide

theorem tcn_flds (z : List UInt8) : fld (tcnB ++ z) 0 3 = 0 ∧ fld (tcnB ++ z) 3 1 = 128 := by
  have a := fld_mid [] (beB 128 1 ++ z) 0 0 3 rfl (by omega) (by omega) (rest_3 _ (by omega) (by omega))
  have b := fld_mid (beB 0 3) z 128 3 1 (beB_len 0 3) (by omega) (by omega) (rest_1 _ (by omega) (by omega))
  refine ⟨?_, ?_⟩
  · simpa only [tcnB, List.append_assoc, List.nil_append] using a
  · simpa only [tcnB, List.append_assoc, List.nil_append] using b

theorem gE_tcnB (z : List UInt8) : gE (tcnB ++ z) = 0 := gE_tcn _ (by simp [tcnB_len]) (tcn_flds z).1 (tcn_flds z).2

theorem g_tcnB (z : List UInt8) : gTc (tcnB ++ z) = true ∧ gCh (tcnB ++ z) = false ∧ gAk (tcnB ++ z) = false ∧ gRo (tcnB ++ z) = 0 ∧ gCo (tcnB ++ z) = 0 ∧ gBr (tcnB ++ z) = 0 ∧ gPo (tcnB ++ z) = 0 ∧ gAg (tcnB ++ z) = 0 ∧ gMa (tcnB ++ z) = 0 ∧ gHe (tcnB ++ z) = 0 ∧ gDe (tcnB ++ z) = 0 :=
  g_tcn (tcnB ++ z) (gE_tcnB z) (tcn_flds z).2

theorem gE_bpB (ch ak : Bool) (ro co br po ag ma he de : Int) (hin : BpIn ro co br po ag ma he de) (z : List UInt8) : gE (bpB ch ak ro co br po ag ma he de ++ z) = if 2147483648 ≤ co then 4 else if ma ≤ ag then 5 else 0 := by
  obtain ⟨t0, t1, t2, t3, t4, t5, t6, t7, t8, t9, t10⟩ := bpB_flds ch ak ro co br po ag ma he de hin z
  have hl : ¬ (bpB ch ak ro co br po ag ma he de ++ z).length < 35 := by simp [bpB_len]
  by_cases far : 2147483648 ≤ co
  · rw [if_pos far, gE_far _ hl t0 t1 (by rw [t4]; exact far)]
  · rw [if_neg far]
    by_cases old : ma ≤ ag
    · rw [if_pos old, gE_old _ hl t0 t1 (by rw [t4]; exact far) (by rw [t7, t8]; exact old)]
    · rw [if_neg old, gE_good _ hl t0 t1 (by rw [t4]; exact far) (by rw [t7, t8]; exact old)]

theorem flI_bits (ch ak : Bool) : (flI ch ak % 2 == 1) = ch ∧ decide (128 ≤ flI ch ak) = ak := by cases ch <;> cases ak <;> decide

theorem g_bpB (ch ak : Bool) (ro co br po ag ma he de : Int) (hin : BpIn ro co br po ag ma he de) (z : List UInt8) (h : gE (bpB ch ak ro co br po ag ma he de ++ z) = 0) :
    gTc (bpB ch ak ro co br po ag ma he de ++ z) = false ∧ gCh (bpB ch ak ro co br po ag ma he de ++ z) = ch ∧ gAk (bpB ch ak ro co br po ag ma he de ++ z) = ak ∧ gRo (bpB ch ak ro co br po ag ma he de ++ z) = ro ∧ gCo (bpB ch ak ro co br po ag ma he de ++ z) = co ∧ gBr (bpB ch ak ro co br po ag ma he de ++ z) = br ∧ gPo (bpB ch ak ro co br po ag ma he de ++ z) = po ∧ gAg (bpB ch ak ro co br po ag ma he de ++ z) = ag ∧ gMa (bpB ch ak ro co br po ag ma he de ++ z) = ma ∧ gHe (bpB ch ak ro co br po ag ma he de ++ z) = he ∧ gDe (bpB ch ak ro co br po ag ma he de ++ z) = de := by
  obtain ⟨t0, t1, t2, t3, t4, t5, t6, t7, t8, t9, t10⟩ := bpB_flds ch ak ro co br po ag ma he de hin z
  obtain ⟨z0, z1, z2, z3, z4, z5, z6, z7, z8, z9, z10⟩ := g_conf _ h t1
  obtain ⟨i0, i1⟩ := flI_bits ch ak
  exact ⟨z0, by rw [z1, t2, i0], by rw [z2, t2, i1], z3.trans t3, z4.trans t4, z5.trans t5, z6.trans t6, z7.trans t7, z8.trans t8, z9.trans t9, z10.trans t10⟩

theorem own_tcn (b p : Int) : gE tcnB = 0 ∧ fE tcnB b p = 0 := by
  have e := gE_tcnB []
  have g := (g_tcnB []).1
  rw [List.append_nil] at e g
  refine ⟨e, ?_⟩
  unfold fE
  rw [own_good tcnB b p e, g, e]; rfl

theorem own_wrong (l : List UInt8) (b p : Int) (h : gE l ≠ 0) : fE l b p = gE l := by
  unfold fE
  rw [own_bad l b p h]; rfl

theorem own_bpB (ch ak : Bool) (ro co br po ag ma he de : Int) (hin : BpIn ro co br po ag ma he de) (h : gE (bpB ch ak ro co br po ag ma he de) = 0) (b p : Int) : fE (bpB ch ak ro co br po ag ma he de) b p = if br == b && po == p then 6 else 0 := by
  have h' : gE (bpB ch ak ro co br po ag ma he de ++ []) = 0 := by rw [List.append_nil]; exact h
  obtain ⟨z0, z1, z2, z3, z4, z5, z6, z7, z8, z9, z10⟩ := g_bpB ch ak ro co br po ag ma he de hin [] h'
  rw [List.append_nil] at z0 z5 z6
  unfold fE
  rw [own_good _ b p h, z0, z5, z6, h]; rfl

theorem gE_tcn_cut (m : Nat) (h : m < 4) : gE (tcnB.take m) = 2 := gE_short _ (by simp; omega)

theorem gE_bpB_cut (ch ak : Bool) (ro co br po ag ma he de : Int) (hin : BpIn ro co br po ag ma he de) (m : Nat) (h : m < 35) : gE ((bpB ch ak ro co br po ag ma he de).take m) = 2 := by
  by_cases h4 : m < 4
  · exact gE_short _ (by simp; omega)
  · obtain ⟨t0, t1, _⟩ := bpB_flds ch ak ro co br po ag ma he de hin []
    rw [List.append_nil] at t0 t1
    exact gE_few _ (by simp [bpB_len]; omega) (by rw [fld_take _ _ _ _ (by omega)]; exact t0) (by rw [fld_take _ _ _ _ (by omega)]; exact t1) (by simp [bpB_len]; omega)

end Go.Proofs.Ytgkamfnhohcfbaa
