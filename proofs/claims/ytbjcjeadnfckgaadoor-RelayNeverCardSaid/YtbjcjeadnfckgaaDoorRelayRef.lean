/- The document's relay: what a frame is, whether its sender is learnt, by which ports it goes on: contracts. -/
import Derived.Test.YtbjcjeadnfckgaaDoorFrameRefOpen
import Derived.Test.YtbjcjeadnfckgaaDoorIdsRefRight
import Derived.Test.YtbjcjeadnfckgaaDoorIdsRight
import Derived.Test.YtbjcjeadnfckgaaDoorIntsIn
import Derived.Test.YtbjcjeadnfckgaaDoorHeld
import Derived.Test.YtbjcjeadnfckgaaDoorIntsOwn
import Derived.Deep.DeepCutAuto
import Derived.LoopTactic
namespace Go.Proofs.YtbjcjeadnfckgaaDoor
set_option maxRecDepth 100000
open Go.ChangeShapes Go.WideShapes Go.ChangeAt Go.RowKit
set_option linter.unusedVariables false
set_option linter.unusedSimpArgs false

/-- What a frame is to a bridge. -/
def classR (t k : Int) (l : List UInt8) : Int := if openB t k l = true then 0 else if t / 16 = 103282638848 then 1 else 2

theorem rclass_is (t f k : Int) (A : Option Addr) (n c : Nat) (l : List UInt8) (hl : Hid (l.length = n)) (hn : n ≤ 10000) (h0 : 0 ≤ t) (h1 : t ≤ 18446744073709551615) (h2 : 0 ≤ k) (h5 : k < 65536) (w : World) (hr : RB w A 0 w.heap.size l) :
    Calls Tryd.prog 11 #[.agg #[.int .u64 t, .int .u64 f, .int .u16 k, .slice A n c]] w fun e w' => e = .returned (.int .i64 (classR t k l)) ∧ Below w.heap.size w w' := by
  obtain ⟨wb, hwb, S⟩ := hs_one w 27 [.int .u64 t, .int .u64 f, .int .u16 k, .slice A n c]
  have HOP := Lib.hid (refopen_any t f k A n c l hl hn h2 h5 wb ((hr.below S.old (Nat.le_refl _)).wide (Nat.le_refl _) S.old.size))
  go_enter Tryd.func11, Tryd.ntmps11
  go_upto_region 1 with fail
  clear hwb
  obtain ⟨X, hX⟩ : ∃ X, w.heap.size = X := ⟨_, rfl⟩
  rw [hX] at S ⊢
  clear hX
  have hx := S.bk 0 rfl
  go_wp2_with (with_reducible refine wpList_load_row rfl 27 (.tmp 1) rfl X (by kernel_rfl) _ _ (0, 0) _ hx Tryd.underlying27 rfl (by kernel_rfl) ?_)
  (with_reducible refine HOP.out.mono ?_); rintro e w1 ⟨h, b1⟩
  have S1 := S.below b1
  clear S hx HOP b1
  rcases h with ⟨ho, h3, rfl⟩ | ⟨ho, rfl⟩
  · go_wp2
    go_ret
    exact ⟨ret_int (by unfold classR; rw [if_pos ho]), S1.old⟩
  · have c0 := S1.cell 0 0 rfl rfl
    have hw : IntKind.u64.wrap (t.tdiv 16) = t / 16 := by rw [Int.tdiv_eq_ediv_of_nonneg h0]; simp [IntKind.wrap, IntKind.bits, IntKind.signed]; omega
    by_cases ht : t / 16 = 103282638848
    · have hb : (t / 16 == 103282638848) = true := by simp [ht]
      have HE := Lib.hid (show (1 : Int) = classR t k l by unfold classR; rw [if_neg (by rw [ho]; decide), if_pos ht])
      clear ht ho
      go_wp2
      go_ret
      exact ⟨ret_int HE.out, S1.old⟩
    · have hb : (t / 16 == 103282638848) = false := by simp [ht]
      have HE := Lib.hid (show (2 : Int) = classR t k l by unfold classR; rw [if_neg (by rw [ho]; decide), if_neg ht])
      clear ht ho
      go_wp2
      go_ret
      exact ⟨ret_int HE.out, S1.old⟩

/-- Whether a sender is learnt. -/
def learnsR (t f k st : Int) (l : List UInt8) : Bool := decide (classR t k l = 2) && (decide (st = 3) || decide (st = 4)) && rightB f
theorem rlearns_is (t f k st : Int) (A : Option Addr) (n c : Nat) (l : List UInt8) (hl : Hid (l.length = n)) (hn : n ≤ 10000) (h0 : 0 ≤ t) (h1 : t ≤ 18446744073709551615) (hf : 0 ≤ f ∧ f ≤ 18446744073709551615) (h2 : 0 ≤ k) (h5 : k < 65536) (w : World) (hr : RB w A 0 w.heap.size l) :
    Calls Tryd.prog 13 #[.agg #[.int .u64 t, .int .u64 f, .int .u16 k, .slice A n c], .int .i64 st] w fun e w' => e = .returned (.bool (learnsR t f k st l)) ∧ Below w.heap.size w w' := by
  obtain ⟨cl, hcl⟩ : ∃ q, classR t k l = q := ⟨_, rfl⟩
  obtain ⟨wb, hwb, S⟩ := hs_one w 27 [.int .u64 t, .int .u64 f, .int .u16 k, .slice A n c]
  have HCL := Lib.hid (rclass_is t f k A n c l hl hn h0 h1 h2 h5 wb ((hr.below S.old (Nat.le_refl _)).wide (Nat.le_refl _) S.old.size))
  have HR := fun W => Lib.hid (refright_any f hf.1 hf.2 W)
  obtain ⟨rb, hrb⟩ : ∃ q, rightB f = q := ⟨_, rfl⟩
  rw [hrb] at HR
  rw [hcl] at HCL
  have HE := Lib.hid (show learnsR t f k st l = (decide (cl = 2) && (decide (st = 3) || decide (st = 4)) && rb) by unfold learnsR; rw [hcl, hrb])
  rw [HE.out]
  clear hcl hrb HE
  go_enter Tryd.func13, Tryd.ntmps13
  go_upto_region 1 with fail
  clear hwb
  obtain ⟨X, hX⟩ : ∃ X, w.heap.size = X := ⟨_, rfl⟩
  rw [hX] at S ⊢
  clear hX
  have hx := S.bk 0 rfl
  go_wp2_with (with_reducible refine wpList_load_row rfl 27 (.tmp 2) rfl X (by kernel_rfl) _ _ (0, 0) _ hx Tryd.underlying27 rfl (by kernel_rfl) ?_)
  (with_reducible refine HCL.out.mono ?_); rintro e w1 ⟨rfl, b1⟩
  have S1 := S.below b1
  clear S hx HCL b1
  have c1 := S1.cell 0 1 rfl rfl
  by_cases q2 : cl = 2
  · have e2 : (cl == 2) = true := by simp [q2]
    by_cases q3 : st = 3
    · have e3 : (st == 3) = true := by simp [q3]
      go_wp2_with fail
      (with_reducible refine (HR _).out.mono ?_); rintro e w2 ⟨rfl, rfl⟩
      go_wp2
      go_ret
      exact ⟨ret_bool (by simp [q2, q3]), S1.old⟩
    · have e3 : (st == 3) = false := by simp [q3]
      by_cases q4 : st = 4
      · have e4 : (st == 4) = true := by simp [q4]
        go_wp2_with fail
        (with_reducible refine (HR _).out.mono ?_); rintro e w2 ⟨rfl, rfl⟩
        go_wp2
        go_ret
        exact ⟨ret_bool (by simp [q2, q4]), S1.old⟩
      · have e4 : (st == 4) = false := by simp [q4]
        go_wp2
        go_ret
        exact ⟨ret_bool (by simp [q3, q4]), S1.old⟩
  · have e2 : (cl == 2) = false := by simp [q2]
    go_wp2
    go_ret
    exact ⟨ret_bool (by simp [q2]), S1.old⟩

/-- Whether a frame goes on by a port. -/
def goesB (cl inn : Int) (U : List Int) (i : Nat) : Bool := decide (0 ≤ inn) && decide (inn < U.length) && decide ((i : Int) ≠ inn) && decide (U[i]? = some 4) && decide (cl = 2) && decide (U[inn.toNat]? = some 4)
def throughB (cl t inn : Int) (U : List Int) (wh : Int) (kn : Bool) (i : Nat) : Bool := goesB cl inn U i && (groupB t || !kn || decide (wh = i))
theorem Tryd.infoIntR : (Tryd.prog.info? 3).map (fun i => (i.zero, i.size, i.bytes)) = some (some (.int .i64 0), 1, 8) := by kernel_rfl
set_option maxRecDepth 100000 in
set_option maxHeartbeats 4000000 in
theorem rports_is (t f k inn wh : Int) (kn : Bool) (A : Option Addr) (n c : Nat) (l : List UInt8) (A2 : Option Addr) (m c2 : Nat) (U : List Int) (hU : Hid (U.length = m)) (hm : m ≤ 100000) (hl : Hid (l.length = n)) (hn : n ≤ 10000) (h0 : 0 ≤ t) (h1 : t ≤ 18446744073709551615) (h2 : 0 ≤ k) (h5 : k < 65536) (hi : -9223372036854775808 ≤ inn ∧ inn ≤ 9223372036854775807) (w : World) (hr : Hid (RB w A 0 w.heap.size l)) (hI : Hid (IntsIn w A2 w.heap.size U)) :
    Calls Tryd.prog 9 #[.agg #[.int .u64 t, .int .u64 f, .int .u16 k, .slice A n c], .int .i64 inn, .slice A2 m c2, .int .i64 wh, .bool kn] w fun e w' => ∃ v, e = .returned v ∧ IntsR w' w.heap.size v (pickN (throughB (classR t k l) t inn U wh kn) m) ∧ Below w.heap.size w w' := by
  obtain ⟨cl, hcl⟩ : ∃ q, classR t k l = q := ⟨_, rfl⟩
  have HCL := fun W (h : Below w.heap.size w W) => Lib.hid (rclass_is t f k A n c l hl hn h0 h1 h2 h5 W ((hr.out.below h (Nat.le_refl _)).wide (Nat.le_refl _) h.size))
  rw [hcl]
  rw [hcl] at HCL
  clear hcl
  obtain ⟨P, hP⟩ : ∃ P, throughB cl t inn U wh kn = P := ⟨_, rfl⟩
  have HP := Lib.hid hP
  rw [hP]
  clear hP
  obtain ⟨gb, hgb⟩ : ∃ q, groupB t = q := ⟨_, rfl⟩
  have hwq : IntKind.u64.wrap (t.tdiv 1099511627776) = t / 1099511627776 := by rw [Int.tdiv_eq_ediv_of_nonneg h0]; simp [IntKind.wrap, IntKind.bits, IntKind.signed]; omega
  have hwr : (t / 1099511627776).tmod 2 = t / 1099511627776 % 2 := Int.tmod_eq_emod_of_nonneg (by omega)
  have hwg : (t / 1099511627776 % 2 == 1) = gb := by rw [← hgb]; unfold groupB; rfl
  have HGB := Lib.hid hgb
  have HW := Lib.hid (⟨hwq, hwr, hwg⟩ : _ ∧ _ ∧ _)
  clear hgb hwq hwr hwg
  obtain ⟨i0, hi0, hz0, hz1, hz2⟩ := info_parts Tryd.infoIntR
  have HIF := Lib.hid (⟨hi0, hz0, hz1, hz2⟩ : _ ∧ _ ∧ _ ∧ _)
  clear hi0 hz0 hz1 hz2
  obtain ⟨wb, hwb, S⟩ := hs_one w 27 [.int .u64 t, .int .u64 f, .int .u16 k, .slice A n c]
  go_enter Tryd.func9, Tryd.ntmps9
  go_upto_region 1 with fail
  clear hwb
  obtain ⟨X, hX⟩ : ∃ X, w.heap.size = X := ⟨_, rfl⟩
  rw [hX] at S
  rw [show (Value.pointer (some ⟨w.heap.size, 0, none⟩)) = Value.pointer (some ⟨X, 0, none⟩) by rw [hX]]
  clear hX
  go_wp2
  go_loopw [11, 12] (fun v i wr => ∃ j : Nat, j ≤ m ∧ i = .int .i64 j ∧ Hs w [(X, 27, [.int .u64 t, .int .u64 f, .int .u16 k, .slice A n c])] wr ∧ IntsR wr w.heap.size v (pickN P j)) (fun _ i _ => m - (intOf i).toNat)
  case atStart => exact ⟨0, Nat.zero_le _, rfl, S, OwnL.nil _ _ _⟩
  case round =>
    clear S
    obtain ⟨j, hj, rfl, S, hR⟩ := hrel
    by_cases hjm : j < m
    · have hji : (j : Int) < (m : Int) := by omega
      have hjz : ¬ (m : Int) ≤ (j : Int) := by omega
      obtain ⟨u, hu⟩ : ∃ u, U[j]? = some u := ⟨_, List.getElem?_eq_getElem (by rw [hU.out]; exact hjm)⟩
      obtain ⟨ad, rfl, -, -, -⟩ := hI.out j u hu
      have HUJ := Lib.hid hu
      clear hu
      obtain ⟨g5, hg5⟩ : ∃ q, (decide (0 ≤ inn) && decide (inn < (m : Int)) && decide ((j : Int) ≠ inn) && decide (u = 4) && decide (cl = 2)) = q := ⟨_, rfl⟩
      have HG5 := Lib.hid hg5
      clear hg5
      go_upto_region 5 with fail
      go_cut [13] (fun q wx => q = .bool g5 ∧ Hs w [(X, 27, [.int .u64 t, .int .u64 f, .int .u16 k, .slice A n c])] wx ∧ IntsR wx w.heap.size u11 (pickN P j))
      case first =>
        have hg := HG5.out
        by_cases a1 : 0 ≤ inn
        · have b1 : decide (0 ≤ inn) = true := by simp [a1]
          by_cases a2 : inn < (m : Int)
          · by_cases a3 : (j : Int) = inn
            · have b3 : ((j : Int) != inn) = false := by simp [a3]
              obtain rfl : false = g5 := by rw [← hg]; simp [a3]
              clear hg a3
              go_wp2
              go_meet
              exact ⟨rfl, S, hR⟩
            · have b3 : ((j : Int) != inn) = true := by simp [a3]
              have hcj : wr.cell? (ad.add j) = some (.int .i64 u) := by
                obtain ⟨ad', e, hb, hc, -⟩ := (hI.out.below S.old) j u HUJ.out
                cases e
                exact hc
              by_cases a4 : u = 4
              · have b4 : (u == 4) = true := by simp [a4]
                obtain ⟨ccB, hcc⟩ : ∃ q, (cl == 2) = q := ⟨_, rfl⟩
                obtain rfl : ccB = g5 := by rw [← hg, ← hcc, show (cl == 2) = decide (cl = 2) from Bool.eq_iff_iff.2 (by simp)]; simp [a1, a2, a3, a4]
                clear hg a4
                have hx := S.bk 0 rfl
                go_wp2_with (with_reducible refine wpList_load_rowG (by kernel_rfl) 27 (.tmp 5) rfl X (by kernel_rfl) _ _ (0, 0) _ hx Tryd.underlying27 rfl (by kernel_rfl) ?_)
                (with_reducible refine (HCL _ S.old).out.mono ?_); rintro e w1 ⟨rfl, b1⟩
                have S1 := S.below b1
                have hR1 := hR.below b1
                go_wp2
                go_meet
                exact ⟨rfl, S1, hR1⟩
              · have b4 : (u == 4) = false := by simp [a4]
                obtain rfl : false = g5 := by rw [← hg]; simp [a4]
                clear hg
                go_wp2
                go_meet
                exact ⟨rfl, S, hR⟩
          · obtain rfl : false = g5 := by rw [← hg]; simp [a2]
            clear hg
            go_wp2
            go_meet
            exact ⟨rfl, S, hR⟩
        · have b1 : decide (0 ≤ inn) = false := by simp [a1]
          obtain rfl : false = g5 := by rw [← hg]; simp [a1]
          clear hg
          go_wp2
          go_meet
          exact ⟨rfl, S, hR⟩
      case rest =>
        obtain ⟨rfl, S, hR⟩ := hcut
        rename World => wy
        obtain ⟨g, hg⟩ : ∃ q, goesB cl inn U j = q := ⟨_, rfl⟩
        have hgoes : goesB cl inn U j = (g5 && decide (U[inn.toNat]? = some 4)) := by unfold goesB; rw [← HG5.out, hU.out, HUJ.out]; simp
        have HG := Lib.hid hg
        go_upto_if 46 with fail
        go_cut [13] (fun q wx => q = .bool g ∧ wx = wy)
        case first =>
          have hg := HG.out
          rw [hgoes] at hg
          cases g5 with
          | false =>
            obtain rfl : false = g := by rw [← hg]; rfl
            clear hg
            go_wp2
            go_meet
            exact ⟨rfl, rfl⟩
          | true =>
            rw [Bool.true_and] at hg
            have a5 := HG5.out
            rw [Bool.and_eq_true, Bool.and_eq_true, Bool.and_eq_true, Bool.and_eq_true, decide_eq_true_eq, decide_eq_true_eq] at a5
            obtain ⟨q, rfl⟩ : ∃ q : Nat, inn = q := ⟨inn.toNat, by omega⟩
            have hqm : q < m := by omega
            have hqi : (q : Int) < (m : Int) := by omega
            have hqz : ¬ (m : Int) ≤ (q : Int) := by omega
            obtain ⟨y, hy⟩ : ∃ y, U[q]? = some y := ⟨_, List.getElem?_eq_getElem (by rw [hU.out]; exact hqm)⟩
            have hcq : wy.cell? (ad.add q) = some (.int .i64 y) := by
              obtain ⟨ad', e, hb, hc, -⟩ := (hI.out.below S.old) q y hy
              cases e
              exact hc
            rw [Int.toNat_natCast, hy] at hg
            obtain ⟨yb, hyb⟩ : ∃ z, (y == 4) = z := ⟨_, rfl⟩
            obtain rfl : yb = g := by rw [← hg, ← hyb]; exact Bool.eq_iff_iff.2 (by simp)
            clear hg a5 hy
            go_wp2
            go_meet
            exact ⟨rfl, rfl⟩
        case rest =>
          obtain ⟨rfl, rfl⟩ := hcut
          rename World => wy
          obtain ⟨hwq, hwr, hwg⟩ := HW.out
          have c0 := S.cell 0 0 rfl rfl
          cases g with
          | false =>
            have HPJ := Lib.hid (show pickN P (j + 1) = pickN P j from pickN_no (by rw [← HP.out]; unfold throughB; rw [HG.out]; simp ))
            go_wp2
            go_roundw
            case rel => exact ⟨j + 1, hjm, by go_num, S, by rw [HPJ.out]; exact hR⟩
            case measure => simp [intOf]; omega
          | true =>
            obtain ⟨sv, hsv⟩ : ∃ q, groupB t = q := ⟨_, rfl⟩
            obtain rfl : gb = sv := by rw [← hsv]; exact HGB.out.symm
            have HSV := Lib.hid hsv
            clear hsv
            cases gb with
            | true =>
              obtain ⟨hi0, hz0, hz1, hz2⟩ := HIF.out
              have HPJ := Lib.hid (show pickN P (j + 1) = pickN P j ++ [j] from pickN_yes (by rw [← HP.out]; unfold throughB; rw [HG.out]; simp [HSV.out]))
              have hlen : (pickN P j).length ≤ 100000 := by have := pickN_len P j; omega
              go_upto_region 10 with fail
              go_wp2_with (at_builtin; (refine append_elem (s := 1) (enc := encNi) wy rfl (.tmp 70) (.tmp 72) _ rfl w.heap.size 3 i0 _ 8 Tryd.underlying28 hi0 hz0 hz1 hz2 rfl (by decide) encNi_len encNi_one _ (pickN P j) j rfl hR _ rfl rfl hlen (by decide) w.heap.size w S.old (Nat.le_refl _) S.old.size ?_); intro g2 cap2 w4 hg2 hI4 hb4 gr; have S4 := S.growE1 hR (by decide) gr hb4)
              rw [← HPJ.out] at hI4
              exact ⟨⟨j + 1, hjm, by go_num, S4, hI4⟩, by simp [intOf]; omega⟩
            | false =>
              cases kn with
              | false =>
                obtain ⟨hi0, hz0, hz1, hz2⟩ := HIF.out
                have HPJ := Lib.hid (show pickN P (j + 1) = pickN P j ++ [j] from pickN_yes (by rw [← HP.out]; unfold throughB; rw [HG.out]; simp [HSV.out]))
                have hlen : (pickN P j).length ≤ 100000 := by have := pickN_len P j; omega
                go_upto_region 10 with fail
                go_wp2_with (at_builtin; (refine append_elem (s := 1) (enc := encNi) wy rfl (.tmp 70) (.tmp 72) _ rfl w.heap.size 3 i0 _ 8 Tryd.underlying28 hi0 hz0 hz1 hz2 rfl (by decide) encNi_len encNi_one _ (pickN P j) j rfl hR _ rfl rfl hlen (by decide) w.heap.size w S.old (Nat.le_refl _) S.old.size ?_); intro g2 cap2 w4 hg2 hI4 hb4 gr; have S4 := S.growE1 hR (by decide) gr hb4)
                rw [← HPJ.out] at hI4
                exact ⟨⟨j + 1, hjm, by go_num, S4, hI4⟩, by simp [intOf]; omega⟩
              | true =>
                by_cases hw : wh = (j : Int)
                · have hwb : (wh == (j : Int)) = true := by simp [hw]
                  have HWJ := Lib.hid hw
                  obtain ⟨hi0, hz0, hz1, hz2⟩ := HIF.out
                  have HPJ := Lib.hid (show pickN P (j + 1) = pickN P j ++ [j] from pickN_yes (by rw [← HP.out]; unfold throughB; rw [HG.out]; simp [HSV.out, HWJ.out]))
                  have hlen : (pickN P j).length ≤ 100000 := by have := pickN_len P j; omega
                  clear hw
                  go_upto_region 10 with fail
                  go_wp2_with (at_builtin; (refine append_elem (s := 1) (enc := encNi) wy rfl (.tmp 70) (.tmp 72) _ rfl w.heap.size 3 i0 _ 8 Tryd.underlying28 hi0 hz0 hz1 hz2 rfl (by decide) encNi_len encNi_one _ (pickN P j) j rfl hR _ rfl rfl hlen (by decide) w.heap.size w S.old (Nat.le_refl _) S.old.size ?_); intro g2 cap2 w4 hg2 hI4 hb4 gr; have S4 := S.growE1 hR (by decide) gr hb4)
                  rw [← HPJ.out] at hI4
                  exact ⟨⟨j + 1, hjm, by go_num, S4, hI4⟩, by simp [intOf]; omega⟩
                · have hwb : (wh == (j : Int)) = false := by simp [hw]
                  have HWJ := Lib.hid hw
                  have HPJ := Lib.hid (show pickN P (j + 1) = pickN P j from pickN_no (by rw [← HP.out]; unfold throughB; rw [HG.out]; simp [HSV.out, HWJ.out]))
                  clear hw
                  go_wp2
                  go_roundw
                  case rel => exact ⟨j + 1, hjm, by go_num, S, by rw [HPJ.out]; exact hR⟩
                  case measure => simp [intOf]; omega
    · have hjz : ¬ (j : Int) < (m : Int) := by omega
      have hje : j = m := by omega
      rw [hje] at hR
      go_wp2
      go_ret
      exact ⟨_, rfl, hR, S.old⟩
end Go.Proofs.YtbjcjeadnfckgaaDoor
