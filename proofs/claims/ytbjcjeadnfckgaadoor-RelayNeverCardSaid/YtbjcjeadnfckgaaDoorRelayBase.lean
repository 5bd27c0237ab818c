/- What a frame is to a bridge, whether its sender is learnt, whether a port forwards: contracts of the program's functions. -/
import Derived.Test.YtbjcjeadnfckgaaDoorRelayRef
import Derived.Test.YtbjcjeadnfckgaaDoorFrameOpen
import Derived.Test.YtbjcjeadnfckgaaDoorIdsRes
import Derived.Test.YtbjcjeadnfckgaaDoorPortFwd
namespace Go.Proofs.YtbjcjeadnfckgaaDoor
set_option maxRecDepth 100000
open Go.ChangeShapes Go.WideShapes Go.ChangeAt Go.RowKit
set_option linter.unusedVariables false
set_option linter.unusedSimpArgs false

/-- Whether there is such a port, and it forwards. -/
def fwdB (U : List Int) (i : Int) : Bool := decide (0 ≤ i) && decide (i < U.length) && decide (U[i.toNat]? = some 4)

theorem rfwd_is (i : Int) (A : Option Addr) (m c : Nat) (U : List Int) (hU : Hid (U.length = m)) (w : World) (B : Nat) (hI : Hid (IntsIn w A B U)) :
    Calls Tryd.prog 14 #[.int .i64 i, .slice A m c] w fun e w' => e = .returned (.bool (fwdB U i)) ∧ w = w' := by
  by_cases h0 : 0 ≤ i
  · have b0 : decide (0 ≤ i) = true := by simp [h0]
    by_cases h1 : i < (m : Int)
    · have b1 : decide (i < (m : Int)) = true := by simp [h1]
      obtain ⟨k, rfl⟩ : ∃ k : Nat, i = k := ⟨i.toNat, by omega⟩
      have hkm : k < m := by omega
      obtain ⟨u, hu⟩ : ∃ u, U[k]? = some u := ⟨_, List.getElem?_eq_getElem (by rw [hU.out]; exact hkm)⟩
      obtain ⟨ad, rfl, -, hc, -, -⟩ := hI.out k u hu
      have HF := fun W => Lib.hid (fwd_is u W)
      have HE := Lib.hid (show fwdB U (k : Int) = decide (u = 4) by unfold fwdB; rw [hU.out, Int.toNat_natCast, hu]; simp [hkm])
      rw [HE.out]
      clear hu h0
      go_enter Tryd.func14, Tryd.ntmps14
      go_wp2_with (go_at_call 23; (with_reducible refine (HF _).out.mono ?_); rintro e w' ⟨rfl, rfl⟩)
      go_ret
      exact ⟨rfl, rfl⟩
    · have b1 : decide (i < (m : Int)) = false := by simp [h1]
      have HE := Lib.hid (show fwdB U i = false by unfold fwdB; rw [hU.out, b1]; simp)
      rw [HE.out]
      clear h1
      go_enter Tryd.func14, Tryd.ntmps14
      go_wp2
      go_ret
      exact ⟨rfl, rfl⟩
  · have b0 : decide (0 ≤ i) = false := by simp [h0]
    have HE := Lib.hid (show fwdB U i = false by unfold fwdB; rw [b0]; rfl)
    rw [HE.out]
    clear h0
    go_enter Tryd.func14, Tryd.ntmps14
    go_wp2
    go_ret
    exact ⟨rfl, rfl⟩

theorem rpclass_is (t f k : Int) (A : Option Addr) (n c : Nat) (l : List UInt8) (hl : Hid (l.length = n)) (hc : n ≤ c) (hnc : Hid (A = none → c = 0)) (hn : n ≤ 10000) (h0 : 0 ≤ t) (h1 : t ≤ 18446744073709551615) (h2 : 0 ≤ k) (h5 : k < 65536) (w : World) (hd : Hd w) (hr : RB w A 0 w.heap.size l) :
    Calls Tryd.prog 10 #[.agg #[.int .u64 t, .int .u64 f, .int .u16 k, .slice A n c]] w fun e w' => e = .returned (.int .i64 (classR t k l)) ∧ Below w.heap.size w w' := by
  obtain ⟨wb, hwb, S⟩ := hs_one w 27 [.int .u64 t, .int .u64 f, .int .u16 k, .slice A n c]
  have HOP := Lib.hid (open_any t f k A n c l hl hc hnc hn h2 h5 wb (hd.below S.old (Nat.le_refl _)) ((hr.below S.old (Nat.le_refl _)).wide (Nat.le_refl _) S.old.size))
  have HRS := fun W => Lib.hid (reserved_any t h0 h1 W)
  go_enter Tryd.func10, Tryd.ntmps10
  go_upto_region 1 with fail
  clear hwb
  obtain ⟨X, hX⟩ : ∃ X, w.heap.size = X := ⟨_, rfl⟩
  rw [hX] at S ⊢
  clear hX
  have hx := S.bk 0 rfl
  go_wp2_with (with_reducible refine wpList_load_row rfl 27 (.tmp 1) rfl X (by kernel_rfl) _ _ (0, 0) _ hx Tryd.underlying27 rfl (by kernel_rfl) ?_)
  (with_reducible refine HOP.out.mono ?_); rintro e w1 (⟨ho, D, cap, rfl, -, b1⟩ | ⟨ho, rfl, b1⟩)
  · have S1 := S.below b1
    clear S hx HOP b1
    go_wp2
    go_ret
    exact ⟨ret_int (by unfold classR; rw [if_pos ho]), S1.old⟩
  · have S1 := S.below b1
    clear S hx HOP b1
    have c0 := S1.cell 0 0 rfl rfl
    by_cases ht : t / 16 = 103282638848
    · have hb : resB t = true := by unfold resB; simp [ht]
      have HE := Lib.hid (show (1 : Int) = classR t k l by unfold classR; rw [if_neg (by rw [ho]; decide), if_pos ht])
      rw [hb] at HRS
      clear ht ho hb
      go_wp2_with (go_at_call 18; (with_reducible refine (HRS _).out.mono ?_); rintro e w2 ⟨rfl, rfl⟩)
      go_ret
      exact ⟨ret_int HE.out, S1.old⟩
    · have hb : resB t = false := by unfold resB; simp [ht]
      have HE := Lib.hid (show (2 : Int) = classR t k l by unfold classR; rw [if_neg (by rw [ho]; decide), if_neg ht])
      rw [hb] at HRS
      clear ht ho hb
      go_wp2_with (go_at_call 18; (with_reducible refine (HRS _).out.mono ?_); rintro e w2 ⟨rfl, rfl⟩)
      go_ret
      exact ⟨ret_int HE.out, S1.old⟩

theorem rplearns_is (t f k st : Int) (A : Option Addr) (n c : Nat) (l : List UInt8) (hl : Hid (l.length = n)) (hc : n ≤ c) (hnc : Hid (A = none → c = 0)) (hn : n ≤ 10000) (h0 : 0 ≤ t) (h1 : t ≤ 18446744073709551615) (hf : 0 ≤ f ∧ f ≤ 18446744073709551615) (h2 : 0 ≤ k) (h5 : k < 65536) (w : World) (hd : Hd w) (hr : RB w A 0 w.heap.size l) :
    Calls Tryd.prog 12 #[.agg #[.int .u64 t, .int .u64 f, .int .u16 k, .slice A n c], .int .i64 st] w fun e w' => e = .returned (.bool (learnsR t f k st l)) ∧ Below w.heap.size w w' := by
  obtain ⟨cl, hcl⟩ : ∃ q, classR t k l = q := ⟨_, rfl⟩
  obtain ⟨wb, hwb, S⟩ := hs_one w 27 [.int .u64 t, .int .u64 f, .int .u16 k, .slice A n c]
  have HCL := Lib.hid (rpclass_is t f k A n c l hl hc hnc hn h0 h1 h2 h5 wb (hd.below S.old (Nat.le_refl _)) ((hr.below S.old (Nat.le_refl _)).wide (Nat.le_refl _) S.old.size))
  have HR := fun W => Lib.hid (right_any f hf.1 hf.2 W)
  obtain ⟨rb, hrb⟩ : ∃ q, rightB f = q := ⟨_, rfl⟩
  obtain ⟨lb, hlb⟩ : ∃ q, learnsB st = q := ⟨_, rfl⟩
  have HLB := fun W => Lib.hid (learns_is st lb (Lib.hid hlb) W)
  rw [hrb] at HR
  rw [hcl] at HCL
  have HE := Lib.hid (show learnsR t f k st l = (lb && rb && (cl == 2)) by unfold learnsR; rw [hcl, hrb, ← hlb]; unfold learnsB; rw [show (cl == 2) = decide (cl = 2) from Bool.eq_iff_iff.2 (by simp)]; cases decide (cl = 2) <;> cases rb <;> simp)
  rw [HE.out]
  clear hcl hrb hlb HE
  go_enter Tryd.func12, Tryd.ntmps12
  go_upto_region 1 with fail
  clear hwb
  obtain ⟨X, hX⟩ : ∃ X, w.heap.size = X := ⟨_, rfl⟩
  rw [hX] at S ⊢
  clear hX
  have hx := S.bk 0 rfl
  have c1 := S.cell 0 1 rfl rfl
  obtain ⟨q2, hq2⟩ : ∃ q, (cl == 2) = q := ⟨_, rfl⟩
  cases lb with
  | false =>
    go_wp2_with (go_at_call 20; (with_reducible refine (HLB _).out.mono ?_); rintro e w2 ⟨rfl, rfl⟩)
    go_ret
    exact ⟨rfl, S.old⟩
  | true =>
    cases rb with
    | false =>
      go_wp2_with (first
        | (go_at_call 20; (with_reducible refine (HLB _).out.mono ?_); rintro e w2 ⟨rfl, rfl⟩)
        | (go_at_call 21; (with_reducible refine (HR _).out.mono ?_); rintro e w2 ⟨rfl, rfl⟩))
      go_ret
      exact ⟨rfl, S.old⟩
    | true =>
      go_wp2_with (first
        | (go_at_call 20; (with_reducible refine (HLB _).out.mono ?_); rintro e w2 ⟨rfl, rfl⟩)
        | (go_at_call 21; (with_reducible refine (HR _).out.mono ?_); rintro e w2 ⟨rfl, rfl⟩)
        | (with_reducible refine wpList_load_rowG (by kernel_rfl) 27 (.tmp 2) rfl X (by kernel_rfl) _ _ (0, 0) _ hx Tryd.underlying27 rfl (by kernel_rfl) ?_))
      (with_reducible refine HCL.out.mono ?_); rintro e w1 ⟨rfl, b1⟩
      have S1 := S.below b1
      go_wp2
      go_ret
      exact ⟨ret_bool (by rw [hq2]; rfl), S1.old⟩

end Go.Proofs.YtbjcjeadnfckgaaDoor
