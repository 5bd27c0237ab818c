/- The law FdbAges, walked. -/
import Derived.Test.YtokepfgknffdfaaFdbApi
namespace Go.Proofs.Ytokepfgknffdfaa
open Go.ChangeShapes Go.WideShapes Go.ChangeAt Go.RowKit Go.Shelf
set_option linter.unusedVariables false

/-- What the table holds behind i rounds. -/
def agesC (a b k : Int) (i : Nat) : List (Int × (Int × Int)) := (if 0 < i ∧ 1 < k then [(b, (2, 1))] else []) ++ (if (i : Int) < k then [(a, (1, (i : Int)))] else [])

theorem ages_put (a b k : Int) (i : Nat) (h : a ≠ b) : putEnd (agesC a b k i) b (2, 0) true = (b, (2, 0)) :: (if (i : Int) < k then [(a, (1, (i : Int)))] else []) := by
  unfold putEnd putC agesC delC
  rw [if_pos rfl, List.filter_append]
  congr 1
  split <;> split <;> simp [h]

theorem ages_tick (a b k : Int) (i : Nat) (hi : i ≤ 300) : tickC k ((b, (2, 0)) :: (if (i : Int) < k then [(a, (1, (i : Int)))] else [])) = agesC a b k (i + 1) := by
  have e0 : olderA 0 = 1 := by decide
  have e1 : olderA (i : Int) = (i : Int) + 1 := by unfold olderA; omega
  have hc : ((i + 1 : Nat) : Int) = (i : Int) + 1 := by omega
  have tB : ([(b, (2, 0))] : List (Int × (Int × Int))).filterMap (keepF (tickN k)) = if 0 < i + 1 ∧ 1 < k then [(b, (2, 1))] else [] := by
    by_cases h1 : 1 < k
    · have k1 : keepF (tickN k) (b, (2, 0)) = some (b, (2, 1)) := by unfold keepF tickN; simp [e0, h1]
      rw [List.filterMap_cons, k1, if_pos ⟨Nat.succ_pos i, h1⟩]; rfl
    · have k1 : keepF (tickN k) (b, (2, 0)) = none := by unfold keepF tickN; simp [e0, h1]
      rw [List.filterMap_cons, k1, if_neg (fun e => h1 e.2)]; rfl
  have tA : (if (i : Int) < k then [(a, (1, (i : Int)))] else ([] : List (Int × (Int × Int)))).filterMap (keepF (tickN k)) = if ((i + 1 : Nat) : Int) < k then [(a, (1, ((i + 1 : Nat) : Int)))] else [] := by
    by_cases h2 : (i : Int) < k
    · rw [if_pos h2]
      by_cases h3 : (i : Int) + 1 < k
      · have k2 : keepF (tickN k) (a, (1, (i : Int))) = some (a, (1, (i : Int) + 1)) := by unfold keepF tickN; simp [e1, h3]
        rw [List.filterMap_cons, k2, hc, if_pos h3]; rfl
      · have k2 : keepF (tickN k) (a, (1, (i : Int))) = none := by unfold keepF tickN; simp [e1, h3]
        rw [List.filterMap_cons, k2, hc, if_neg h3]; rfl
    · rw [if_neg h2, if_neg (by omega)]; rfl
  unfold tickC agesC
  rw [← List.singleton_append, List.filterMap_append, tB, tA]

theorem ages_len (a b k : Int) (i : Nat) : (agesC a b k i).length ≤ 2 := by
  unfold agesC
  split <;> split <;> simp

theorem ages_in_a (a b k : Int) (i : Nat) (h : a ≠ b) : inC (agesC a b k i) a = decide ((i : Int) < k) := by
  have h' : b ≠ a := fun e => h e.symm
  unfold agesC inC
  by_cases h2 : (i : Int) < k
  · simp [h2]
  · rw [if_neg h2, List.append_nil, decide_eq_false h2]
    split <;> simp [h']

theorem ages_in_b (a b k : Int) (i : Nat) (h : a ≠ b) : inC (agesC a b k i) b = (decide (0 < i) && decide (1 < k)) := by
  unfold agesC inC
  by_cases h1 : 0 < i <;> by_cases h2 : 1 < k <;> by_cases h3 : (i : Int) < k <;> simp [h1, h2, h3, h]

theorem and_tt {p q : Prop} [Decidable p] [Decidable q] (h : p) (g : q) : (decide p && decide q) = true := by rw [decide_eq_true h, decide_eq_true g]; rfl
theorem and_f1 {p q : Prop} [Decidable p] [Decidable q] (h : ¬ p) : (decide p && decide q) = false := by rw [decide_eq_false h]; rfl
theorem and_f2 {p q : Prop} [Decidable p] [Decidable q] (g : ¬ q) : (decide p && decide q) = false := by rw [decide_eq_false g, Bool.and_false]

/-- What a law leaves that made a table. -/
def AgesI (w : World) (f : Nat) (a b k : Int) (i : Nat) (W : World) : Prop := FS w f 8 (agesC a b k i) W

set_option maxRecDepth 100000 in
set_option maxHeartbeats 8000000 in
theorem FdbAges_walk (a0 : Int) (a1 : Int) (a2 : Int) (a3 : Int) (w0 : (Lit.int .u64 a0).wf = true) (w1 : (Lit.int .u64 a1).wf = true) (w2 : (Lit.int .u8 a2).wf = true) (w3 : (Lit.int .u8 a3).wf = true) (w : World) :
    Calls Try.prog 5 #[.int .u64 a0, .int .u64 a1, .int .u8 a2, .int .u8 a3] w fun e w' => e = .returned (.bool true) ∧ Below w.heap.size w w' := by
  obtain ⟨p0, p1⟩ := bounds_u64 w0
  obtain ⟨q0, q1⟩ := bounds_u64 w1
  obtain ⟨l0, l1⟩ := bounds_u8 w2
  obtain ⟨n0, n1⟩ := bounds_u8 w3
  have p1' : a0 ≤ 18446744073709551615 := by omega
  have q1' : a1 ≤ 18446744073709551615 := by omega
  clear w0 w1 w2 w3 p1 q1
  have HR0 := fun W => Lib.hid (refright_any a0 p0 p1' W)
  have HR1 := fun W => Lib.hid (refright_any a1 q0 q1' W)
  by_cases hgo : rightB a0 = true ∧ rightB a1 = true ∧ a0 ≠ a1
  · obtain ⟨r0, r1, hne⟩ := hgo
    have g1 : (a0 == a1) = false := by simp [hne]
    have HNE := Lib.hid hne
    have HLA : Hid (learnB [] 8 a0 = true) := by rw [Hid]; unfold learnB; rw [r0]; rfl
    have HLB : Hid (∀ i, learnB (agesC a0 a1 (1 + a2) i) 8 a1 = true) := by
      rw [Hid]; intro i
      have := ages_len a0 a1 (1 + a2) i
      unfold learnB; rw [r1, decide_eq_true (by omega : (agesC a0 a1 (1 + a2) i).length < 8)]; simp
    have HA0 : Hid (putEnd [] a0 (1, 0) true = agesC a0 a1 (1 + a2) 0) := by
      rw [Hid]; unfold agesC; rw [if_neg (by omega), if_pos (by omega)]; rfl
    rw [r0] at HR0
    rw [r1] at HR1
    clear hne r0 r1
    go_enter Try.func5, Try.ntmps5
    go_wp2_with fail
    (with_reducible refine (awake_is _).mono ?_); rintro e w1 ⟨rfl, b1⟩
    go_wp2_with fail
    (with_reducible refine (HR0 _).out.mono ?_); rintro e w2 ⟨rfl, rfl⟩
    go_wp2_with fail
    (with_reducible refine (HR1 _).out.mono ?_); rintro e w2 ⟨rfl, rfl⟩
    go_wp2_with fail
    (with_reducible refine (FS.new b1 8 8 (by decide)).mono ?_); rintro e w2 ⟨f, rfl, s2⟩
    have S2 := Lib.hid s2
    clear s2
    go_wp2_with fail
    (with_reducible refine (S2.out.learn a0 p0 p1' 1 true HLA).mono ?_); rintro e w3 ⟨rfl, s3⟩
    rw [HA0.out] at s3
    have S3 : Hid (AgesI w f a0 a1 (1 + a2) 0 w3) := s3
    clear s3 HA0 HLA S2 b1
    go_wp2
    go_loopw [11] (fun i wr => ∃ k : Nat, (k : Int) ≤ a3 ∧ i = .int .i64 k ∧ Hid (AgesI w f a0 a1 (1 + a2) k wr)) (fun i _ => a3.toNat - (intOf i).toNat)
    case atStart => exact ⟨0, by omega, rfl, S3⟩
    case round =>
      clear S3
      obtain ⟨k, hk, rfl, S⟩ := hrel
      have ST : Hid (FS w f 8 (agesC a0 a1 (1 + a2) k) _) := S.out
      clear S
      by_cases hkn : (k : Int) < a3
      · have hk3 : k ≤ 300 := by omega
        go_wp2_with fail
        (with_reducible refine (ST.out.learn a1 q0 q1' 2 true (Lib.hid (HLB.out k))).mono ?_); rintro e w5 ⟨rfl, s5⟩
        rw [ages_put a0 a1 (1 + a2) k HNE.out] at s5
        have S5 := Lib.hid s5
        clear s5
        go_wp2_with fail
        (with_reducible refine (S5.out.tick (1 + a2) _ (Lib.hid rfl)).mono ?_); rintro e w6 ⟨rfl, s6⟩
        rw [ages_tick a0 a1 (1 + a2) k hk3] at s6
        have S6 : Hid (AgesI w f a0 a1 (1 + a2) (k + 1) w6) := s6
        clear s6 S5
        go_wp2
        go_roundw
        case rel => exact ⟨k + 1, by omega, by go_num, S6⟩
        case measure => simp [intOf]; omega
      · have hk3 : (k : Int) = a3 := by omega
        obtain ⟨x, hx⟩ : ∃ x, portO (getC (agesC a0 a1 (1 + a2) k) a0) = x := ⟨_, rfl⟩
        obtain ⟨y, hy⟩ : ∃ y, portO (getC (agesC a0 a1 (1 + a2) k) a1) = y := ⟨_, rfl⟩
        have hia := ages_in_a a0 a1 (1 + a2) k HNE.out
        have hib := ages_in_b a0 a1 (1 + a2) k HNE.out
        have h0k : decide (0 < k) = decide (0 < a3) := by rw [Bool.eq_iff_iff]; simp; omega
        rw [hk3] at hia
        rw [h0k] at hib
        obtain ⟨oA, hoA⟩ : ∃ o, decide (a3 < 1 + a2) = o := ⟨_, rfl⟩
        obtain ⟨oB, hoB⟩ : ∃ o, (decide (0 < a3) && decide (1 < 1 + a2)) = o := ⟨_, rfl⟩
        rw [hoA] at hia
        rw [hoB] at hib
        have HIA := Lib.hid hia
        have HIB := Lib.hid hib
        have HX := Lib.hid hx
        have HY := Lib.hid hy
        have HOA := Lib.hid hoA
        have HOB := Lib.hid hoB
        have hkn' : ¬ (a3 : Int) < a3 := by omega
        clear hx hy hk hkn hia hib hoA hoB h0k
        subst hk3
        go_wp2_with fail
        (with_reducible refine (ST.out.look a0 p0 p1' x oA HX HIA).mono ?_); rintro e w5 ⟨rfl, s5⟩
        have S5 := Lib.hid s5
        clear s5
        go_wp2_with fail
        (with_reducible refine (S5.out.look a1 q0 q1' y oB HY HIB).mono ?_); rintro e w6 ⟨rfl, s6⟩
        have B6 := s6.old
        clear s6
        by_cases c1 : (k : Int) < 1 + a2 <;> by_cases c2 : 0 < (k : Int) <;> by_cases c3 : 1 < 1 + a2
        all_goals
          have hoA := HOA.out.symm.trans (by first | exact decide_eq_true c1 | exact decide_eq_false c1)
          have hoB := HOB.out.symm.trans (by first | exact and_tt c2 c3 | exact and_f1 c2 | exact and_f2 c3)
          subst hoA hoB
          have c4 : (0 < a2) ∨ ¬ (0 < a2) := by omega
          clear HOA HOB HIA HIB
          go_wp2
          all_goals go_ret
          all_goals exact ⟨ret_bool (by first | rfl | (simp [c1]; done) | (simp [c1]; omega)), B6⟩
  · cases hr0 : rightB a0 with
    | false =>
      rw [hr0] at HR0
      clear hr0 hgo
      go_enter Try.func5, Try.ntmps5
      go_wp2_with fail
      (with_reducible refine (awake_is _).mono ?_); rintro e w1 ⟨rfl, b1⟩
      go_wp2_with fail
      (with_reducible refine (HR0 _).out.mono ?_); rintro e w2 ⟨rfl, rfl⟩
      go_wp2_with fail
      (with_reducible refine (awake_is _).mono ?_); rintro e w2 ⟨rfl, b2⟩
      go_wp2
      go_ret
      exact ⟨rfl, b1.trans (b2.mono b1.size)⟩
    | true =>
      rw [hr0] at HR0 hgo
      cases hr1 : rightB a1 with
      | false =>
        rw [hr1] at HR1
        clear hr0 hr1 hgo
        go_enter Try.func5, Try.ntmps5
        go_wp2_with fail
        (with_reducible refine (awake_is _).mono ?_); rintro e w1 ⟨rfl, b1⟩
        go_wp2_with fail
        (with_reducible refine (HR0 _).out.mono ?_); rintro e w2 ⟨rfl, rfl⟩
        go_wp2_with fail
        (with_reducible refine (HR1 _).out.mono ?_); rintro e w2 ⟨rfl, rfl⟩
        go_wp2_with fail
        (with_reducible refine (awake_is _).mono ?_); rintro e w2 ⟨rfl, b2⟩
        go_wp2
        go_ret
        exact ⟨rfl, b1.trans (b2.mono b1.size)⟩
      | true =>
        rw [hr1] at HR1 hgo
        have he : a0 = a1 := by
          by_cases e : a0 = a1
          · exact e
          · exact (hgo ⟨rfl, rfl, e⟩).elim
        subst he
        have g1 : (a0 == a0) = true := by simp
        clear hr0 hr1 hgo
        go_enter Try.func5, Try.ntmps5
        go_wp2_with fail
        (with_reducible refine (awake_is _).mono ?_); rintro e w1 ⟨rfl, b1⟩
        go_wp2_with fail
        (with_reducible refine (HR0 _).out.mono ?_); rintro e w2 ⟨rfl, rfl⟩
        go_wp2_with fail
        (with_reducible refine (HR1 _).out.mono ?_); rintro e w2 ⟨rfl, rfl⟩
        go_wp2_with fail
        (with_reducible refine (awake_is _).mono ?_); rintro e w2 ⟨rfl, b2⟩
        go_wp2
        go_ret
        exact ⟨rfl, b1.trans (b2.mono b1.size)⟩

end Go.Proofs.Ytokepfgknffdfaa
