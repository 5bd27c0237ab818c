/- The law SlotsAgain, walked. -/
import Derived.Test.YtlklklkjjmlgeaaSlotsAwake
import Derived.Test.YtlklklkjjmlgeaaNumsIn
import Derived.LoopTactic
namespace Go.Proofs.Ytlklklkjjmlgeaa
open Go.ChangeShapes Go.WideShapes Go.ChangeAt Go.RowKit
set_option linter.unusedVariables false

theorem lenI_z {w : World} {h g n : Nat} {c : List (Int × Int)} (t : HTI w h g n c) (z : Int) (hz : (c.length : Int) = z) :
    Calls Try.prog 17 #[.pointer (some ⟨h, 0, none⟩)] w fun e w' => e = .returned (.int .i64 z) ∧ Below w.heap.size w w' := by
  rw [← hz]; exact lenI_api t

theorem getC_putEnd {V : Type} (c : List (Int × V)) (u a : Int) (v : V) (b : Bool) (h : a ≠ u) : getC (putEnd c u v b) a = getC c a := by
  unfold putEnd
  split
  · rw [getC_put, if_neg h]
  · rfl

set_option maxRecDepth 100000 in
set_option maxHeartbeats 4000000 in
theorem SlotsAgain_walk (a0 : Option Addr) (len0 cap0 : Nat) (z0 : List Int) (a1 : Int) (a2 : Int) (a3 : Int) (w : World) (w0 : IsRow .u64 w a0 len0 cap0 z0) (w1 : (Lit.int .u64 a1).wf = true) (w2 : (Lit.int .i64 a2).wf = true) (w3 : (Lit.int .i64 a3).wf = true) :
    Calls Try.prog 7 #[.slice a0 len0 cap0, .int .u64 a1, .int .i64 a2, .int .i64 a3] w fun e w' => e = .returned (.bool true) ∧ Below w.heap.size w w' := by
  obtain ⟨p0, p1⟩ := bounds_u64 w1
  obtain ⟨U, hU, hm, hN⟩ := nums_in w0
  have q1 : a1 ≤ 18446744073709551615 := by omega
  have HU := Lib.hid hU
  have HN := Lib.hid hN
  clear w0 w1 w2 w3 hU hN
  by_cases hc : 400 < len0
  · go_enter Try.func7, Try.ntmps7
    go_wp2_with fail
    (with_reducible refine (awake_is _).mono ?_); rintro e w1 ⟨rfl, b1⟩
    go_wp2_with fail
    (with_reducible refine (awake_is _).mono ?_); rintro e w2 ⟨rfl, b2⟩
    go_wp2
    go_ret
    exact ⟨rfl, b1.trans (b2.mono b1.size)⟩
  · have hc' : len0 ≤ 400 := by omega
    go_enter Try.func7, Try.ntmps7
    go_wp2_with fail
    (with_reducible refine (awake_is _).mono ?_); rintro e w1 ⟨rfl, b1⟩
    go_wp2_with fail
    (with_reducible refine (newI_api 64 64 (by decide) _).mono ?_); rintro e w2 ⟨rfl, t2, b2⟩
    have hs1 := b1.size
    obtain ⟨G, hG⟩ : ∃ G, w1.heap.size = G := ⟨_, rfl⟩
    rw [hG] at t2 b2 hs1 ⊢
    have T2 := Lib.hid t2
    have B2 : Below w.heap.size w w2 := b1.trans (b2.mono hs1)
    clear t2 b2 hG b1
    go_wp2_with fail
    (with_reducible refine (putI_api T2.out a1 p0 q1 a2 true (by simp [inC]) ).mono ?_); rintro e w3 ⟨rfl, t3, b3⟩
    have T3 := Lib.hid t3
    have B3 := But.below B2 b3 B2.size hs1
    clear t3 b3 B2 T2
    go_wp2_with fail
    (with_reducible refine (putI_api T3.out a1 p0 q1 a3 true (by simp [inC, putEnd, putC]) ).mono ?_); rintro e w4 ⟨rfl, t4, b4⟩
    have T4 := Lib.hid t4
    have B4 := But.below B3 b4 B3.size hs1
    clear t4 b4 B3 T3
    go_wp2_with fail
    (with_reducible refine (lenI_z T4.out 1 (by simp [putEnd, putC, delC]) ).mono ?_); rintro e w5 ⟨rfl, b5⟩
    have T5 := Lib.hid (T4.out.below b5)
    have B5 : Below w.heap.size w w5 := B4.trans (b5.mono B4.size)
    clear b5 B4 T4
    go_wp2
    go_loopw [10] (fun i wr => ∃ (k : Nat) (c : List (Int × Int)), k ≤ len0 ∧ i = .int .i64 k ∧ Hid (HTI wr (G + 1) G 64 c) ∧ Hid (getC c a1 = some a3) ∧ Below w.heap.size w wr) (fun i _ => len0 - (intOf i).toNat)
    case atStart => exact ⟨0, _, Nat.zero_le _, rfl, T5, by rw [Hid]; simp [putEnd, putC, getC], B5⟩
    case round =>
      clear B5 T5
      obtain ⟨k, c, hk, rfl, T, HG, B⟩ := hrel
      have o5 : ofOI (some a3) = .int .i64 a3 := rfl
      by_cases hkn : k < len0
      · obtain ⟨u, hu⟩ := get_of_lt (l := U) (i := k) (by rw [HU.out]; exact hkn)
        obtain ⟨ad, rfl, hab, hcell, hu0, hu1⟩ := (HN.out.below B) k u hu
        clear hu
        have hki : (k : Int) < (len0 : Int) := by omega
        by_cases hua : u = a1
        · have g1 : (u == a1) = true := by simp [hua]
          clear hua
          go_wp2
          go_roundw
          case rel => exact ⟨k + 1, c, by omega, by go_num, T, HG, B⟩
          case measure => simp [intOf]; omega
        · have g1 : (u == a1) = false := by simp [hua]
          have hne : a1 ≠ u := fun e => hua e.symm
          have HNE := Lib.hid hne
          clear hua hne
          by_cases hk3 : (k : Int) % 3 = 2
          · have g2 : ((k : Int) % 3 == 2) = true := by simp [hk3]
            clear hk3
            go_wp2_with fail
            (with_reducible refine (dropI_api T.out u hu0 hu1 _ rfl).mono ?_); rintro e w6 ⟨rfl, t6, b6⟩
            have T6 := Lib.hid t6
            have B6 := But.below B b6 B.size hs1
            have G6 : Hid (getC (delC c u) a1 = some a3) := by rw [Hid, getC_del, if_neg HNE.out]; exact HG.out
            clear t6 b6 B
            go_wp2_with fail
            (with_reducible refine (getI_api T6.out a1 p0 q1 (some a3) G6.out).mono ?_); rintro e w7 ⟨rfl, b7⟩
            have T7 := Lib.hid (T6.out.below b7)
            have B7 : Below w.heap.size w w7 := B6.trans (b7.mono B6.size)
            clear b7 B6 T6
            go_wp2
            go_roundw
            case rel => exact ⟨k + 1, _, by omega, by go_num, T7, G6, B7⟩
            case measure => simp [intOf]; omega
          · have g2 : ((k : Int) % 3 == 2) = false := by simp [hk3]
            clear hk3
            go_wp2_with fail
            (with_reducible refine (putI_api T.out u hu0 hu1 k _ rfl).mono ?_); rintro e w6 ⟨rfl, t6, b6⟩
            have T6 := Lib.hid t6
            have B6 := But.below B b6 B.size hs1
            have G6 := Lib.hid ((getC_putEnd c u a1 (k : Int) (inC c u || decide (c.length < 64)) HNE.out).trans HG.out)
            clear t6 b6 B
            go_wp2_with fail
            (with_reducible refine (getI_api T6.out a1 p0 q1 (some a3) G6.out).mono ?_); rintro e w7 ⟨rfl, b7⟩
            have T7 := Lib.hid (T6.out.below b7)
            have B7 : Below w.heap.size w w7 := B6.trans (b7.mono B6.size)
            clear b7 B6 T6
            go_wp2
            go_roundw
            case rel => exact ⟨k + 1, _, by omega, by go_num, T7, G6, B7⟩
            case measure => simp [intOf]; omega
      · have hap := T.out.ap
        have hle := T.out.le
        have hin : inC c a1 = true := by rw [← getC_some, HG.out]; rfl
        have hl := del_len hap hin
        obtain ⟨m, hm2⟩ : ∃ m : Int, ((delC c a1).length : Int) = m := ⟨_, rfl⟩
        have hm3 : (c.length : Int) = m + 1 := by omega
        have hm0 : 0 ≤ m := by omega
        have hm1 : m ≤ 64 := by omega
        have hno : inC (delC c a1) a1 = false := by rw [inC_del]; simp
        have hm4 : ((delC (delC c a1) a1).length : Int) = m := by rw [delC_none hno]; exact hm2
        have H3 := Lib.hid hm3
        have H4 := Lib.hid hm4
        have HI := Lib.hid hin
        have HO := Lib.hid hno
        clear hap hle hin hl hm2 hm3 hm4 hno
        go_wp2_with fail
        (with_reducible refine (lenI_z T.out (m + 1) H3.out).mono ?_); rintro e w6 ⟨rfl, b6⟩
        have T6 := Lib.hid (T.out.below b6)
        have B6 : Below w.heap.size w w6 := B.trans (b6.mono B.size)
        clear b6 B T
        go_wp2_with fail
        (with_reducible refine (dropI_api T6.out a1 p0 q1 true HI.out).mono ?_); rintro e w7 ⟨rfl, t7, b7⟩
        have T7 := Lib.hid t7
        have B7 := But.below B6 b7 B6.size hs1
        clear b7 B6 T6 t7
        go_wp2_with fail
        (with_reducible refine (dropI_api T7.out a1 p0 q1 false HO.out).mono ?_); rintro e w8 ⟨rfl, t8, b8⟩
        have T8 := Lib.hid t8
        have B8 := But.below B7 b8 B7.size hs1
        clear b8 B7 T7 t8
        go_wp2_with fail
        (with_reducible refine (lenI_z T8.out m H4.out).mono ?_); rintro e w9 ⟨rfl, b9⟩
        have B9 : Below w.heap.size w w9 := B8.trans (b9.mono B8.size)
        clear b9 B8 T8
        go_wp2
        go_ret
        exact ⟨rfl, B9⟩

end Go.Proofs.Ytlklklkjjmlgeaa
