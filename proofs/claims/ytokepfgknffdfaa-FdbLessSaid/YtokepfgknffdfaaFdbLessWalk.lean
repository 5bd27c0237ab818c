/- The law FdbLess, walked. -/
import Derived.Test.YtokepfgknffdfaaFdbApi
import Derived.Test.YtokepfgknffdfaaFdbActsIn
import Derived.StillTailTactics
import Derived.LoopTactic
namespace Go.Proofs.Ytokepfgknffdfaa
open Go.ChangeShapes Go.WideShapes Go.ChangeAt Go.RowKit Go.Shelf
set_option linter.unusedVariables false

/-- An act's cells, as the walk spells them. -/
theorem act_cells {w : World} {a : Option Addr} {B : Nat} {L : List ActV} (h : ActsIn w a B L) {k : Nat} {x : ActV} (hx : L[k]? = some x) :
    ∃ ad, a = some ad ∧ ad.block < B ∧ (w.cell? (ad.add (k * 3)) = some (.int .u8 x.act) ∧ w.cell? ⟨(ad.add (k * 3)).block, (ad.add (k * 3)).off + 1, none⟩ = some (.int .u64 x.addr) ∧ w.cell? ⟨(ad.add (k * 3)).block, (ad.add (k * 3)).off + 2, none⟩ = some (.int .i64 x.num)) ∧
      (0 ≤ x.act ∧ x.act ≤ 255) ∧ (0 ≤ x.addr ∧ x.addr ≤ 18446744073709551615) ∧ -9223372036854775808 ≤ x.num ∧ x.num ≤ 9223372036854775807 := by
  obtain ⟨ad, h1, h2, h3, h4, h5, h6⟩ := h k x hx
  refine ⟨ad, h1, h2, ⟨h3, ?_, ?_⟩, h6⟩
  · have e := Go.Proofs.Ytokepfgknffdfaa.add_add ad (k * 3) 1
    rw [← e] at h4
    exact h4
  · have e := Go.Proofs.Ytokepfgknffdfaa.add_add ad (k * 3) 2
    rw [← e] at h5
    exact h5

theorem flush_twice (v : Int) (c : List (Int × (Int × Int))) : flushC v (flushC v c) = flushC v c := by
  unfold flushC
  rw [List.filterMap_filterMap]
  congr 1
  funext x
  unfold keepF flushN
  by_cases h : x.2.1 = v <;> simp [h]

theorem put_len_end {c : List (Int × (Int × Int))} (h : Ap c) (u : Int) (v : Int × Int) (b : Bool) : ((putEnd c u v b).length : Int) = if b = true ∧ inC c u = false then (c.length : Int) + 1 else (c.length : Int) := by
  unfold putEnd
  cases b with
  | false => simp
  | true =>
    rw [if_pos rfl, put_len h]
    cases inC c u <;> simp

set_option maxRecDepth 100000 in
set_option maxHeartbeats 8000000 in
theorem FdbLess_walk (a0 : Option Addr) (len0 cap0 : Nat) (L0 : List ActV) (w : World) (hL0 : L0.length = len0) (hm0 : len0 ≤ maxLen) (hA : ActsIn w a0 w.heap.size L0) :
    Calls Try.prog 7 #[.slice a0 len0 cap0] w fun e w' => e = .returned (.bool true) ∧ Below w.heap.size w w' := by
  have hm : len0 ≤ 9223372036854775807 := hm0
  have HU := Lib.hid hL0
  have HA := Lib.hid hA
  clear hL0 hm0 hA
  by_cases hc : 300 < len0
  · go_enter Try.func7, Try.ntmps7
    go_wp2_with fail
    (with_reducible refine (awake_is _).mono ?_); rintro e w1 ⟨rfl, b1⟩
    go_wp2_with fail
    (with_reducible refine (awake_is _).mono ?_); rintro e w2 ⟨rfl, b2⟩
    go_wp2
    go_ret
    exact ⟨rfl, b1.trans (b2.mono b1.size)⟩
  · have hc' : len0 ≤ 300 := by omega
    go_enter Try.func7, Try.ntmps7
    go_wp2_with fail
    (with_reducible refine (awake_is _).mono ?_); rintro e w1 ⟨rfl, b1⟩
    go_wp2_with fail
    (with_reducible refine (FS.new b1 16 16 (by decide)).mono ?_); rintro e w2 ⟨f, rfl, s2⟩
    have S2 := Lib.hid s2
    clear s2 b1
    go_wp2
    go_loopw [4] (fun i wr => ∃ (k : Nat) (c : List (Int × (Int × Int))), k ≤ len0 ∧ i = .int .i64 k ∧ Hid (FS w f 16 c wr)) (fun i _ => len0 - (intOf i).toNat)
    case atStart => exact ⟨0, [], Nat.zero_le _, rfl, S2⟩
    case round =>
      clear S2
      obtain ⟨k, c, hk, rfl, S⟩ := hrel
      obtain ⟨y, hy⟩ : ∃ y : Int, (c.length : Int) = y := ⟨_, rfl⟩
      have HY := Lib.hid hy
      have hle := S.out.le.1
      have hy0 : 0 ≤ y := by omega
      have hy1 : y ≤ 16 := by omega
      by_cases hkn : k < len0
      · obtain ⟨x, hx⟩ := get_of_lt (l := L0) (i := k) (by rw [HU.out]; exact hkn)
        obtain ⟨ad, rfl, hab, hcw, ⟨ho0, ho1⟩, ⟨hu0, hu1⟩, hv0, hv1⟩ := act_cells HA.out hx
        have hki : (k : Int) < (len0 : Int) := by omega
        clear hx
        obtain ⟨o, u, v⟩ := x
        dsimp only at hcw ho0 ho1 hu0 hu1 hv0 hv1
        have hadw : (ad.add (k * 3)).block < w.heap.size := by rw [Go.Proofs.Ytokepfgknffdfaa.add_block]; exact hab
        have K0 : Hid (∀ c W, FS w f 16 c W → W.cell? (ad.add (k * 3)) = some (.int .u8 o)) := fun _ _ h => (h.old.cell (p := ad.add (k * 3)) hadw).trans hcw.1
        have K1 : Hid (∀ c W, FS w f 16 c W → W.cell? ⟨(ad.add (k * 3)).block, (ad.add (k * 3)).off + 1, none⟩ = some (.int .u64 u)) := fun _ _ h => (h.old.cell (p := ⟨(ad.add (k * 3)).block, (ad.add (k * 3)).off + 1, none⟩) hadw).trans hcw.2.1
        have K2 : Hid (∀ c W, FS w f 16 c W → W.cell? ⟨(ad.add (k * 3)).block, (ad.add (k * 3)).off + 2, none⟩ = some (.int .i64 v)) := fun _ _ h => (h.old.cell (p := ⟨(ad.add (k * 3)).block, (ad.add (k * 3)).off + 2, none⟩) hadw).trans hcw.2.2
        obtain ⟨kn, hkn2⟩ : ∃ b, inC c u = b := ⟨_, rfl⟩
        obtain ⟨po, hpo⟩ : ∃ p, portO (getC c u) = p := ⟨_, rfl⟩
        have HKN := Lib.hid hkn2
        have HPO := Lib.hid hpo
        clear hcw hkn2 hpo hy hle
        go_wp2_with fail
        (with_reducible refine (S.out.len y HY).mono ?_); rintro e w5 ⟨rfl, s5⟩
        have c1 := K1.out _ _ s5
        have S5 := Lib.hid s5
        clear s5 S
        go_wp2_with fail
        (with_reducible refine (S5.out.look u hu0 hu1 po kn HPO HKN).mono ?_); rintro e w6 ⟨rfl, s6⟩
        have d0 := K0.out _ _ s6
        have d1 := K1.out _ _ s6
        have d2 := K2.out _ _ s6
        have S6 := Lib.hid s6
        clear s6 S5 c1
        by_cases e0 : o % 3 = 0
        · have g0 : (o % 3 == 0) = true := by simp [e0]
          obtain ⟨ok, hok⟩ : ∃ b, learnB c 16 u = b := ⟨_, rfl⟩
          have hz := put_len_end S6.out.ap u (v, 0) ok
          rw [HY.out, HKN.out] at hz
          have HOK := Lib.hid hok
          have HZ := Lib.hid hz
          clear e0 hok hz
          go_upto_region 13 with fail
          go_still_tail 11, (by kernel_rfl)
          change wpList _ _ _ _ _ w6.drew
          have Sd := Lib.hid S6.out.drew
          generalize w6.drew = w7 at Sd ⊢
          clear S6 d0 d1 d2
          go_wp2_with fail
          (with_reducible refine (Sd.out.learn u hu0 hu1 v ok HOK).mono ?_); rintro e w8 ⟨rfl, s8⟩
          have S8 := Lib.hid s8
          clear s8 Sd HOK
          have n1 : (y + 1 != y) = true := by simp; omega
          cases ok with
          | false =>
            have hz : ((putEnd c u (v, 0) false).length : Int) = y := by have := HZ.out; simpa using this
            have HZ2 := Lib.hid hz
            clear hz HZ
            go_wp2_with fail
            (with_reducible refine (S8.out.len y HZ2).mono ?_); rintro e w9 ⟨rfl, s9⟩
            have S9 := Lib.hid s9
            clear s9 S8
            go_wp2
            go_roundw
            case rel => exact ⟨k + 1, _, by omega, by go_num, S9⟩
            case measure => simp [intOf]; omega
          | true =>
            cases kn with
            | true =>
              have hz : ((putEnd c u (v, 0) true).length : Int) = y := by have := HZ.out; simpa using this
              have HZ2 := Lib.hid hz
              clear hz HZ
              go_wp2_with fail
              (with_reducible refine (S8.out.len y HZ2).mono ?_); rintro e w9 ⟨rfl, s9⟩
              have S9 := Lib.hid s9
              clear s9 S8
              go_wp2
              go_roundw
              case rel => exact ⟨k + 1, _, by omega, by go_num, S9⟩
              case measure => simp [intOf]; omega
            | false =>
              have hz : ((putEnd c u (v, 0) true).length : Int) = y + 1 := by have := HZ.out; simpa using this
              have HZ2 := Lib.hid hz
              clear hz HZ
              go_wp2_with fail
              (with_reducible refine (S8.out.len (y + 1) HZ2).mono ?_); rintro e w9 ⟨rfl, s9⟩
              have S9 := Lib.hid s9
              clear s9 S8
              go_wp2_with fail
              (with_reducible refine (S9.out.len (y + 1) HZ2).mono ?_); rintro e w10 ⟨rfl, s10⟩
              have S10 := Lib.hid s10
              clear s10 S9
              go_wp2
              go_roundw
              case rel => exact ⟨k + 1, _, by omega, by go_num, S10⟩
              case measure => simp [intOf]; omega
        · have g0 : (o % 3 == 0) = false := by simp [e0]
          by_cases e1 : o % 3 = 1
          · have g1 : (o % 3 == 1) = true := by simp [e1]
            obtain ⟨z, hz⟩ : ∃ z : Int, ((tickC v c).length : Int) = z := ⟨_, rfl⟩
            have hzy : (tickC v c).length ≤ c.length := List.length_filterMap_le _ _
            have hyy := HY.out
            have hz0 : 0 ≤ z := by omega
            have hz1 : z ≤ y := by omega
            have HD : Hid ((c.length : Int) - ((tickC v c).length : Nat) = y - z) := by rw [Hid, hz, hyy]
            have HZ := Lib.hid hz
            clear e0 e1 hz hzy hyy
            go_wp2_with fail
            (with_reducible refine (S6.out.tick v _ HD).mono ?_); rintro e w7 ⟨rfl, s7⟩
            have S7 := Lib.hid s7
            clear s7 S6 d0 d1 d2
            go_wp2_with fail
            (with_reducible refine (S7.out.len z HZ).mono ?_); rintro e w8 ⟨rfl, s8⟩
            have S8 := Lib.hid s8
            clear s8 S7
            go_wp2
            go_roundw
            case rel => exact ⟨k + 1, _, by omega, by go_num, S8⟩
            case measure => simp [intOf]; omega
          · have g1 : (o % 3 == 1) = false := by simp [e1]
            obtain ⟨z, hz⟩ : ∃ z : Int, ((flushC v c).length : Int) = z := ⟨_, rfl⟩
            have hzy : (flushC v c).length ≤ c.length := List.length_filterMap_le _ _
            have hyy := HY.out
            have hz0 : 0 ≤ z := by omega
            have hz1 : z ≤ y := by omega
            have HD : Hid ((c.length : Int) - ((flushC v c).length : Nat) = y - z) := by rw [Hid, hz, hyy]
            have HD2 : Hid (((flushC v c).length : Int) - ((flushC v (flushC v c)).length : Nat) = 0) := by rw [Hid, flush_twice]; omega
            have HZ := Lib.hid hz
            clear e0 e1 hz hzy hyy
            go_wp2_with fail
            (with_reducible refine (S6.out.flush v _ HD).mono ?_); rintro e w7 ⟨rfl, s7⟩
            have S7 := Lib.hid s7
            clear s7 S6 d0 d1 d2
            go_wp2_with fail
            (with_reducible refine (S7.out.len z HZ).mono ?_); rintro e w8 ⟨rfl, s8⟩
            have f2 := K2.out _ _ s8
            have S8 := Lib.hid s8
            clear s8 S7
            go_wp2_with fail
            (with_reducible refine (S8.out.flush v _ HD2).mono ?_); rintro e w9 ⟨rfl, s9⟩
            have S9 := Lib.hid s9
            clear s9 S8 f2
            go_wp2
            go_roundw
            case rel => exact ⟨k + 1, _, by omega, by go_num, S9⟩
            case measure => simp [intOf]; omega
      · clear hy hle
        go_wp2_with fail
        (with_reducible refine (S.out.len y HY).mono ?_); rintro e w5 ⟨rfl, s5⟩
        have B5 := s5.old
        clear s5 S
        go_wp2
        go_ret
        exact ⟨rfl, B5⟩

end Go.Proofs.Ytokepfgknffdfaa
