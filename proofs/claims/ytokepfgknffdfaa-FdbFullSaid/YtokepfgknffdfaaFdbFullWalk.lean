/- The law FdbFull, walked. -/
import Derived.Test.YtokepfgknffdfaaFdbApi
import Derived.Test.YtokepfgknffdfaaNumsIn
import Derived.LoopTactic
namespace Go.Proofs.Ytokepfgknffdfaa
open Go.ChangeShapes Go.WideShapes Go.ChangeAt Go.RowKit Go.Shelf
set_option linter.unusedVariables false

/-- All that is held was heard behind one port. -/
def AllP (port : Int) (c : List (Int × (Int × Int))) : Prop := ∀ x ∈ c, x.2.1 = port

theorem allP_put {c : List (Int × (Int × Int))} {port : Int} (h : AllP port c) (u : Int) (b : Bool) : AllP port (putEnd c u (port, 0) b) := by
  unfold putEnd
  split
  · intro p hp
    unfold putC at hp
    rcases List.mem_cons.1 hp with e | e
    · rw [e]
    · exact h p (List.mem_filter.1 e).1
  · exact h

theorem allP_get {c : List (Int × (Int × Int))} {port : Int} (h : AllP port c) (hap : Ap c) {u : Int} (hi : inC c u = true) : portO (getC c u) = port := by
  obtain ⟨v, hv⟩ := inC_iff.1 hi
  rw [getC_mem hap hv]
  exact h _ hv

theorem allP_flush {c : List (Int × (Int × Int))} {port : Int} (h : AllP port c) : flushC port c = [] := by
  unfold flushC
  rw [List.filterMap_eq_nil_iff]
  intro x hx
  have e : flushN port x.2 = (x.2, false) := by unfold flushN; rw [h x hx]; simp
  exact keep_none e

theorem put_in (c : List (Int × (Int × Int))) (u : Int) (v : Int × Int) (b : Bool) : inC (putEnd c u v b) u = (b || inC c u) := by
  unfold putEnd
  cases b
  · rfl
  · rw [if_pos rfl, inC_put]; simp

set_option maxRecDepth 100000 in
set_option maxHeartbeats 8000000 in
theorem FdbFull_walk (a0 : Int) (a1 : Option Addr) (len1 cap1 : Nat) (z1 : List Int) (a2 : Int) (w : World) (w0 : (Lit.int .u8 a0).wf = true) (w1 : IsRow .u64 w a1 len1 cap1 z1) (w2 : (Lit.int .i64 a2).wf = true) :
    Calls Try.prog 4 #[.int .u8 a0, .slice a1 len1 cap1, .int .i64 a2] w fun e w' => e = .returned (.bool true) ∧ Below w.heap.size w w' := by
  obtain ⟨p0, p1⟩ := bounds_u8 w0
  obtain ⟨U, hU, hm, hN⟩ := nums_in w1
  have HU := Lib.hid hU
  have HN := Lib.hid hN
  clear w0 w1 w2 hU hN
  by_cases hc : 300 < len1
  · go_enter Try.func4, Try.ntmps4
    go_wp2_with fail
    (with_reducible refine (awake_is _).mono ?_); rintro e w1 ⟨rfl, b1⟩
    go_wp2_with fail
    (with_reducible refine (awake_is _).mono ?_); rintro e w2 ⟨rfl, b2⟩
    go_wp2
    go_ret
    exact ⟨rfl, b1.trans (b2.mono b1.size)⟩
  · have hc' : len1 ≤ 300 := by omega
    obtain ⟨n, hn⟩ : ∃ n : Nat, a0 % 65 = (n : Int) := ⟨(a0 % 65).toNat, by omega⟩
    have hn64 : n ≤ 64 := by omega
    have hmin : min (max (a0 % 65) 0) 64 = (n : Int) := by rw [hn]; omega
    have HNN := Lib.hid hn
    have HMIN := Lib.hid hmin
    clear hn hmin
    go_enter Try.func4, Try.ntmps4
    go_wp2_with fail
    (with_reducible refine (awake_is _).mono ?_); rintro e w1 ⟨rfl, b1⟩
    go_wp2_with fail
    (with_reducible refine (FS.new b1 (a0 % 65) n HMIN.out).mono ?_); rintro e w2 ⟨f, rfl, s2⟩
    have S2 := Lib.hid s2
    clear s2 b1
    go_wp2
    go_loopw [9] (fun i wr => ∃ (k : Nat) (c : List (Int × (Int × Int))), k ≤ len1 ∧ i = .int .i64 k ∧ Hid (FS w f n c wr) ∧ Hid (AllP a2 c)) (fun i _ => len1 - (intOf i).toNat)
    case atStart => exact ⟨0, [], Nat.zero_le _, rfl, S2, fun x h => by cases h⟩
    case round =>
      clear S2
      obtain ⟨k, c, hk, rfl, S, P⟩ := hrel
      by_cases hkn : k < len1
      · obtain ⟨u, hu⟩ := get_of_lt (l := U) (i := k) (by rw [HU.out]; exact hkn)
        obtain ⟨ad, rfl, hab, hcell0, hu0, hu1⟩ := HN.out k u hu
        have hcell := (S.out.old.cell (p := ad.add k) (by rw [add_block]; exact hab)).trans hcell0
        have HC0 := Lib.hid hcell0
        clear hu hcell0
        have hki : (k : Int) < (len1 : Int) := by omega
        have hle := S.out.le.1
        have hnn := HNN.out
        obtain ⟨was, hwas⟩ : ∃ b, inC c u = b := ⟨_, rfl⟩
        obtain ⟨r, hr⟩ : ∃ b, rightB u = b := ⟨_, rfl⟩
        obtain ⟨po, hpo⟩ : ∃ p, portO (getC c u) = p := ⟨_, rfl⟩
        obtain ⟨y, hy⟩ : ∃ y : Int, (c.length : Int) = y := ⟨_, rfl⟩
        obtain ⟨fu, hfu⟩ : ∃ b, decide (a0 % 65 ≤ y) = b := ⟨_, rfl⟩
        have hok : learnB c n u = (r && (was || !fu)) := by
          unfold learnB
          rw [hr, hwas]
          congr 2
          rw [← hfu, Bool.eq_iff_iff]
          simp
          omega
        obtain ⟨z, hz⟩ : ∃ z : Int, ((putEnd c u (a2, 0) (r && (was || !fu))).length : Int) = z := ⟨_, rfl⟩
        have his : inC (putEnd c u (a2, 0) (r && (was || !fu))) u = ((r && (was || !fu)) || was) := by rw [put_in, hwas]
        have hPP := allP_put P.out u (r && (was || !fu))
        have HR := fun W => Lib.hid (refright_any u hu0 hu1 W)
        rw [hr] at HR
        have HWAS := Lib.hid hwas
        have HPO := Lib.hid hpo
        have HY := Lib.hid hy
        have HFU := Lib.hid hfu
        have HOK := Lib.hid hok
        have HZ := Lib.hid hz
        have HIS := Lib.hid his
        have HPP := Lib.hid hPP
        clear hwas hr hpo hy hfu hok hz his hPP hle hnn
        go_wp2_with fail
        (with_reducible refine (S.out.look u hu0 hu1 po was HPO HWAS).mono ?_); rintro e w5 ⟨rfl, s5⟩
        have S5 := Lib.hid s5
        clear s5 hcell S
        go_wp2_with fail
        (with_reducible refine (S5.out.len y HY).mono ?_); rintro e w6 ⟨rfl, s6⟩
        have hcell6 := (s6.old.cell (p := ad.add k) (by rw [add_block]; exact hab)).trans HC0.out
        have S6 := Lib.hid s6
        have hfu' := HFU.out
        clear s6 S5
        go_wp2_with fail
        (with_reducible refine (S6.out.learn u hu0 hu1 a2 _ HOK).mono ?_); rintro e w7 ⟨rfl, s7⟩
        have hcell7 := (s7.old.cell (p := ad.add k) (by rw [add_block]; exact hab)).trans HC0.out
        have hz1 : z ≤ a0 % 65 := by have := s7.le.1; have := HZ.out; have := HNN.out; omega
        have S7 := Lib.hid s7
        clear s7 S6 hcell6
        go_wp2_with fail
        (with_reducible refine (HR _).out.mono ?_); rintro e w8 ⟨rfl, rfl⟩
        obtain ⟨po2, hpo2⟩ : ∃ p, portO (getC (putEnd c u (a2, 0) (r && (was || !fu))) u) = p := ⟨_, rfl⟩
        have hpp : ((r && (was || !fu)) || was) = true → po2 = a2 := fun e => by
          rw [← hpo2]
          exact allP_get HPP.out S7.out.ap (HIS.out.trans e)
        have HPO2 := Lib.hid hpo2
        clear hpo2 HWAS HPO HR HOK
        cases r <;> cases was <;> cases fu
        all_goals
          first | (have hp2 := hpp rfl; clear hpp; subst hp2) | clear hpp
          go_wp2_with fail
          (with_reducible refine (S7.out.len z HZ).mono ?_); rintro e w9 ⟨rfl, s9⟩
          have hcell9 := (s9.old.cell (p := ad.add k) (by rw [add_block]; exact hab)).trans HC0.out
          have S9 := Lib.hid s9
          clear s9 S7 hcell7
          go_wp2_with fail
          (with_reducible refine (S9.out.look u hu0 hu1 _ _ HPO2 HIS).mono ?_); rintro e w10 ⟨rfl, s10⟩
          have S10 := Lib.hid s10
          clear s10 S9 hcell9
          go_wp2
          go_roundw
          case rel => exact ⟨k + 1, _, by omega, by go_num, S10, HPP⟩
          case measure => simp [intOf]; omega
      · have hfl := allP_flush P.out
        obtain ⟨y, hy⟩ : ∃ y : Int, (c.length : Int) = y := ⟨_, rfl⟩
        have hle := S.out.le.1
        have hnn := HNN.out
        have hy1 : y ≤ a0 % 65 := by omega
        have HFL : Hid ((c.length : Int) - ((flushC a2 c).length : Nat) = y) := by rw [Hid, hfl, ← hy]; simp
        have HF := Lib.hid hfl
        clear hle hnn hfl hy
        go_wp2_with fail
        (with_reducible refine (S.out.flush a2 y HFL).mono ?_); rintro e w5 ⟨rfl, s5⟩
        rw [HF.out] at s5
        have S5 := Lib.hid s5
        clear s5 S
        go_wp2_with fail
        (with_reducible refine (S5.out.len 0 (Lib.hid rfl)).mono ?_); rintro e w6 ⟨rfl, s6⟩
        have B6 := s6.old
        clear s6 S5
        go_wp2
        go_ret
        exact ⟨rfl, B6⟩

end Go.Proofs.Ytokepfgknffdfaa
