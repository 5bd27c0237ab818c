/- The law IdsParses, walked: it answers true, whatever the text. -/
import Derived.Test.YtddbmbnpjdpijaaIdsAwake
import Derived.Test.YtddbmbnpjdpijaaIdsMath
import Derived.Test.YtddbmbnpjdpijaaIdsRefText
namespace Go.Proofs.Ytddbmbnpjdpijaa
open Go.ChangeShapes Go.WideShapes Go.ChangeAt Go.RowKit
set_option linter.unusedVariables false

theorem ok_of_colon (s : ByteArray) (k : Nat) (h : k < s.size) (h3 : k % 3 = 2) (e : (s[k].toNat : Int) = 58) : okAt s.data.toList k :=
  (ok_colon s k h h3).2 (by simp [e])

theorem ok_of_digit (s : ByteArray) (k : Nat) (h : k < s.size) (h3 : ¬ k % 3 = 2) (e : (48 ≤ (s[k].toNat : Int) ∧ (s[k].toNat : Int) ≤ 57) ∨ (97 ≤ (s[k].toNat : Int) ∧ (s[k].toNat : Int) ≤ 102)) : okAt s.data.toList k :=
  (ok_digit s k h h3).2 (by unfold isx; simpa using e)

theorem parses_long (s : ByteArray) (h : 1000 < s.size) (hm : s.size ≤ 9223372036854775807) (w : World) :
    Calls Try.prog 4 #[.string s] w fun e w' => e = .returned (.bool true) ∧ Below w.heap.size w w' := by
  go_enter Try.func4, Try.ntmps4
  go_wp2_with fail
  (with_reducible refine (awake_any _).mono ?_); rintro e wa ⟨rfl, hba⟩
  go_wp2_with fail
  (with_reducible refine (awake_any _).mono ?_); rintro e wb ⟨rfl, hbb⟩
  go_wp2
  go_ret
  exact ⟨rfl, hba.trans (hbb.mono hba.size)⟩

theorem parses_len (s : ByteArray) (h : ¬ 1000 < s.size) (h17 : s.size ≠ 17) (w : World) :
    Calls Try.prog 4 #[.string s] w fun e w' => e = .returned (.bool true) ∧ Below w.heap.size w w' := by
  have h' : ((s.size : Int) != 17) = true := by simp; omega
  have h1 : s.size ≤ 1000 := by omega
  have H17 := Lib.hid h17
  clear h17
  go_enter Try.func4, Try.ntmps4
  go_wp2_with fail
  (with_reducible refine (awake_any _).mono ?_); rintro e wa ⟨rfl, hba⟩
  go_wp2_with fail
  (with_reducible refine (parse_len s H17.out (by omega) _).mono ?_); rintro e w' ⟨rfl, rfl⟩
  go_wp2
  go_ret
  exact ⟨rfl, hba⟩

theorem parses_good (s : ByteArray) (h17 : s.size = 17) (ok : AllOk s.data.toList 17) (w : World) :
    Calls Try.prog 4 #[.string s] w fun e w' => e = .returned (.bool true) ∧ Below w.heap.size w w' := by
  have h1 : s.size ≤ 17 := by omega
  have h2 : 17 ≤ s.size := by omega
  obtain ⟨p0, p1⟩ := pacc_lt s.data.toList 17 (by omega)
  have hp : decide (pacc s.data.toList 17 < 281474976710656) = true := by simpa using p1
  have ht := Lib.hid (txt_pacc s.data.toList (by simpa using h17) ok)
  have hg := Lib.hid (good_all ok)
  have H17 := Lib.hid h17
  clear h17 ok
  go_enter Try.func4, Try.ntmps4
  go_wp2_with fail
  (with_reducible refine (awake_any _).mono ?_); rintro e wa ⟨rfl, hba⟩
  go_wp2_with fail
  (with_reducible refine (parse_17 s H17.out _).mono ?_); rintro e w' ⟨he, rfl⟩
  rw [hg.out] at he
  subst he
  go_wp2_with fail
  (with_reducible refine (reftext_any _ p0 (by omega) _).mono ?_); rintro e wb ⟨rfl, hbb⟩
  rw [ht.out]
  go_wp2
  go_ret
  exact ⟨rfl, hba.trans (hbb.mono hba.size)⟩

set_option maxHeartbeats 1000000 in
theorem parses_bad (s : ByteArray) (h17 : s.size = 17) (bad : ¬ AllOk s.data.toList 17) (w : World) :
    Calls Try.prog 4 #[.string s] w fun e w' => e = .returned (.bool true) ∧ Below w.heap.size w w' := by
  have h1 : s.size ≤ 17 := by omega
  have h2 : 17 ≤ s.size := by omega
  have h' : ((s.size : Int) != 17) = false := by simp; omega
  have hb := Lib.hid bad
  have he0 : parseE s.data.toList = .returned (.tuple #[.int .u64 0, .int .i64 3]) := by unfold parseE; rw [if_neg bad]
  have hg := Lib.hid he0
  have H17 := Lib.hid h17
  clear h17 bad he0
  go_enter Try.func4, Try.ntmps4
  go_wp2_with fail
  (with_reducible refine (awake_any _).mono ?_); rintro e wa ⟨rfl, hba⟩
  go_wp2_with fail
  (with_reducible refine (parse_17 s H17.out _).mono ?_); rintro e w' ⟨he, rfl⟩
  rw [hg.out] at he
  subst he
  go_wp2
  clear h'
  go_loop [5] (fun i => ∃ k : Nat, k ≤ 17 ∧ i = .int .i64 k ∧ Hid (AllOk s.data.toList k)) (fun i => 17 - (intOf i).toNat)
  case atStart => exact ⟨0, Nat.zero_le _, rfl, fun j hj => absurd hj (Nat.not_lt_zero j)⟩
  case round =>
    obtain ⟨k, hk, rfl, hok⟩ := hrel
    by_cases hlt : k < 17
    · have hks : k < s.size := by omega
      by_cases h3 : k % 3 = 2
      · have hb3 : (((k : Int) % 3) == 2) = true := by simp; omega
        have hb4 : (((k : Int) % 3) != 2) = false := by simp; omega
        go_wp2
        all_goals first
          | (go_ret; exact ⟨rfl, hba⟩)
          | (have h58 : (s[k].toNat : Int) = 58 := by assumption
             go_round
             case rel => exact ⟨k + 1, by omega, by go_num, all_succ hok.out (ok_of_colon s k hks h3 h58)⟩
             case measure => simp [intOf]; omega)
      · have hb3 : (((k : Int) % 3) == 2) = false := by simp; omega
        have hb4 : (((k : Int) % 3) != 2) = true := by simp; omega
        go_wp2
        all_goals first
          | (go_ret; exact ⟨rfl, hba⟩)
          | (have hd : (48 ≤ (s[k].toNat : Int) ∧ (s[k].toNat : Int) ≤ 57) ∨ (97 ≤ (s[k].toNat : Int) ∧ (s[k].toNat : Int) ≤ 102) := by
               first
                 | omega
                 | (have hh : (!decide ((s[k].toNat : Int) ≤ 57)) = false ∨ (!decide ((s[k].toNat : Int) ≤ 102)) = false := by assumption
                    simp at hh; omega)
                 | (have hh : (!decide ((s[k].toNat : Int) ≤ 57)) = false := by assumption
                    simp at hh; omega)
             go_round
             case rel => exact ⟨k + 1, by omega, by go_num, all_succ hok.out (ok_of_digit s k hks h3 hd)⟩
             case measure => simp [intOf]; omega)
    · obtain rfl : k = 17 := by omega
      exact absurd hok.out hb.out

theorem IdsParses_walk (a0 : ByteArray) (w0 : a0.size ≤ maxLen) (w : World) :
    Calls Try.prog 4 #[.string a0] w fun e w' => e = .returned (.bool true) ∧ Below w.heap.size w w' := by
  unfold maxLen at w0
  by_cases h : 1000 < a0.size
  · exact parses_long a0 h w0 w
  · by_cases h17 : a0.size = 17
    · by_cases ok : AllOk a0.data.toList 17
      · exact parses_good a0 h17 ok w
      · exact parses_bad a0 h17 ok w
    · exact parses_len a0 h h17 w

end Go.Proofs.Ytddbmbnpjdpijaa
