/- What is read of a text: ids.Parse, for every string. -/
import Derived.Test.YtddbmbnpjdpijaaIdsBase
namespace Go.Proofs.Ytddbmbnpjdpijaa
open Go.ChangeShapes Go.WideShapes Go.ChangeAt Go.RowKit
set_option linter.unusedVariables false

def isx (c : Int) : Bool := decide ((48 ≤ c ∧ c ≤ 57) ∨ (97 ≤ c ∧ c ≤ 102))
def dv (c : Int) : Int := if 48 ≤ c ∧ c ≤ 57 then c - 48 else if 97 ≤ c ∧ c ≤ 102 then c - 87 else 0

theorem dv_bd (c : Int) : 0 ≤ dv c ∧ dv c ≤ 15 := by unfold dv; split <;> (try split) <;> omega


theorem colon_any (i : Int) (h0 : 0 ≤ i) (h1 : i ≤ 17) (w : World) :
    Calls Try.prog 23 #[.int .i64 i] w fun e w' => e = .returned (.bool (i % 3 == 2)) ∧ w = w' := by
  go_enter Try.func23, Try.ntmps23
  go_wp2
  go_ret
  exact ⟨rfl, rfl⟩

theorem digit_any (c : Int) (h0 : 0 ≤ c) (h1 : c ≤ 255) (w : World) :
    Calls Try.prog 24 #[.int .u8 c] w fun e w' => e = .returned (.tuple #[.int .u64 (dv c), .bool (isx c)]) ∧ w = w' := by
  go_enter Try.func24, Try.ntmps24
  go_wp2
  all_goals go_ret2
  all_goals refine ⟨ret_ib ?_ ?_, rfl⟩
  all_goals first | (unfold dv; (repeat' split) <;> omega) | (unfold isx; rw [Bool.eq_iff_iff]; simp <;> omega)

/-- What stands at place j is what should stand there. -/
def okAt (l : List UInt8) (j : Nat) : Prop := if j % 3 = 2 then (l.getD j 0).toNat = 58 else isx ((l.getD j 0).toNat : Int) = true
/-- What the digits ahead of place k count. -/
def pacc (l : List UInt8) : Nat → Int
  | 0 => 0
  | k + 1 => if k % 3 = 2 then pacc l k else pacc l k * 16 + dv ((l.getD k 0).toNat : Int)
def AllOk (l : List UInt8) (k : Nat) : Prop := ∀ j, j < k → okAt l j
instance (l : List UInt8) (j : Nat) : Decidable (okAt l j) := by unfold okAt; infer_instance
instance (l : List UInt8) (k : Nat) : Decidable (AllOk l k) := by unfold AllOk; infer_instance

theorem pacc_bd (l : List UInt8) (k : Nat) : 0 ≤ pacc l k ∧ pacc l k < 16 ^ (k - k / 3) := by
  induction k with
  | zero => simp [pacc]
  | succ k ih =>
    have hd := dv_bd ((l.getD k 0).toNat : Int)
    unfold pacc
    split
    · rename_i h
      have e : k + 1 - (k + 1) / 3 = k - k / 3 := by omega
      rw [e]; exact ih
    · rename_i h
      have e : k + 1 - (k + 1) / 3 = (k - k / 3) + 1 := by omega
      rw [e, Int.pow_succ]
      omega

theorem pacc_lt (l : List UInt8) (k : Nat) (h : k ≤ 17) : 0 ≤ pacc l k ∧ pacc l k < 281474976710656 := by
  have h1 := pacc_bd l k
  have h2 : (16 : Int) ^ (k - k / 3) ≤ 16 ^ 12 := by
    have : (16 : Nat) ^ (k - k / 3) ≤ 16 ^ 12 := Nat.pow_le_pow_right (by omega) (by omega)
    exact_mod_cast this
  have h3 : (16 : Int) ^ 12 = 281474976710656 := by decide
  omega

theorem parse_len (s : ByteArray) (h : s.size ≠ 17) (hm : s.size ≤ 9223372036854775807) (w : World) :
    Calls Try.prog 18 #[.string s] w fun e w' => e = .returned (.tuple #[.int .u64 0, .int .i64 3]) ∧ w = w' := by
  have h' : ((s.size : Int) != 17) = true := by simp; omega
  go_enter Try.func18, Try.ntmps18
  go_wp2
  go_ret2
  exact ⟨rfl, rfl⟩

def parseE (l : List UInt8) : Ending := if AllOk l 17 then .returned (.tuple #[.int .u64 (pacc l 17), .int .i64 0]) else .returned (.tuple #[.int .u64 0, .int .i64 3])

theorem getD_at (s : ByteArray) (k : Nat) (h : k < s.size) : s.data.toList.getD k 0 = s[k] := by
  have h2 : k < s.data.toList.length := by simpa using h
  rw [List.getD_eq_getElem?_getD, List.getElem?_eq_getElem h2]
  rfl

theorem all_succ {l : List UInt8} {k : Nat} (h : AllOk l k) (hk : okAt l k) : AllOk l (k + 1) := by
  intro j hj
  rcases Nat.lt_or_ge j k with h1 | h1
  · exact h j h1
  · have : j = k := by omega
    rw [this]; exact hk

theorem bad_at {l : List UInt8} {k : Nat} (hk : k < 17) (h : ¬ okAt l k) : parseE l = .returned (.tuple #[.int .u64 0, .int .i64 3]) := by
  unfold parseE; rw [if_neg (fun a => h (a k hk))]

theorem good_all {l : List UInt8} (h : AllOk l 17) : parseE l = .returned (.tuple #[.int .u64 (pacc l 17), .int .i64 0]) := by
  unfold parseE; rw [if_pos h]

theorem ok_colon (s : ByteArray) (k : Nat) (h : k < s.size) (h3 : k % 3 = 2) : okAt s.data.toList k ↔ ((s[k].toNat : Int) != 58) = false := by
  unfold okAt; rw [if_pos h3, getD_at s k h]; simp; omega

theorem ok_digit (s : ByteArray) (k : Nat) (h : k < s.size) (h3 : ¬ k % 3 = 2) : okAt s.data.toList k ↔ isx (s[k].toNat : Int) = true := by
  unfold okAt; rw [if_neg h3, getD_at s k h]

theorem pacc_colon (l : List UInt8) (k : Nat) (h3 : k % 3 = 2) : pacc l (k + 1) = pacc l k := by
  rw [pacc, if_pos h3]

theorem pacc_digit (s : ByteArray) (k : Nat) (h : k < s.size) (h3 : ¬ k % 3 = 2) : pacc s.data.toList (k + 1) = pacc s.data.toList k * 16 + dv (s[k].toNat : Int) := by
  rw [pacc, if_neg h3, getD_at s k h]

theorem pacc_44 (l : List UInt8) (k : Nat) (h : k < 17) : pacc l k < 17592186044416 := by
  have h1 := pacc_bd l k
  have h2 : (16 : Int) ^ (k - k / 3) ≤ 16 ^ 11 := by
    have : (16 : Nat) ^ (k - k / 3) ≤ 16 ^ 11 := Nat.pow_le_pow_right (by omega) (by omega)
    exact_mod_cast this
  have h3 : (16 : Int) ^ 11 = 17592186044416 := by decide
  omega

set_option maxHeartbeats 1000000 in
theorem parse_17 (s : ByteArray) (h : s.size = 17) (w : World) :
    Calls Try.prog 18 #[.string s] w fun e w' => e = parseE s.data.toList ∧ w = w' := by
  have h' : ((s.size : Int) != 17) = false := by simp; omega
  have h1 : s.size ≤ 17 := by omega
  have h2 : 17 ≤ s.size := by omega
  have H := Lib.hid h
  clear h
  go_enter Try.func18, Try.ntmps18
  go_wp2
  clear h'
  go_loop [4, 11] (fun t i => ∃ k : Nat, k ≤ 17 ∧ i = .int .i64 k ∧ t = .int .u64 (pacc s.data.toList k) ∧ Hid (AllOk s.data.toList k)) (fun _ i => 17 - (intOf i).toNat)
  case atStart => exact ⟨0, Nat.zero_le _, rfl, rfl, fun j hj => absurd hj (Nat.not_lt_zero j)⟩
  case round =>
    obtain ⟨k, hk, rfl, rfl, hok⟩ := hrel
    obtain ⟨p0, p1⟩ := pacc_lt s.data.toList k hk
    by_cases hlt : k < 17
    · have hks : k < s.size := by omega
      by_cases h3 : k % 3 = 2
      · have hb3 : (((k : Int) % 3) == 2) = true := by simp; omega
        go_wp2_with (go_at_call 23; refine (colon_any _ (by omega) (by omega) _).mono ?_; rintro e w' ⟨rfl, rfl⟩)
        · go_ret2
          exact ⟨(bad_at hlt (fun o => by have := (ok_colon s k hks h3).1 o; simp_all)).symm, rfl⟩
        · go_round
          case rel => exact ⟨k + 1, by omega, by go_num, by rw [pacc_colon _ _ h3], all_succ hok ((ok_colon s k hks h3).2 (by assumption))⟩
          case measure => simp [intOf]; omega
      · have hb3 : (((k : Int) % 3) == 2) = false := by simp; omega
        have c0 : 0 ≤ (s[k].toNat : Int) := by omega
        have c1 : (s[k].toNat : Int) ≤ 255 := by have := s[k].toNat_lt; omega
        obtain ⟨d0, d1⟩ := dv_bd (s[k].toNat : Int)
        have p2 := pacc_44 s.data.toList k hlt
        by_cases hx : isx (s[k].toNat : Int) = true
        · have ho := or4_64 (pacc s.data.toList k) (dv (s[k].toNat : Int)) p0 (by omega) d0 (by omega)
          go_wp2_with (first
            | (go_at_call 23; refine (colon_any _ (by omega) (by omega) _).mono ?_; rintro e w' ⟨rfl, rfl⟩)
            | (go_at_call 24; refine (digit_any _ c0 c1 _).mono ?_; rintro e w' ⟨rfl, rfl⟩))
          go_round
          case rel => exact ⟨k + 1, by omega, by go_num, by rw [pacc_digit s k hks h3], all_succ hok ((ok_digit s k hks h3).2 hx)⟩
          case measure => simp [intOf]; omega
        · have hx' : isx (s[k].toNat : Int) = false := by simpa using hx
          go_wp2_with (first
            | (go_at_call 23; refine (colon_any _ (by omega) (by omega) _).mono ?_; rintro e w' ⟨rfl, rfl⟩)
            | (go_at_call 24; refine (digit_any _ c0 c1 _).mono ?_; rintro e w' ⟨rfl, rfl⟩))
          go_ret2
          exact ⟨(bad_at hlt (fun o => hx ((ok_digit s k hks h3).1 o))).symm, rfl⟩
    · obtain rfl : k = 17 := by omega
      go_wp2
      go_ret2
      exact ⟨(good_all hok.out).symm, rfl⟩

end Go.Proofs.Ytddbmbnpjdpijaa
