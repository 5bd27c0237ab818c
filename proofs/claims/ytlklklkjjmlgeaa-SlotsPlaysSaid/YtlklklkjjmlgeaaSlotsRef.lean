/- The document's Find, Drop and Put. -/
import Derived.Test.YtlklklkjjmlgeaaSlotsRefMath
import Derived.Test.YtlklklkjjmlgeaaSortKit
import Derived.Test.YtlklklkjjmlgeaaIdsBase
import Derived.LoopTactic
namespace Go.Proofs.Ytlklklkjjmlgeaa
open Go.ChangeShapes Go.WideShapes Go.ChangeAt Go.RowKit
set_option linter.unusedVariables false

theorem Try.infoPair : (Try.prog.info? 41).map (fun i => (i.zero, i.size, i.bytes)) = some (some (.agg #[.int .u64 0, .int .i64 0]), 2, 16) := by kernel_rfl

/-- A pair's cells. -/
theorem pair_cells {w : World} {B : Nat} {A : Option Addr} {L : List (Int × Int)} (h : RowAt encP 2 w B A L) {k : Nat} {x : Int × Int} (hk : L[k]? = some x) :
    ∃ g, A = some ⟨g, 0, none⟩ ∧ B ≤ g ∧ g < w.heap.size ∧ w.cell? ⟨g, k * 2, none⟩ = some (.int .u64 x.1) ∧ w.cell? ⟨g, k * 2 + 1, none⟩ = some (.int .i64 x.2) := by
  obtain ⟨g, h1, h2, h3, h4⟩ := h k x hk
  exact ⟨g, h1, h2, h3, h4 0 (by omega), h4 1 (by omega)⟩

theorem own_row {e : TypeId} {w : World} {B n cap : Nat} {A : Option Addr} {L : List (Int × Int)} (h : OwnL encP 2 e w B (.slice A n cap) L) : RowAt encP 2 w B A L := fun i p hp => h.at encP_len hp

set_option maxHeartbeats 1000000 in
theorem reffind_is (w : World) (B : Nat) (A : Option Addr) (n cap : Nat) (L : List (Int × Int)) (hL : L.length = n) (hn : n ≤ 1000) (h : RowAt encP 2 w B A L) (a : Int) (r : Int) (HR : Hid (findI L a 0 = r)) :
    Calls Try.prog 11 #[.slice A n cap, .int .u64 a] w fun e w' => e = .returned (.int .i64 r) ∧ w = w' := by
  have HL := Lib.hid hL
  have H := Lib.hid h
  clear hL h
  go_enter Try.func11, Try.ntmps11
  go_wp2
  go_loop [5] (fun i => ∃ k : Nat, k ≤ n ∧ i = .int .i64 k ∧ Hid (findI (L.drop k) a k = r)) (fun i => n - (intOf i).toNat)
  case atStart => exact ⟨0, Nat.zero_le _, rfl, HR⟩
  case round =>
    clear HR
    obtain ⟨k, hk, rfl, HF⟩ := hrel
    by_cases hkn : k < n
    · obtain ⟨x, hx⟩ := get_of_lt (l := L) (i := k) (by rw [HL.out]; exact hkn)
      obtain ⟨g, rfl, hg1, hg2, c0, c1⟩ := pair_cells H.out hx
      have hst := findI_step (a := a) hx
      rw [HF.out] at hst
      obtain ⟨xa, xv⟩ := x
      dsimp only at c0 c1 hst
      have hki : (k : Int) < (n : Int) := by omega
      clear hx
      by_cases e : xa = a
      · rw [if_pos e] at hst
        have HS := Lib.hid hst
        have g1 : (xa == a) = true := by simp [e]
        clear hst e
        go_wp2
        go_ret
        exact ⟨ret_int HS.out.symm, rfl⟩
      · rw [if_neg e] at hst
        have HS := Lib.hid hst.symm
        have g1 : (xa == a) = false := by simp [e]
        clear hst e
        go_wp2
        go_round
        case rel => exact ⟨k + 1, by omega, by go_num, HS⟩
        case measure => simp [intOf]; omega
    · have e : r = -1 := by
        rw [← HF.out, List.drop_eq_nil_of_le (by rw [HL.out]; omega)]
        rfl
      have HE := Lib.hid e
      clear e
      go_wp2
      go_ret
      exact ⟨ret_int HE.out.symm, rfl⟩

/-- What the document's Drop and Put build: a row of the call's own. -/
def MadeL (w : World) (M : List (Int × Int)) (v : Value) (w' : World) : Prop := OwnL encP 2 41 w' w.heap.size v M ∧ Below w.heap.size w w'

set_option maxHeartbeats 2000000 in
theorem refdrop_is (w : World) (B : Nat) (A : Option Addr) (n cap : Nat) (L : List (Int × Int)) (hL : L.length = n) (hn : n ≤ 1000) (h : RowAt encP 2 w B A L) (a : Int) :
    Calls Try.prog 12 #[.slice A n cap, .int .u64 a] w fun e w' => ∃ v, e = .returned v ∧ MadeL w (delC L a) v w' := by
  have HL := Lib.hid hL
  have H := Lib.hid h
  obtain ⟨i0, hi, hz0, hz1, hz2⟩ := info_parts Try.infoPair
  have HI := Lib.hid hi
  have HZ0 := Lib.hid hz0
  have HZ1 := Lib.hid hz1
  have HZ2 := Lib.hid hz2
  clear hL h hi hz0 hz1 hz2
  go_enter Try.func12, Try.ntmps12
  go_wp2
  go_loopw [5, 6] (fun v i wr => ∃ (k : Nat) (M : List (Int × Int)), k ≤ n ∧ i = .int .i64 k ∧ M.length ≤ k ∧ Hid (M = delC (L.take k) a) ∧ Hid (OwnL encP 2 41 wr w.heap.size v M) ∧ Below w.heap.size w wr) (fun _ i _ => n - (intOf i).toNat)
  case atStart => exact ⟨0, [], Nat.zero_le _, rfl, Nat.le_refl _, rfl, OwnL.nil _ _ _, Below.refl _ _⟩
  case round =>
    obtain ⟨k, M, hk, rfl, hMk, HM, R, hb⟩ := hrel
    have hsz := hb.size
    by_cases hkn : k < n
    · obtain ⟨x, hx⟩ := get_of_lt (l := L) (i := k) (by rw [HL.out]; exact hkn)
      obtain ⟨g, rfl, hg1, hg2, c0, c1⟩ := pair_cells (H.out.below (hb.mono (Nat.le_refl _))) hx
      have hst := delC_step (a := a) hx
      rw [← HM.out] at hst
      obtain ⟨xa, xv⟩ := x
      dsimp only at c0 c1 hst
      have hki : (k : Int) < (n : Int) := by omega
      clear hx
      by_cases e : xa = a
      · rw [if_pos e, List.append_nil] at hst
        have HS := Lib.hid hst.symm
        have g1 : (xa != a) = false := by simp [e]
        clear hst e
        go_wp2
        go_roundw
        case rel => exact ⟨k + 1, M, by omega, by go_num, by omega, HS, R, hb⟩
        case measure => simp [intOf]; omega
      · rw [if_neg e] at hst
        have HS := Lib.hid hst.symm
        have g1 : (xa != a) = true := by simp [e]
        clear hst e
        go_wp2_with (at_builtin; refine append_elem (enc := encP) _ rfl (.tmp 20) (.tmp 25) 27 rfl w.heap.size 41 i0 (.agg #[.int .u64 0, .int .i64 0]) 16 Try.underlying27 HI.out HZ0.out HZ1.out HZ2.out rfl (by decide) encP_len encP_one _ M (xa, xv) rfl R.out _ rfl (by simp) (by omega) (by omega) w.heap.size w hb (Nat.le_refl _) hsz ?_; intro g7 cap7 w7 hg7 r7 B7 gr7; have R7 := Lib.hid r7; clear r7 gr7)
        go_roundw
        case rel => exact ⟨k + 1, M ++ [(xa, xv)], by omega, by go_num, by simp; omega, HS, R7, B7⟩
        case measure => simp [intOf]; omega
    · have e : M = delC L a := by rw [HM.out, List.take_of_length_le (by rw [HL.out]; omega)]
      have HE := Lib.hid e
      clear e
      go_wp2
      go_ret
      exact ⟨_, rfl, by rw [← HE.out]; exact R.out, hb⟩

/-- What the document's Put answers. -/
def PutEnd (w : World) (A : Option Addr) (n cap : Nat) (L : List (Int × Int)) (a v : Int) (b : Bool) (e : Ending) (w' : World) : Prop :=
  if b = true then ∃ u, e = .returned (.tuple #[u, .int .i64 1]) ∧ MadeL w (insW a v L false) u w' else e = .returned (.tuple #[.slice A n cap, .int .i64 0]) ∧ w = w'

set_option maxRecDepth 100000 in
set_option maxHeartbeats 8000000 in
theorem refput_yes (w : World) (B : Nat) (A : Option Addr) (n cap : Nat) (L : List (Int × Int)) (hL : L.length = n) (hn : n ≤ 1000) (h : RowAt encP 2 w B A L) (size a v : Int) (s0 : 0 ≤ size) (s1 : size ≤ 1000) (hb : (inC L a || decide ((n : Int) < size)) = true) :
    Calls Try.prog 13 #[.slice A n cap, .int .i64 size, .int .u64 a, .int .i64 v] w fun e w' => ∃ u, e = .returned (.tuple #[u, .int .i64 1]) ∧ MadeL w (insW a v L false) u w' := by
  obtain ⟨r, hr⟩ : ∃ r, findI L a 0 = r := ⟨_, rfl⟩
  have HF := Lib.hid (reffind_is w B A n cap L hL hn h a r (Lib.hid hr))
  have hrb := findI_bd L a 0
  rw [hr, hL] at hrb
  have hrn : ¬ (r < 0 ∧ size ≤ (n : Int)) := by
    rintro ⟨h1, h2⟩
    cases hi : inC L a with
    | true =>
      obtain ⟨i, _, e, _⟩ := findI_yes L a 0 hi
      rw [hr] at e; omega
    | false =>
      rw [hi, Bool.false_or] at hb
      have := of_decide_eq_true hb
      omega
  have hr0 : -1 ≤ r := hrb.1
  have hr1 : r ≤ 1000 := by omega
  have HL := Lib.hid hL
  have H := Lib.hid h
  obtain ⟨T, hT⟩ : ∃ T, insW a v L false = T := ⟨_, rfl⟩
  rw [hT]
  have HT := Lib.hid hT
  have HRN := Lib.hid hrn
  obtain ⟨i0, hi, hz0, hz1, hz2⟩ := info_parts Try.infoPair
  have HI := Lib.hid hi
  have HZ0 := Lib.hid hz0
  have HZ1 := Lib.hid hz1
  have HZ2 := Lib.hid hz2
  clear hL h hi hz0 hz1 hz2 hb hr hrb hrn hT
  have key : ∀ (Q : Prop), (decide (r < 0) = false → Q) → (decide (r < 0) = true → decide (size ≤ (n : Int)) = false → Q) → Q := fun Q q1 q2 => by
    by_cases e : r < 0
    · exact q2 (decide_eq_true e) (decide_eq_false (fun e2 => HRN.out ⟨e, e2⟩))
    · exact q1 (decide_eq_false e)
  refine key _ (fun d1 => ?_) (fun d1 d2 => ?_)
  all_goals
    clear key
    go_enter Try.func13, Try.ntmps13
    go_wp2_with fail
    (with_reducible refine HF.out.mono ?_); rintro e w' ⟨rfl, rfl⟩
    clear HF
    go_wp2
    go_loopw [10, 11, 12] (fun u p i wr => ∃ (k : Nat) (M : List (Int × Int)) (put : Bool), k ≤ n ∧ i = .int .i64 k ∧ p = .bool put ∧ M.length ≤ 2 * k ∧ Hid (M ++ insW a v (L.drop k) put = T) ∧ Hid (OwnL encP 2 41 wr w.heap.size u M) ∧ Below w.heap.size w wr) (fun _ _ i _ => n - (intOf i).toNat)
    case atStart => exact ⟨0, [], false, Nat.zero_le _, rfl, rfl, Nat.le_refl _, HT, OwnL.nil _ _ _, Below.refl _ _⟩
    case round =>
      obtain ⟨k, M, put, hk, rfl, rfl, hMk, HM, R, hb⟩ := hrel
      have hsz := hb.size
      by_cases hkn : k < n
      · obtain ⟨x, hx⟩ := get_of_lt (l := L) (i := k) (by rw [HL.out]; exact hkn)
        obtain ⟨g, rfl, hg1, hg2, c0, c1⟩ := pair_cells (H.out.below (hb.mono (Nat.le_refl _))) hx
        have hst := insW_step (a := a) (v := v) (put := put) hx
        have HX := Lib.hid hx
        obtain ⟨xa, xv⟩ := x
        dsimp only at c0 c1 hst
        have hki : (k : Int) < (n : Int) := by omega
        have hM2 := HM.out
        rw [hst] at hM2
        have HM3 := Lib.hid hM2
        clear hx hst hM2
        by_cases e : xa = a
        · have g1 : (xa != a) = false := by simp [e]
          have hle : a ≤ xa := by omega
          have g2 : decide (a ≤ xa) = true := decide_eq_true hle
          have HE := Lib.hid e
          clear e
          cases put with
          | true =>
            go_wp2
            go_roundw
            case rel => exact ⟨k + 1, M, true, by omega, by go_num, rfl, by omega, by have := HM3.out; rw [if_neg (by simp), if_pos HE.out] at this; exact this, R, hb⟩
            case measure => simp [intOf]; omega
          | false =>
            go_wp2_with (at_builtin; refine append_elem (enc := encP) _ rfl (.tmp 41) (.tmp 45) 27 rfl w.heap.size 41 i0 (.agg #[.int .u64 0, .int .i64 0]) 16 Try.underlying27 HI.out HZ0.out HZ1.out HZ2.out rfl (by decide) encP_len encP_one _ M (a, v) rfl R.out _ rfl (by simp) (by first | omega | (simp; omega)) (by omega) w.heap.size w hb (Nat.le_refl _) hsz ?_; intro g7 cap7 w7 hg7 r7 B7 gr7; have R7 := Lib.hid r7; clear r7 gr7; clear c0 c1; obtain ⟨g', eg, _, _, c0, c1⟩ := pair_cells (H.out.below (B7.mono (Nat.le_refl _))) HX.out; cases eg; dsimp only at c0 c1)
            go_roundw
            case rel => exact ⟨k + 1, M ++ [(a, v)], true, by omega, by go_num, rfl, by simp; omega, by have := HM3.out; rw [if_pos ⟨rfl, hle⟩, if_pos HE.out, g2] at this; rw [Hid, List.append_assoc]; exact this, R7, B7⟩
            case measure => simp [intOf]; omega
        · have g1 : (xa != a) = true := by simp [e]
          have HE := Lib.hid e
          clear e
          cases put with
          | true =>
            go_wp2_with (at_builtin; refine append_elem (enc := encP) _ rfl (.tmp 54) (.tmp 59) 27 rfl w.heap.size 41 i0 (.agg #[.int .u64 0, .int .i64 0]) 16 Try.underlying27 HI.out HZ0.out HZ1.out HZ2.out rfl (by decide) encP_len encP_one _ M (xa, xv) rfl R.out _ rfl (by simp) (by first | omega | (simp; omega)) (by omega) w.heap.size w hb (Nat.le_refl _) hsz ?_; intro g7 cap7 w7 hg7 r7 B7 gr7; have R7 := Lib.hid r7; clear r7 gr7)
            go_roundw
            case rel => exact ⟨k + 1, M ++ [(xa, xv)], true, by omega, by go_num, rfl, by simp; omega, by have := HM3.out; rw [if_neg (by simp), if_neg HE.out] at this; rw [Hid, List.append_assoc]; exact this, R7, B7⟩
            case measure => simp [intOf]; omega
          | false =>
            by_cases hle : a ≤ xa
            · have g2 : decide (a ≤ xa) = true := decide_eq_true hle
              go_wp2_with (first | (at_builtin; refine append_elem (enc := encP) _ rfl (.tmp 41) (.tmp 45) 27 rfl w.heap.size 41 i0 (.agg #[.int .u64 0, .int .i64 0]) 16 Try.underlying27 HI.out HZ0.out HZ1.out HZ2.out rfl (by decide) encP_len encP_one _ M (a, v) rfl R.out _ rfl (by simp) (by first | omega | (simp; omega)) (by omega) w.heap.size w hb (Nat.le_refl _) hsz ?_; intro g7 cap7 w7 hg7 r7 B7 gr7; have R7 := Lib.hid r7; clear r7 gr7; have hz7 : w.heap.size ≤ w7.heap.size := B7.size; clear c0 c1; obtain ⟨g', eg, _, _, c0, c1⟩ := pair_cells (H.out.below (B7.mono (Nat.le_refl _))) HX.out; cases eg; dsimp only at c0 c1) | (at_builtin; refine append_elem (enc := encP) _ rfl (.tmp 54) (.tmp 59) 27 rfl w.heap.size 41 i0 (.agg #[.int .u64 0, .int .i64 0]) 16 Try.underlying27 HI.out HZ0.out HZ1.out HZ2.out rfl (by decide) encP_len encP_one _ (M ++ [(a, v)]) (xa, xv) rfl R7.out _ rfl (by simp) (by first | omega | (simp; omega)) (by omega) w.heap.size w B7 (Nat.le_refl _) hz7 ?_; intro g8 cap8 w8 hg8 r8 B8 gr8; rw [List.length_append, List.length_singleton] at r8; have R8 := Lib.hid r8; clear r8 gr8))
              go_roundw
              case rel => exact ⟨k + 1, M ++ [(a, v)] ++ [(xa, xv)], true, by omega, by go_num, rfl, by simp; omega, by have := HM3.out; rw [if_pos ⟨rfl, hle⟩, if_neg HE.out, g2] at this; rw [Hid, List.append_assoc, List.append_assoc]; exact this, R8, B8⟩
              case measure => simp [intOf]; omega
            · have g2 : decide (a ≤ xa) = false := decide_eq_false hle
              go_wp2_with (at_builtin; refine append_elem (enc := encP) _ rfl (.tmp 54) (.tmp 59) 27 rfl w.heap.size 41 i0 (.agg #[.int .u64 0, .int .i64 0]) 16 Try.underlying27 HI.out HZ0.out HZ1.out HZ2.out rfl (by decide) encP_len encP_one _ M (xa, xv) rfl R.out _ rfl (by simp) (by first | omega | (simp; omega)) (by omega) w.heap.size w hb (Nat.le_refl _) hsz ?_; intro g7 cap7 w7 hg7 r7 B7 gr7; have R7 := Lib.hid r7; clear r7 gr7)
              go_roundw
              case rel => exact ⟨k + 1, M ++ [(xa, xv)], false, by omega, by go_num, rfl, by simp; omega, by have := HM3.out; rw [if_neg (fun q => hle q.2), if_neg HE.out, g2] at this; rw [Hid, List.append_assoc]; exact this, R7, B7⟩
              case measure => simp [intOf]; omega
      · have e : M ++ insW a v [] put = T := by have := HM.out; rw [List.drop_eq_nil_of_le (by rw [HL.out]; omega)] at this; exact this
        have HE := Lib.hid e
        clear e
        cases put with
        | true =>
          go_wp2
          go_ret2
          exact ⟨_, rfl, by rw [← HE.out]; exact (by rw [show insW a v [] true = [] from rfl, List.append_nil]; exact R.out), hb⟩
        | false =>
          go_wp2_with (at_builtin; refine append_elem (enc := encP) _ rfl (.tmp 63) (.tmp 67) 27 rfl w.heap.size 41 i0 (.agg #[.int .u64 0, .int .i64 0]) 16 Try.underlying27 HI.out HZ0.out HZ1.out HZ2.out rfl (by decide) encP_len encP_one _ M (a, v) rfl R.out _ rfl (by simp) (by first | omega | (simp; omega)) (by omega) w.heap.size w hb (Nat.le_refl _) hsz ?_; intro g7 cap7 w7 hg7 r7 B7 gr7; have R7 := Lib.hid r7; clear r7 gr7)
          go_ret2
          exact ⟨_, rfl, by rw [← HE.out]; exact R7.out, B7⟩

theorem refput_no (w : World) (B : Nat) (A : Option Addr) (n cap : Nat) (L : List (Int × Int)) (hL : L.length = n) (hn : n ≤ 1000) (h : RowAt encP 2 w B A L) (size a v : Int) (s0 : 0 ≤ size) (s1 : size ≤ 1000) (hb : (inC L a || decide ((n : Int) < size)) = false) :
    Calls Try.prog 13 #[.slice A n cap, .int .i64 size, .int .u64 a, .int .i64 v] w fun e w' => e = .returned (.tuple #[.slice A n cap, .int .i64 0]) ∧ w = w' := by
  rw [Bool.or_eq_false_iff] at hb
  have hr : findI L a 0 = -1 := findI_no L a 0 hb.1
  have hsz : size ≤ (n : Int) := by have := of_decide_eq_false hb.2; omega
  have HF := Lib.hid (reffind_is w B A n cap L hL hn h a (-1) (Lib.hid hr))
  clear hL h hb hr
  go_enter Try.func13, Try.ntmps13
  go_wp2_with fail
  (with_reducible refine HF.out.mono ?_); rintro e w' ⟨rfl, rfl⟩
  clear HF
  go_wp2
  go_ret2
  exact ⟨rfl, rfl⟩

end Go.Proofs.Ytlklklkjjmlgeaa
