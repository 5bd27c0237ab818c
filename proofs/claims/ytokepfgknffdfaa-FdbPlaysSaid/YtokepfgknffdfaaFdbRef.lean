/- The document's Find, Learn, Tick and Flush of a bridge's table. -/
import Derived.Test.YtokepfgknffdfaaSlotsRefMath
import Derived.Test.YtokepfgknffdfaaSortKit
import Derived.Test.YtokepfgknffdfaaIdsRight
import Derived.Test.YtokepfgknffdfaaFdbTick
import Derived.LoopTactic
import Derived.Lib.MinMax
namespace Go.Proofs.Ytokepfgknffdfaa
open Go.ChangeShapes Go.WideShapes Go.ChangeAt Go.RowKit
set_option linter.unusedVariables false

theorem Try.infoEntry : (Try.prog.info? 40).map (fun i => (i.zero, i.size, i.bytes)) = some (some (.agg #[.int .u64 0, .int .i64 0, .int .i64 0]), 3, 24) := by kernel_rfl

/-- The three cells of the document's entry. -/
def encR (p : Int × (Int × Int)) : List Value := [.int .u64 p.1, .int .i64 p.2.1, .int .i64 p.2.2]
theorem encR_len (p : Int × (Int × Int)) : (encR p).length = 3 := rfl
theorem encR_one (p : Int × (Int × Int)) : ∀ u ∈ encR p, u.oneCell' = true := by
  intro u hu
  simp [encR] at hu
  rcases hu with rfl | rfl | rfl <;> rfl

/-- An entry's cells. -/
theorem ent_cells {w : World} {B : Nat} {A : Option Addr} {L : List (Int × (Int × Int))} (h : RowAt encR 3 w B A L) {k : Nat} {x : Int × (Int × Int)} (hk : L[k]? = some x) :
    ∃ g, A = some ⟨g, 0, none⟩ ∧ B ≤ g ∧ g < w.heap.size ∧ w.cell? ⟨g, k * 3, none⟩ = some (.int .u64 x.1) ∧ w.cell? ⟨g, k * 3 + 1, none⟩ = some (.int .i64 x.2.1) ∧ w.cell? ⟨g, k * 3 + 2, none⟩ = some (.int .i64 x.2.2) := by
  obtain ⟨g, h1, h2, h3, h4⟩ := h k x hk
  exact ⟨g, h1, h2, h3, h4 0 (by omega), h4 1 (by omega), h4 2 (by omega)⟩

theorem own_ent {e : TypeId} {w : World} {B n cap : Nat} {A : Option Addr} {L : List (Int × (Int × Int))} (h : OwnL encR 3 e w B (.slice A n cap) L) : RowAt encR 3 w B A L := fun i p hp => h.at encR_len hp

set_option maxHeartbeats 1000000 in
theorem reffind_is (w : World) (B : Nat) (A : Option Addr) (n cap : Nat) (L : List (Int × (Int × Int))) (hL : L.length = n) (hn : n ≤ 1000) (h : RowAt encR 3 w B A L) (a : Int) (r : Int) (HR : Hid (findI L a 0 = r)) :
    Calls Try.prog 17 #[.slice A n cap, .int .u64 a] w fun e w' => e = .returned (.int .i64 r) ∧ w = w' := by
  have HL := Lib.hid hL
  have H := Lib.hid h
  clear hL h
  go_enter Try.func17, Try.ntmps17
  go_wp2
  go_loop [5] (fun i => ∃ k : Nat, k ≤ n ∧ i = .int .i64 k ∧ Hid (findI (L.drop k) a k = r)) (fun i => n - (intOf i).toNat)
  case atStart => exact ⟨0, Nat.zero_le _, rfl, HR⟩
  case round =>
    clear HR
    obtain ⟨k, hk, rfl, HF⟩ := hrel
    by_cases hkn : k < n
    · obtain ⟨x, hx⟩ := get_of_lt (l := L) (i := k) (by rw [HL.out]; exact hkn)
      obtain ⟨g, rfl, hg1, hg2, c0, c1, c2⟩ := ent_cells H.out hx
      have hst := findI_step (a := a) hx
      rw [HF.out] at hst
      obtain ⟨xa, xp, xg⟩ := x
      dsimp only at c0 c1 c2 hst
      have hki : (k : Int) < (n : Int) := by omega
      clear hx
      by_cases e : xa = a
      · rw [if_pos e] at hst
        have HS := Lib.hid hst
        have g1 : (xa == a) = true := by simp [e]
        clear hst e
        go_wp2
        go_ret
        exact ⟨ret_int HS.out.symm, rfl⟩
      · rw [if_neg e] at hst
        have HS := Lib.hid hst.symm
        have g1 : (xa == a) = false := by simp [e]
        clear hst e
        go_wp2
        go_round
        case rel => exact ⟨k + 1, by omega, by go_num, HS⟩
        case measure => simp [intOf]; omega
    · have e : r = -1 := by
        rw [← HF.out, List.drop_eq_nil_of_le (by rw [HL.out]; omega)]
        rfl
      have HE := Lib.hid e
      clear e
      go_wp2
      go_ret
      exact ⟨ret_int HE.out.symm, rfl⟩

/-- What the document's Learn, Tick and Flush build: a row of the call's own. -/
def MadeR (w : World) (M : List (Int × (Int × Int))) (v : Value) (w' : World) : Prop := OwnL encR 3 40 w' w.heap.size v M ∧ Below w.heap.size w w'

theorem keep_step {nx : Int × Int → (Int × Int) × Bool} {L : List (Int × (Int × Int))} {k : Nat} {x : Int × (Int × Int)} (h : L[k]? = some x) : (L.take (k + 1)).filterMap (keepF nx) = (L.take k).filterMap (keepF nx) ++ (keepF nx x).toList := by
  rw [List.take_add_one, h, List.filterMap_append]
  show _ ++ [x].filterMap (keepF nx) = _
  rw [List.filterMap_cons]
  cases keepF nx x <;> rfl

set_option maxHeartbeats 2000000 in
theorem refflush_is (w : World) (B : Nat) (A : Option Addr) (n cap : Nat) (L : List (Int × (Int × Int))) (hL : L.length = n) (hn : n ≤ 1000) (h : RowAt encR 3 w B A L) (a : Int) :
    Calls Try.prog 14 #[.slice A n cap, .int .i64 a] w fun e w' => ∃ v, e = .returned v ∧ MadeR w (flushC a L) v w' := by
  have HL := Lib.hid hL
  have H := Lib.hid h
  obtain ⟨i0, hi, hz0, hz1, hz2⟩ := info_parts Try.infoEntry
  have HI := Lib.hid hi
  have HZ0 := Lib.hid hz0
  have HZ1 := Lib.hid hz1
  have HZ2 := Lib.hid hz2
  clear hL h hi hz0 hz1 hz2
  go_enter Try.func14, Try.ntmps14
  go_wp2
  go_loopw [5, 6] (fun v i wr => ∃ (k : Nat) (M : List (Int × (Int × Int))), k ≤ n ∧ i = .int .i64 k ∧ M.length ≤ k ∧ Hid (M = flushC a (L.take k)) ∧ Hid (OwnL encR 3 40 wr w.heap.size v M) ∧ Below w.heap.size w wr) (fun _ i _ => n - (intOf i).toNat)
  case atStart => exact ⟨0, [], Nat.zero_le _, rfl, Nat.le_refl _, rfl, OwnL.nil _ _ _, Below.refl _ _⟩
  case round =>
    obtain ⟨k, M, hk, rfl, hMk, HM, R, hb⟩ := hrel
    have hsz := hb.size
    by_cases hkn : k < n
    · obtain ⟨x, hx⟩ := get_of_lt (l := L) (i := k) (by rw [HL.out]; exact hkn)
      obtain ⟨g, rfl, hg1, hg2, c0, c1, c2⟩ := ent_cells (H.out.below (hb.mono (Nat.le_refl _))) hx
      have hst := keep_step (nx := flushN a) hx
      rw [show (L.take k).filterMap (keepF (flushN a)) = M from HM.out.symm] at hst
      obtain ⟨xa, xp, xg⟩ := x
      dsimp only at c0 c1 c2 hst
      have hki : (k : Int) < (n : Int) := by omega
      clear hx
      by_cases e : xp = a
      · have e2 : flushN a (xp, xg) = ((xp, xg), false) := by unfold flushN; simp [e]
        rw [keep_none e2, show (none : Option (Int × (Int × Int))).toList = [] from rfl, List.append_nil] at hst
        have HS := Lib.hid hst.symm
        have g1 : (xp != a) = false := by simp [e]
        clear hst e e2
        go_wp2
        go_roundw
        case rel => exact ⟨k + 1, M, by omega, by go_num, by omega, HS, R, hb⟩
        case measure => simp [intOf]; omega
      · have e2 : flushN a (xp, xg) = ((xp, xg), true) := by unfold flushN; simp [e]
        rw [keep_some e2, show (some (xa, xp, xg) : Option (Int × (Int × Int))).toList = [(xa, xp, xg)] from rfl] at hst
        have HS := Lib.hid hst.symm
        have g1 : (xp != a) = true := by simp [e]
        clear hst e e2
        go_wp2_with (at_builtin; refine append_elem (enc := encR) _ rfl (.tmp 20) (.tmp 25) 27 rfl w.heap.size 40 i0 (.agg #[.int .u64 0, .int .i64 0, .int .i64 0]) 24 Try.underlying27 HI.out HZ0.out HZ1.out HZ2.out rfl (by decide) encR_len encR_one _ M (xa, xp, xg) rfl R.out _ rfl (by simp) (by omega) (by omega) w.heap.size w hb (Nat.le_refl _) hsz ?_; intro g7 cap7 w7 hg7 r7 B7 gr7; have R7 := Lib.hid r7; clear r7 gr7)
        go_roundw
        case rel => exact ⟨k + 1, M ++ [(xa, xp, xg)], by omega, by go_num, by simp; omega, HS, R7, B7⟩
        case measure => simp [intOf]; omega
    · have e : M = flushC a L := by rw [HM.out, List.take_of_length_le (by rw [HL.out]; omega)]
      have HE := Lib.hid e
      clear e
      go_wp2
      go_ret
      exact ⟨_, rfl, by rw [← HE.out]; exact R.out, hb⟩

set_option maxRecDepth 100000 in
set_option maxHeartbeats 8000000 in
theorem reflearn_yes (w : World) (B : Nat) (A : Option Addr) (n cap : Nat) (L : List (Int × (Int × Int))) (hL : L.length = n) (hn : n ≤ 1000) (h : RowAt encR 3 w B A L) (size a port : Int) (ha0 : 0 ≤ a) (ha1 : a ≤ 18446744073709551615) (hrt : rightB a = true) (hb : (inC L a || decide ((n : Int) < min size 64)) = true) :
    Calls Try.prog 10 #[.slice A n cap, .int .i64 size, .int .u64 a, .int .i64 port] w fun e w' => ∃ u, e = .returned (.tuple #[u, .int .i64 1]) ∧ MadeR w (insW a (port, 0) L false) u w' := by
  obtain ⟨r, hr⟩ : ∃ r, findI L a 0 = r := ⟨_, rfl⟩
  have HF := Lib.hid (reffind_is w B A n cap L hL hn h a r (Lib.hid hr))
  have hrb := findI_bd L a 0
  rw [hr, hL] at hrb
  have hrn : ¬ (r < 0 ∧ min size 64 ≤ (n : Int)) := by
    rintro ⟨h1, h2⟩
    cases hi : inC L a with
    | true =>
      obtain ⟨i, _, e, _⟩ := findI_yes L a 0 hi
      rw [hr] at e; omega
    | false =>
      rw [hi, Bool.false_or] at hb
      have := of_decide_eq_true hb
      omega
  have hr0 : -1 ≤ r := hrb.1
  have hr1 : r ≤ 1000 := by omega
  have HL := Lib.hid hL
  have H := Lib.hid h
  have hRT := refright_any a ha0 ha1 w
  rw [hrt] at hRT
  have HRT := Lib.hid hRT
  obtain ⟨T, hT⟩ : ∃ T, insW a (port, 0) L false = T := ⟨_, rfl⟩
  rw [hT]
  have HT := Lib.hid hT
  have HRN := Lib.hid hrn
  obtain ⟨i0, hi, hz0, hz1, hz2⟩ := info_parts Try.infoEntry
  have HI := Lib.hid hi
  have HZ0 := Lib.hid hz0
  have HZ1 := Lib.hid hz1
  have HZ2 := Lib.hid hz2
  clear hL h hi hz0 hz1 hz2 hb hr hrb hrn hT hRT hrt
  have key : ∀ (Q : Prop), (decide (r < 0) = false → Q) → (decide (r < 0) = true → decide (min size 64 ≤ (n : Int)) = false → Q) → Q := fun Q q1 q2 => by
    by_cases e : r < 0
    · exact q2 (decide_eq_true e) (decide_eq_false (fun e2 => HRN.out ⟨e, e2⟩))
    · exact q1 (decide_eq_false e)
  refine key _ (fun d1 => ?_) (fun d1 d2 => ?_)
  all_goals
    clear key
    go_enter Try.func10, Try.ntmps10
    go_wp2_with fail
    (with_reducible refine HRT.out.mono ?_); rintro e w' ⟨rfl, rfl⟩
    go_wp2_with fail
    (with_reducible refine HF.out.mono ?_); rintro e w' ⟨rfl, rfl⟩
    clear HF HRT
    go_wp2
    go_loopw [10, 11, 12] (fun u p i wr => ∃ (k : Nat) (M : List (Int × (Int × Int))) (put : Bool), k ≤ n ∧ i = .int .i64 k ∧ p = .bool put ∧ M.length ≤ 2 * k ∧ Hid (M ++ insW a (port, 0) (L.drop k) put = T) ∧ Hid (OwnL encR 3 40 wr w.heap.size u M) ∧ Below w.heap.size w wr) (fun _ _ i _ => n - (intOf i).toNat)
    case atStart => exact ⟨0, [], false, Nat.zero_le _, rfl, rfl, Nat.le_refl _, HT, OwnL.nil _ _ _, Below.refl _ _⟩
    case round =>
      obtain ⟨k, M, put, hk, rfl, rfl, hMk, HM, R, hb⟩ := hrel
      have hsz := hb.size
      by_cases hkn : k < n
      · obtain ⟨x, hx⟩ := get_of_lt (l := L) (i := k) (by rw [HL.out]; exact hkn)
        obtain ⟨g, rfl, hg1, hg2, c0, c1, c2⟩ := ent_cells (H.out.below (hb.mono (Nat.le_refl _))) hx
        have hst := insW_step (a := a) (v := (port, 0)) (put := put) hx
        have HX := Lib.hid hx
        obtain ⟨xa, xp, xg⟩ := x
        dsimp only at c0 c1 c2 hst
        have hki : (k : Int) < (n : Int) := by omega
        have hM2 := HM.out
        rw [hst] at hM2
        have HM3 := Lib.hid hM2
        clear hx hst hM2
        by_cases e : xa = a
        · have g1 : (xa != a) = false := by simp [e]
          have hle : a ≤ xa := by omega
          have g2 : decide (a ≤ xa) = true := decide_eq_true hle
          have HE := Lib.hid e
          clear e
          cases put with
          | true =>
            go_wp2
            go_roundw
            case rel => exact ⟨k + 1, M, true, by omega, by go_num, rfl, by omega, by have := HM3.out; rw [if_neg (by simp), if_pos HE.out] at this; exact this, R, hb⟩
            case measure => simp [intOf]; omega
          | false =>
            go_wp2_with (at_builtin; refine append_elem (enc := encR) _ rfl (.tmp 47) (.tmp 51) 27 rfl w.heap.size 40 i0 (.agg #[.int .u64 0, .int .i64 0, .int .i64 0]) 24 Try.underlying27 HI.out HZ0.out HZ1.out HZ2.out rfl (by decide) encR_len encR_one _ M (a, port, 0) rfl R.out _ rfl (by simp) (by first | omega | (simp; omega)) (by omega) w.heap.size w hb (Nat.le_refl _) hsz ?_; intro g7 cap7 w7 hg7 r7 B7 gr7; have R7 := Lib.hid r7; clear r7 gr7; clear c0 c1 c2; obtain ⟨g', eg, _, _, c0, c1, c2⟩ := ent_cells (H.out.below (B7.mono (Nat.le_refl _))) HX.out; cases eg; dsimp only at c0 c1 c2)
            go_roundw
            case rel => exact ⟨k + 1, M ++ [(a, port, 0)], true, by omega, by go_num, rfl, by simp; omega, by have := HM3.out; rw [if_pos ⟨rfl, hle⟩, if_pos HE.out, g2] at this; rw [Hid, List.append_assoc]; exact this, R7, B7⟩
            case measure => simp [intOf]; omega
        · have g1 : (xa != a) = true := by simp [e]
          have HE := Lib.hid e
          clear e
          cases put with
          | true =>
            go_wp2_with (at_builtin; refine append_elem (enc := encR) _ rfl (.tmp 60) (.tmp 65) 27 rfl w.heap.size 40 i0 (.agg #[.int .u64 0, .int .i64 0, .int .i64 0]) 24 Try.underlying27 HI.out HZ0.out HZ1.out HZ2.out rfl (by decide) encR_len encR_one _ M (xa, xp, xg) rfl R.out _ rfl (by simp) (by first | omega | (simp; omega)) (by omega) w.heap.size w hb (Nat.le_refl _) hsz ?_; intro g7 cap7 w7 hg7 r7 B7 gr7; have R7 := Lib.hid r7; clear r7 gr7)
            go_roundw
            case rel => exact ⟨k + 1, M ++ [(xa, xp, xg)], true, by omega, by go_num, rfl, by simp; omega, by have := HM3.out; rw [if_neg (by simp), if_neg HE.out] at this; rw [Hid, List.append_assoc]; exact this, R7, B7⟩
            case measure => simp [intOf]; omega
          | false =>
            by_cases hle : a ≤ xa
            · have g2 : decide (a ≤ xa) = true := decide_eq_true hle
              go_wp2_with (first | (at_builtin; refine append_elem (enc := encR) _ rfl (.tmp 47) (.tmp 51) 27 rfl w.heap.size 40 i0 (.agg #[.int .u64 0, .int .i64 0, .int .i64 0]) 24 Try.underlying27 HI.out HZ0.out HZ1.out HZ2.out rfl (by decide) encR_len encR_one _ M (a, port, 0) rfl R.out _ rfl (by simp) (by first | omega | (simp; omega)) (by omega) w.heap.size w hb (Nat.le_refl _) hsz ?_; intro g7 cap7 w7 hg7 r7 B7 gr7; have R7 := Lib.hid r7; clear r7 gr7; have hz7 : w.heap.size ≤ w7.heap.size := B7.size; clear c0 c1 c2; obtain ⟨g', eg, _, _, c0, c1, c2⟩ := ent_cells (H.out.below (B7.mono (Nat.le_refl _))) HX.out; cases eg; dsimp only at c0 c1 c2) | (at_builtin; refine append_elem (enc := encR) _ rfl (.tmp 60) (.tmp 65) 27 rfl w.heap.size 40 i0 (.agg #[.int .u64 0, .int .i64 0, .int .i64 0]) 24 Try.underlying27 HI.out HZ0.out HZ1.out HZ2.out rfl (by decide) encR_len encR_one _ (M ++ [(a, port, 0)]) (xa, xp, xg) rfl R7.out _ rfl (by simp) (by first | omega | (simp; omega)) (by omega) w.heap.size w B7 (Nat.le_refl _) hz7 ?_; intro g8 cap8 w8 hg8 r8 B8 gr8; rw [List.length_append, List.length_singleton] at r8; have R8 := Lib.hid r8; clear r8 gr8))
              go_roundw
              case rel => exact ⟨k + 1, M ++ [(a, port, 0)] ++ [(xa, xp, xg)], true, by omega, by go_num, rfl, by simp; omega, by have := HM3.out; rw [if_pos ⟨rfl, hle⟩, if_neg HE.out, g2] at this; rw [Hid, List.append_assoc, List.append_assoc]; exact this, R8, B8⟩
              case measure => simp [intOf]; omega
            · have g2 : decide (a ≤ xa) = false := decide_eq_false hle
              go_wp2_with (at_builtin; refine append_elem (enc := encR) _ rfl (.tmp 60) (.tmp 65) 27 rfl w.heap.size 40 i0 (.agg #[.int .u64 0, .int .i64 0, .int .i64 0]) 24 Try.underlying27 HI.out HZ0.out HZ1.out HZ2.out rfl (by decide) encR_len encR_one _ M (xa, xp, xg) rfl R.out _ rfl (by simp) (by first | omega | (simp; omega)) (by omega) w.heap.size w hb (Nat.le_refl _) hsz ?_; intro g7 cap7 w7 hg7 r7 B7 gr7; have R7 := Lib.hid r7; clear r7 gr7)
              go_roundw
              case rel => exact ⟨k + 1, M ++ [(xa, xp, xg)], false, by omega, by go_num, rfl, by simp; omega, by have := HM3.out; rw [if_neg (fun q => hle q.2), if_neg HE.out, g2] at this; rw [Hid, List.append_assoc]; exact this, R7, B7⟩
              case measure => simp [intOf]; omega
      · have e : M ++ insW a (port, 0) [] put = T := by have := HM.out; rw [List.drop_eq_nil_of_le (by rw [HL.out]; omega)] at this; exact this
        have HE := Lib.hid e
        clear e
        cases put with
        | true =>
          go_wp2
          go_ret2
          exact ⟨_, rfl, by rw [← HE.out]; exact (by rw [show insW a ((port, 0) : Int × Int) [] true = [] from rfl, List.append_nil]; exact R.out), hb⟩
        | false =>
          go_wp2_with (at_builtin; refine append_elem (enc := encR) _ rfl (.tmp 69) (.tmp 73) 27 rfl w.heap.size 40 i0 (.agg #[.int .u64 0, .int .i64 0, .int .i64 0]) 24 Try.underlying27 HI.out HZ0.out HZ1.out HZ2.out rfl (by decide) encR_len encR_one _ M (a, port, 0) rfl R.out _ rfl (by simp) (by first | omega | (simp; omega)) (by omega) w.heap.size w hb (Nat.le_refl _) hsz ?_; intro g7 cap7 w7 hg7 r7 B7 gr7; have R7 := Lib.hid r7; clear r7 gr7)
          go_ret2
          exact ⟨_, rfl, by rw [← HE.out]; exact R7.out, B7⟩

theorem reflearn_no (w : World) (B : Nat) (A : Option Addr) (n cap : Nat) (L : List (Int × (Int × Int))) (hL : L.length = n) (hn : n ≤ 1000) (h : RowAt encR 3 w B A L) (size a port : Int) (ha0 : 0 ≤ a) (ha1 : a ≤ 18446744073709551615) (hb : (rightB a && (inC L a || decide ((n : Int) < min size 64))) = false) :
    Calls Try.prog 10 #[.slice A n cap, .int .i64 size, .int .u64 a, .int .i64 port] w fun e w' => e = .returned (.tuple #[.slice A n cap, .int .i64 0]) ∧ w = w' := by
  have hRT := refright_any a ha0 ha1 w
  cases hrt : rightB a with
  | false =>
    rw [hrt] at hRT
    have HRT := Lib.hid hRT
    clear hL h hb hrt hRT
    go_enter Try.func10, Try.ntmps10
    go_wp2_with fail
    (with_reducible refine HRT.out.mono ?_); rintro e w' ⟨rfl, rfl⟩
    go_wp2
    go_ret2
    exact ⟨rfl, rfl⟩
  | true =>
    rw [hrt] at hRT hb
    rw [Bool.true_and, Bool.or_eq_false_iff] at hb
    have hr : findI L a 0 = -1 := findI_no L a 0 hb.1
    have hsz : min size 64 ≤ (n : Int) := by have := of_decide_eq_false hb.2; omega
    have HF := Lib.hid (reffind_is w B A n cap L hL hn h a (-1) (Lib.hid hr))
    have HRT := Lib.hid hRT
    have g1 : decide (min size 64 ≤ (n : Int)) = true := decide_eq_true hsz
    clear hL h hb hr hrt hRT hsz
    go_enter Try.func10, Try.ntmps10
    go_wp2_with fail
    (with_reducible refine HRT.out.mono ?_); rintro e w' ⟨rfl, rfl⟩
    go_wp2_with fail
    (with_reducible refine HF.out.mono ?_); rintro e w' ⟨rfl, rfl⟩
    clear HF
    go_wp2
    go_ret2
    exact ⟨rfl, rfl⟩

theorem older_if (g : Int) (h1 : g ≤ 1073741824) : olderA g = if g < 1073741824 then g + 1 else g := by
  unfold olderA
  split <;> omega

set_option maxRecDepth 100000 in
set_option maxHeartbeats 4000000 in
theorem reftick_is (w : World) (B : Nat) (A : Option Addr) (n cap : Nat) (L : List (Int × (Int × Int))) (hL : L.length = n) (hn : n ≤ 1000) (h : RowAt encR 3 w B A L) (ha : Aged L) (limit : Int) :
    Calls Try.prog 12 #[.slice A n cap, .int .i64 limit] w fun e w' => ∃ v, e = .returned v ∧ MadeR w (tickC limit L) v w' := by
  have HL := Lib.hid hL
  have H := Lib.hid h
  have HA := Lib.hid ha
  obtain ⟨i0, hi, hz0, hz1, hz2⟩ := info_parts Try.infoEntry
  have HI := Lib.hid hi
  have HZ0 := Lib.hid hz0
  have HZ1 := Lib.hid hz1
  have HZ2 := Lib.hid hz2
  clear hL h ha hi hz0 hz1 hz2
  go_enter Try.func12, Try.ntmps12
  go_wp2
  go_loopw [5, 6] (fun v i wr => ∃ (k : Nat) (M : List (Int × (Int × Int))), k ≤ n ∧ i = .int .i64 k ∧ M.length ≤ k ∧ Hid (M = tickC limit (L.take k)) ∧ Hid (OwnL encR 3 40 wr w.heap.size v M) ∧ Below w.heap.size w wr) (fun _ i _ => n - (intOf i).toNat)
  case atStart => exact ⟨0, [], Nat.zero_le _, rfl, Nat.le_refl _, rfl, OwnL.nil _ _ _, Below.refl _ _⟩
  case round =>
    obtain ⟨k, M, hk, rfl, hMk, HM, R, hb⟩ := hrel
    have hsz := hb.size
    by_cases hkn : k < n
    · obtain ⟨x, hx⟩ := get_of_lt (l := L) (i := k) (by rw [HL.out]; exact hkn)
      obtain ⟨g, rfl, hg1, hg2, c0, c1, c2⟩ := ent_cells (H.out.below (hb.mono (Nat.le_refl _))) hx
      have hst := keep_step (nx := tickN limit) hx
      rw [show (L.take k).filterMap (keepF (tickN limit)) = M from HM.out.symm] at hst
      obtain ⟨ag0, ag1⟩ := HA.out x (List.mem_of_getElem? hx)
      obtain ⟨xa, xp, xg⟩ := x
      dsimp only at c0 c1 c2 hst ag0 ag1
      have hold := older_if xg ag1
      have hki : (k : Int) < (n : Int) := by omega
      obtain ⟨o, ho⟩ : ∃ o, olderA xg = o := ⟨_, rfl⟩
      have HO := Lib.hid ho
      rw [ho] at hold
      clear hx
      by_cases hy : xg < 1073741824
      · have e1 : o = xg + 1 := by rw [hold, if_pos hy]
        subst e1
        clear hold ho
        by_cases e : xg + 1 < limit
        · have e2 : tickN limit (xp, xg) = ((xp, xg + 1), true) := by unfold tickN; rw [HO.out]; simp [e]
          have hst2 := hst
          rw [keep_some e2, show (some (xa, xp, xg + 1) : Option (Int × (Int × Int))).toList = [(xa, xp, xg + 1)] from rfl] at hst2
          have HS := Lib.hid hst2.symm
          have R2 := Lib.hid (R.out.below (new_below _ (.cells #[.int .u64 xa, .int .i64 xp, .int .i64 (xg + 1)] 40)))
          have B2 := hb.alloc hsz (.cells #[.int .u64 xa, .int .i64 xp, .int .i64 (xg + 1)] 40)
          have HB2 := Lib.hid B2
          clear hst hst2 e2 HO R B2
          go_wp2_with (at_builtin; refine append_elem (enc := encR) _ rfl (.tmp 29) (.tmp 31) 27 rfl w.heap.size 40 i0 (.agg #[.int .u64 0, .int .i64 0, .int .i64 0]) 24 Try.underlying27 HI.out HZ0.out HZ1.out HZ2.out rfl (by decide) encR_len encR_one _ M (xa, xp, xg + 1) rfl R2.out _ rfl (by simp) (by omega) (by omega) w.heap.size w HB2.out (Nat.le_refl _) (by simp; omega) ?_; intro g7 cap7 w7 hg7 r7 B7 gr7; have R7 := Lib.hid r7; clear r7 gr7)
          go_roundw
          case rel => exact ⟨k + 1, M ++ [(xa, xp, xg + 1)], by omega, by go_num, by simp; omega, HS, R7, B7⟩
          case measure => simp [intOf]; omega
        · have e2 : tickN limit (xp, xg) = ((xp, xg + 1), false) := by unfold tickN; rw [HO.out]; simp [e]
          have hst2 := hst
          rw [keep_none e2, show (none : Option (Int × (Int × Int))).toList = [] from rfl, List.append_nil] at hst2
          have HS := Lib.hid hst2.symm
          have R2 := Lib.hid (R.out.below (new_below _ (.cells #[.int .u64 xa, .int .i64 xp, .int .i64 (xg + 1)] 40)))
          have B2 := hb.alloc hsz (.cells #[.int .u64 xa, .int .i64 xp, .int .i64 (xg + 1)] 40)
          clear hst hst2 e2 HO R
          go_wp2
          go_roundw
          case rel => exact ⟨k + 1, M, by omega, by go_num, by omega, HS, R2, B2⟩
          case measure => simp [intOf]; omega
      · have e1 : o = xg := by rw [hold, if_neg hy]
        subst e1
        clear hold ho
        by_cases e : o < limit
        · have e2 : tickN limit (xp, o) = ((xp, o), true) := by unfold tickN; rw [HO.out]; simp [e]
          have hst2 := hst
          rw [keep_some e2, show (some (xa, xp, o) : Option (Int × (Int × Int))).toList = [(xa, xp, o)] from rfl] at hst2
          have HS := Lib.hid hst2.symm
          have R2 := Lib.hid (R.out.below (new_below _ (.cells #[.int .u64 xa, .int .i64 xp, .int .i64 (o)] 40)))
          have B2 := hb.alloc hsz (.cells #[.int .u64 xa, .int .i64 xp, .int .i64 (o)] 40)
          have HB2 := Lib.hid B2
          clear hst hst2 e2 HO R B2
          go_wp2_with (at_builtin; refine append_elem (enc := encR) _ rfl (.tmp 29) (.tmp 31) 27 rfl w.heap.size 40 i0 (.agg #[.int .u64 0, .int .i64 0, .int .i64 0]) 24 Try.underlying27 HI.out HZ0.out HZ1.out HZ2.out rfl (by decide) encR_len encR_one _ M (xa, xp, o) rfl R2.out _ rfl (by simp) (by omega) (by omega) w.heap.size w HB2.out (Nat.le_refl _) (by simp; omega) ?_; intro g7 cap7 w7 hg7 r7 B7 gr7; have R7 := Lib.hid r7; clear r7 gr7)
          go_roundw
          case rel => exact ⟨k + 1, M ++ [(xa, xp, o)], by omega, by go_num, by simp; omega, HS, R7, B7⟩
          case measure => simp [intOf]; omega
        · have e2 : tickN limit (xp, o) = ((xp, o), false) := by unfold tickN; rw [HO.out]; simp [e]
          have hst2 := hst
          rw [keep_none e2, show (none : Option (Int × (Int × Int))).toList = [] from rfl, List.append_nil] at hst2
          have HS := Lib.hid hst2.symm
          have R2 := Lib.hid (R.out.below (new_below _ (.cells #[.int .u64 xa, .int .i64 xp, .int .i64 (o)] 40)))
          have B2 := hb.alloc hsz (.cells #[.int .u64 xa, .int .i64 xp, .int .i64 (o)] 40)
          clear hst hst2 e2 HO R
          go_wp2
          go_roundw
          case rel => exact ⟨k + 1, M, by omega, by go_num, by omega, HS, R2, B2⟩
          case measure => simp [intOf]; omega
    · have e : M = tickC limit L := by rw [HM.out, List.take_of_length_le (by rw [HL.out]; omega)]
      have HE := Lib.hid e
      clear e
      go_wp2
      go_ret
      exact ⟨_, rfl, by rw [← HE.out]; exact R.out, hb⟩

end Go.Proofs.Ytokepfgknffdfaa
