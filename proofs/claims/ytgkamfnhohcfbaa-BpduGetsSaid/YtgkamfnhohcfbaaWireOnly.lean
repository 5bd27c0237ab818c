/- The reader's next bytes and numbers, with what else is left as it was: all blocks but its own. -/
import Derived.Test.YtgkamfnhohcfbaaWireNum
namespace Go.Proofs.Ytgkamfnhohcfbaa
open Go.ChangeShapes Go.WideShapes Go.ChangeAt Go.RowKit
set_option linter.unusedVariables false

/-- Nothing but block 'h' has turned, and nothing is new. -/
def Only (h : Nat) (w w' : World) : Prop := w'.heap.size = w.heap.size ∧ ∀ b, b ≠ h → w'.heap[b]? = w.heap[b]?

theorem Only.bk {h g : Nat} {w w' : World} {t : TypeId} {cs : List Value} (o : Only h w w') (k : Bk w g t cs) (hg : g ≠ h) : Bk w' g t cs := (o.2 g hg).trans k

theorem only_set (w : World) (h i : Nat) (u : Value) : Only h w (w.setCell ⟨h, i, none⟩ u) := ⟨by simp [World.setCell], fun b hb => Below.heap_setCell w _ u b hb⟩

theorem rd_shortO {T : TypeId} {w : World} {lo hi h : Nat} {A : Option Addr} {l : List UInt8} {s : Bool} (r : RD T w lo hi h A l s) :
    RD T (w.setCell ⟨h, 1, none⟩ (.bool true)) lo hi h A l true ∧ Below lo w (w.setCell ⟨h, 1, none⟩ (.bool true)) ∧ Only h w (w.setCell ⟨h, 1, none⟩ (.bool true)) := by
  obtain ⟨h1, h2, h3, h4⟩ := r
  exact ⟨⟨h1, h2, h3.set 1 _, h4.set (.inr (Nat.le_refl _)) _⟩, (Below.refl _ _).setCell h1 _, only_set _ _ _ _⟩

theorem rd_nextO {T : TypeId} {w : World} {lo hi h : Nat} {A : Option Addr} {l : List UInt8} {s : Bool} (r : RD T w lo hi h A l s) (k : Nat) (hk : k ≤ l.length) :
    RD T (w.setCell ⟨h, 0, none⟩ (.slice (cutA A k l.length) (l.length - k) (l.length - k))) lo hi h (cutA A k l.length) (l.drop k) s ∧ RB (w.setCell ⟨h, 0, none⟩ (.slice (cutA A k l.length) (l.length - k) (l.length - k))) A lo h (l.take k) ∧
    Below lo w (w.setCell ⟨h, 0, none⟩ (.slice (cutA A k l.length) (l.length - k) (l.length - k))) ∧ Only h w (w.setCell ⟨h, 0, none⟩ (.slice (cutA A k l.length) (l.length - k) (l.length - k))) := by
  obtain ⟨h1, h2, h3, h4⟩ := r
  refine ⟨⟨h1, h2, ?_, (h4.drop k l.length (Nat.le_refl _)).set (.inr (Nat.le_refl _)) _⟩, (h4.take k).set (.inr (Nat.le_refl _)) _, (Below.refl _ _).setCell h1 _, only_set _ _ _ _⟩
  rw [List.length_drop]
  exact h3.set 0 _

theorem next_badO (lo hi h : Nat) (A : Option Addr) (l : List UInt8) (s : Bool) (n : Int) (w : World) (hr : RD 60 w lo hi h A l s) (hm : l.length ≤ 140737488355328) (h0 : -9223372036854775808 ≤ n) (h1 : n ≤ 9223372036854775807) (hbad : BadN s l.length n) :
    Calls Try.prog 28 #[.pointer (some ⟨h, 0, none⟩), .int .i64 n] w fun e w' => e = .returned (.slice none 0 0) ∧ RD 60 w' lo hi h A l true ∧ Below lo w w' ∧ Only h w w' := by
  have hc := hr.2.2.1.cell 0
  have hd := hr.2.2.1.cell 1
  have hf := hr.2.2.1.thaw 1
  simp at hc hd
  have K := Lib.hid (rd_shortO hr)
  clear hr
  by_cases hs : s = true
  · subst hs
    go_enter Try.func28, Try.ntmps28
    go_wp2
    go_ret
    exact ⟨rfl, K.out⟩
  · have hs' : s = false := by simpa using hs
    subst hs'
    clear hs
    by_cases hn : n < 0
    · go_enter Try.func28, Try.ntmps28
      go_wp2
      go_ret
      exact ⟨rfl, K.out⟩
    · have hl : (l.length : Int) < n := by
        unfold BadN at hbad
        rcases hbad with h | h | h
        · cases h
        · exact absurd h hn
        · exact h
      have hn0 : decide (n < 0) = false := by simpa using hn
      clear hbad hn
      go_enter Try.func28, Try.ntmps28
      go_wp2
      go_ret
      exact ⟨rfl, K.out⟩

theorem next_okO (lo hi h : Nat) (A : Option Addr) (l : List UInt8) (k : Nat) (w : World) (hr : RD 60 w lo hi h A l false) (hm : l.length ≤ 140737488355328) (hk : k ≤ l.length) :
    Calls Try.prog 28 #[.pointer (some ⟨h, 0, none⟩), .int .i64 (k : Int)] w fun e w' => e = .returned (.slice A k l.length) ∧ RD 60 w' lo hi h (cutA A k l.length) (l.drop k) false ∧ RB w' A lo h (l.take k) ∧ Below lo w w' ∧ Only h w w' := by
  have hc := hr.2.2.1.cell 0
  have hd := hr.2.2.1.cell 1
  have hf := hr.2.2.1.thaw 0
  simp at hc hd
  have K := Lib.hid (rd_nextO hr k hk)
  clear hr
  go_enter Try.func28, Try.ntmps28
  go_wp2
  · go_ret
    have g : l.length = k := by assumption
    have e : cutA A k l.length = A := by simp [cutA, g]
    have e' : cutA A k k = A := by simp [cutA]
    have q := K.out
    rw [show l.length - k = 0 by omega, e] at q
    rw [e']
    exact ⟨rfl, q⟩
  · go_ret
    have g : ¬ l.length = k := by assumption
    have e : cutA A k l.length = A.map (·.add k) := by simp [cutA, g]
    have q := K.out
    rw [e] at q
    rw [e]
    exact ⟨rfl, q⟩

theorem num_badO (lo hi h : Nat) (A : Option Addr) (l : List UInt8) (s : Bool) (n : Int) (w : World) (hr : RD 60 w lo hi h A l s) (hm : l.length ≤ 140737488355328) (h0 : -9223372036854775808 ≤ n) (h1 : n ≤ 9223372036854775807) (hbad : BadN s l.length n) :
    Calls Try.prog 22 #[.pointer (some ⟨h, 0, none⟩), .int .i64 n] w fun e w' => e = .returned (.int .u64 0) ∧ RD 60 w' lo hi h A l true ∧ Below lo w w' ∧ Only h w w' := by
  go_enter Try.func22, Try.ntmps22
  go_wp2_with (go_at_call 28; (with_reducible refine (next_badO lo hi h A l s n _ hr hm h0 h1 hbad).mono ?_); rintro e w1 ⟨rfl, hr1, hb1, hz⟩; have HZ := Lib.hid hz; clear hz)
  go_rounds 1
  go_ret
  exact ⟨rfl, hr1, hb1, HZ.out⟩

theorem num_okO (lo hi h : Nat) (A : Option Addr) (l : List UInt8) (k : Nat) (sz : Int) (hsz : Hid (sz = k)) (w : World) (hr : RD 60 w lo hi h A l false) (hm : l.length ≤ 140737488355328) (hk : k ≤ l.length) :
    Calls Try.prog 22 #[.pointer (some ⟨h, 0, none⟩), .int .i64 sz] w fun e w' => e = .returned (.int .u64 (numU (l.take k))) ∧ RD 60 w' lo hi h (cutA A k l.length) (l.drop k) false ∧ Below lo w w' ∧ Only h w w' := by
  obtain rfl := hsz.out
  clear hsz
  obtain ⟨x, hx⟩ : ∃ x, x = l.take k := ⟨_, rfl⟩
  have htk : x.length = k := by rw [hx]; simp; omega
  have HT := Lib.hid htk
  rw [← hx]
  have HX := Lib.hid hx
  clear htk hx
  go_enter Try.func22, Try.ntmps22
  go_wp2_with (go_at_call 28; (with_reducible refine (next_okO lo hi h A l k _ hr hm hk).mono ?_); rintro e w1 ⟨rfl, hr1, hrb1, hb1, hz⟩; rw [← HX.out] at hrb1; have HZ := Lib.hid hz; clear hz)
  go_loop [5, 12] (fun t i => ∃ j : Nat, j ≤ k ∧ i = .int .i64 j ∧ t = .int .u64 (numU (x.take j))) (fun _ i => k - (intOf i).toNat)
  case atStart => exact ⟨0, Nat.zero_le _, rfl, rfl⟩
  case round =>
    obtain ⟨j, hj, rfl, rfl⟩ := hrel
    obtain ⟨q0, q1⟩ := numU_lo (x.take j)
    by_cases hlt : j < k
    · have hjx : j < x.length := by rw [HT.out]; exact hlt
      obtain ⟨ad, rfl, g1, g2, hc⟩ := hrb1 (by omega)
      have hcell := hc j hjx
      unfold bc at hcell
      have HN := Lib.hid (numU_take x j hjx)
      obtain ⟨y, hy⟩ : ∃ y, y = numU (x.take j) := ⟨_, rfl⟩
      rw [← hy] at q0 q1 HN ⊢
      obtain ⟨b, hb⟩ : ∃ b : Int, b = (x[j].toNat : Int) := ⟨_, rfl⟩
      have hb0 : 0 ≤ b := by omega
      have hb2 : b < 256 := by have := x[j].toNat_lt; omega
      rw [← hb] at hcell HN
      have HB := Lib.hid hb
      have HY := Lib.hid hy
      clear hb hy hc
      go_wp2
      go_round
      case rel => exact ⟨j + 1, by omega, by go_num, by rw [or8w y b q0 q1 hb0 hb2, HN.out]⟩
      case measure => simp [intOf]; omega
    · obtain rfl : j = k := by omega
      go_wp2
      go_ret
      rw [List.take_of_length_le (by rw [HT.out]; omega)]
      exact ⟨rfl, hr1, hb1, HZ.out⟩

/-- A number read, whatever the reader's state: its value, what is left, whether the end came too soon. -/
def nV (l : List UInt8) (s : Bool) (k : Nat) : Int := if s = true ∨ l.length < k then 0 else numU (l.take k)
def nL (l : List UInt8) (s : Bool) (k : Nat) : List UInt8 := if s = true ∨ l.length < k then l else l.drop k
def nS (l : List UInt8) (s : Bool) (k : Nat) : Bool := if s = true ∨ l.length < k then true else false

/-- What 'Num' leaves. -/
def NumEnd (T : TypeId) (lo hi h : Nat) (v : Int) (l : List UInt8) (s : Bool) (w : World) (e : Ending) (w' : World) : Prop :=
  ∃ A', e = .returned (.int .u64 v) ∧ RD T w' lo hi h A' l s ∧ Below lo w w' ∧ Only h w w'

theorem num_any (lo hi h : Nat) (A : Option Addr) (l : List UInt8) (s : Bool) (k : Nat) (sz : Int) (hsz : Hid (sz = k)) (hk : k ≤ 1000) (w : World) (hr : RD 60 w lo hi h A l s) (hm : l.length ≤ 100000) :
    Calls Try.prog 22 #[.pointer (some ⟨h, 0, none⟩), .int .i64 sz] w (NumEnd 60 lo hi h (nV l s k) (nL l s k) (nS l s k) w) := by
  by_cases hc : s = true ∨ l.length < k
  · have hbad : BadN s l.length sz := by
      rw [hsz.out]
      rcases hc with h | h
      · exact .inl h
      · exact .inr (.inr (by omega))
    have hs := hsz.out
    have e1 : nV l s k = 0 := if_pos hc
    have e2 : nL l s k = l := if_pos hc
    have e3 : nS l s k = true := if_pos hc
    rw [e1, e2, e3]
    refine (num_badO lo hi h A l s sz w hr (by omega) (by omega) (by omega) hbad).mono ?_
    rintro e w' ⟨rfl, h1, h2, h3⟩
    exact ⟨_, rfl, h1, h2, h3⟩
  · have hs : s = false := by cases s; rfl; exact absurd (.inl rfl) hc
    have e1 : nV l s k = numU (l.take k) := if_neg hc
    have e2 : nL l s k = l.drop k := if_neg hc
    have e3 : nS l s k = false := if_neg hc
    rw [e1, e2, e3]
    subst hs
    refine (num_okO lo hi h A l k sz hsz w hr (by omega) (by omega)).mono ?_
    rintro e w' ⟨rfl, h1, h2, h3⟩
    exact ⟨_, rfl, h1, h2, h3⟩

theorem nL_len (l : List UInt8) (s : Bool) (k : Nat) : (nL l s k).length ≤ l.length := by
  unfold nL
  split
  · exact Nat.le_refl _
  · simp

theorem nV_lo (l : List UInt8) (s : Bool) (k : Nat) : 0 ≤ nV l s k ∧ nV l s k < 18446744073709551616 := by
  unfold nV
  split
  · omega
  · exact numU_lo _

end Go.Proofs.Ytgkamfnhohcfbaa
