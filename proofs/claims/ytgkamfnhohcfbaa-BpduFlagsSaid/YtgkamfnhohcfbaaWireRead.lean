/- The reader: a copy, a new reader, whether it is short, the next bytes. -/
import Derived.Test.YtgkamfnhohcfbaaWireMake
namespace Go.Proofs.Ytgkamfnhohcfbaa
open Go.ChangeShapes Go.WideShapes Go.ChangeAt Go.RowKit
set_option linter.unusedVariables false

theorem copyOf_any (A : Option Addr) (c : Nat) (l : List UInt8) (n lo hi : Nat) (hn : Hid (l.length = n)) (hm : n ≤ 140737488355328) (w : World) (hr : RB w A lo hi l) (hhi : hi ≤ w.heap.size) :
    Calls Try.prog 27 #[.slice A n c] w fun e w' => e = .returned (.slice (some ⟨w.heap.size, 0, none⟩) n n) ∧ Bk w' w.heap.size 5 (l.map bc) ∧ Below w.heap.size w w' := by
  have hmk := make_bytes n hm
  go_enter Try.func27, Try.ntmps27
  go_wp2_with (with_reducible refine wpList_copy_splice rfl (.tmp 7) (.tmp 8) 30 30 rfl 5 Try.underlying30 Try.sizeByte _ _ _ _ _ _ rfl rfl w.heap.size 0 (List.replicate n (Value.int .u8 0)) 5 (heap_alloc_new w _) (l.map bc) (len_min hn.out) (copy_src hr (below_new hhi) _) (fit_all hn.out) (one_bcs l) w.heap.size w (below_new (Nat.le_refl _)) (Nat.le_refl _) ?_; intro w' hg hb)
  go_ret
  refine ⟨rfl, ?_, hb⟩
  have h := hg.out
  rw [splice_all _ _ (by simp [hn.out])] at h
  exact h

theorem new_any (A : Option Addr) (c : Nat) (l : List UInt8) (n lo hi : Nat) (hn : Hid (l.length = n)) (hm : n ≤ 140737488355328) (w : World) (hr : RB w A lo hi l) (hhi : hi ≤ w.heap.size) :
    Calls Try.prog 21 #[.slice A n c] w fun e w' => ∃ h A', e = .returned (.pointer (some ⟨h, 0, none⟩)) ∧ RD 60 w' w.heap.size w'.heap.size h A' l false ∧ Below w.heap.size w w' := by
  go_enter Try.func21, Try.ntmps21
  go_wp2_with ((with_reducible refine (copyOf_any A c l n lo hi hn hm _ hr hhi).mono ?_); rintro e w1 ⟨rfl, HB, hb⟩)
  go_ret
  refine ⟨w1.heap.size, some ⟨w.heap.size, 0, none⟩, rfl, ⟨hb.size, by simp, ?_, ?_⟩, hb.alloc hb.size _⟩
  · rw [hn.out]; exact heap_alloc_new w1 _
  · exact (HB.rb w.heap.size w1.heap.size (Nat.le_refl _) HB.lt).below (below_new (Nat.le_refl _)) (Nat.le_refl _)

theorem short_any (lo hi h : Nat) (A : Option Addr) (l : List UInt8) (s : Bool) (w : World) (hr : RD 60 w lo hi h A l s) :
    Calls Try.prog 23 #[.pointer (some ⟨h, 0, none⟩)] w fun e w' => e = .returned (.bool s) ∧ w = w' := by
  have hc := hr.2.2.1.cell 1
  simp at hc
  go_enter Try.func23, Try.ntmps23
  go_wp2
  go_ret
  exact ⟨rfl, rfl⟩

/-- So many bytes can't be read. -/
def BadN (s : Bool) (len : Nat) (n : Int) : Prop := s = true ∨ n < 0 ∨ (len : Int) < n

theorem rd_short {T : TypeId} {w : World} {lo hi h : Nat} {A : Option Addr} {l : List UInt8} {s : Bool} (r : RD T w lo hi h A l s) :
    RD T (w.setCell ⟨h, 1, none⟩ (.bool true)) lo hi h A l true ∧ Below lo w (w.setCell ⟨h, 1, none⟩ (.bool true)) ∧ (w.setCell ⟨h, 1, none⟩ (.bool true)).heap.size = w.heap.size := by
  obtain ⟨h1, h2, h3, h4⟩ := r
  exact ⟨⟨h1, h2, h3.set 1 _, h4.set (.inr (Nat.le_refl _)) _⟩, (Below.refl _ _).setCell h1 _, by simp [World.setCell]⟩

theorem rd_next {T : TypeId} {w : World} {lo hi h : Nat} {A : Option Addr} {l : List UInt8} {s : Bool} (r : RD T w lo hi h A l s) (k : Nat) (hk : k ≤ l.length) :
    RD T (w.setCell ⟨h, 0, none⟩ (.slice (cutA A k l.length) (l.length - k) (l.length - k))) lo hi h (cutA A k l.length) (l.drop k) s ∧ RB (w.setCell ⟨h, 0, none⟩ (.slice (cutA A k l.length) (l.length - k) (l.length - k))) A lo h (l.take k) ∧
    Below lo w (w.setCell ⟨h, 0, none⟩ (.slice (cutA A k l.length) (l.length - k) (l.length - k))) ∧ (w.setCell ⟨h, 0, none⟩ (.slice (cutA A k l.length) (l.length - k) (l.length - k))).heap.size = w.heap.size := by
  obtain ⟨h1, h2, h3, h4⟩ := r
  refine ⟨⟨h1, h2, ?_, (h4.drop k l.length (Nat.le_refl _)).set (.inr (Nat.le_refl _)) _⟩, (h4.take k).set (.inr (Nat.le_refl _)) _, (Below.refl _ _).setCell h1 _, by simp [World.setCell]⟩
  rw [List.length_drop]
  exact h3.set 0 _

theorem next_bad (lo hi h : Nat) (A : Option Addr) (l : List UInt8) (s : Bool) (n : Int) (w : World) (hr : RD 60 w lo hi h A l s) (hm : l.length ≤ 140737488355328) (h0 : -9223372036854775808 ≤ n) (h1 : n ≤ 9223372036854775807) (hbad : BadN s l.length n) :
    Calls Try.prog 28 #[.pointer (some ⟨h, 0, none⟩), .int .i64 n] w fun e w' => e = .returned (.slice none 0 0) ∧ RD 60 w' lo hi h A l true ∧ Below lo w w' ∧ w'.heap.size = w.heap.size := by
  have hc := hr.2.2.1.cell 0
  have hd := hr.2.2.1.cell 1
  have hf := hr.2.2.1.thaw 1
  simp at hc hd
  have K := Lib.hid (rd_short hr)
  clear hr
  by_cases hs : s = true
  · subst hs
    go_enter Try.func28, Try.ntmps28
    go_wp2
    go_ret
    exact ⟨rfl, K.out⟩
  · have hs' : s = false := by simpa using hs
    subst hs'
    clear hs
    by_cases hn : n < 0
    · go_enter Try.func28, Try.ntmps28
      go_wp2
      go_ret
      exact ⟨rfl, K.out⟩
    · have hl : (l.length : Int) < n := by
        unfold BadN at hbad
        rcases hbad with h | h | h
        · cases h
        · exact absurd h hn
        · exact h
      have hn0 : decide (n < 0) = false := by simpa using hn
      clear hbad hn
      go_enter Try.func28, Try.ntmps28
      go_wp2
      go_ret
      exact ⟨rfl, K.out⟩

theorem next_ok (lo hi h : Nat) (A : Option Addr) (l : List UInt8) (k : Nat) (w : World) (hr : RD 60 w lo hi h A l false) (hm : l.length ≤ 140737488355328) (hk : k ≤ l.length) :
    Calls Try.prog 28 #[.pointer (some ⟨h, 0, none⟩), .int .i64 (k : Int)] w fun e w' => e = .returned (.slice A k l.length) ∧ RD 60 w' lo hi h (cutA A k l.length) (l.drop k) false ∧ RB w' A lo h (l.take k) ∧ Below lo w w' ∧ w'.heap.size = w.heap.size := by
  have hc := hr.2.2.1.cell 0
  have hd := hr.2.2.1.cell 1
  have hf := hr.2.2.1.thaw 0
  simp at hc hd
  have K := Lib.hid (rd_next hr k hk)
  clear hr
  go_enter Try.func28, Try.ntmps28
  go_wp2
  · go_ret
    have g : l.length = k := by assumption
    have e : cutA A k l.length = A := by simp [cutA, g]
    have e' : cutA A k k = A := by simp [cutA]
    have q := K.out
    rw [show l.length - k = 0 by omega, e] at q
    rw [e']
    exact ⟨rfl, q⟩
  · go_ret
    have g : ¬ l.length = k := by assumption
    have e : cutA A k l.length = A.map (·.add k) := by simp [cutA, g]
    have q := K.out
    rw [e] at q
    rw [e]
    exact ⟨rfl, q⟩

end Go.Proofs.Ytgkamfnhohcfbaa
