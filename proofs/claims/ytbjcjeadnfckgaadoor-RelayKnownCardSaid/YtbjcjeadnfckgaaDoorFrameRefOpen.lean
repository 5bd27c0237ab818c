/- The document's Open: the same answer. -/
import Derived.Test.YtbjcjeadnfckgaaDoorFrameOpen
namespace Go.Proofs.YtbjcjeadnfckgaaDoor
set_option maxRecDepth 100000
open Go.ChangeShapes Go.WideShapes Go.ChangeAt Go.RowKit
set_option linter.unusedVariables false

/-- What the document's 'Open' leaves. -/
def RefOpenEnd (t k : Int) (A : Option Addr) (n c : Nat) (l : List UInt8) (w : World) (e : Ending) (w' : World) : Prop :=
  ((openB t k l = true ∧ 3 ≤ n ∧ e = .returned (.tuple #[.slice (cutA A 3 c) (n - 3) (c - 3), .int .i64 1])) ∨ (openB t k l = false ∧ e = .returned (.tuple #[.slice none 0 0, .int .i64 0]))) ∧ Below w.heap.size w w'

theorem refopen_any (t f k : Int) (A : Option Addr) (n c : Nat) (l : List UInt8) (hl : Hid (l.length = n)) (hn : n ≤ 10000) (h2 : 0 ≤ k) (h5 : k < 65536) (w : World) (hr : RB w A 0 w.heap.size l) :
    Calls Tryd.prog 19 #[.agg #[.int .u64 t, .int .u64 f, .int .u16 k, .slice A n c]] w (RefOpenEnd t k A n c l w) := by
  cases ht : t == 1652522221568
  · have ht' : (t != 1652522221568) = true := by simp [bne, ht]
    have hob : Hid (openB t k l = false) := by show _ = _; unfold openB; rw [ht]; rfl
    clear ht
    go_enter Tryd.func19, Tryd.ntmps19
    go_wp2
    go_ret2
    exact ⟨.inr ⟨hob.out, rfl⟩, below_new (Nat.le_refl _)⟩
  · have ht' : (t != 1652522221568) = false := by simp [bne, ht]
    by_cases hk : 1500 < k
    · have hob : Hid (openB t k l = false) := by show _ = _; unfold openB; rw [ht]; simp; omega
      clear ht
      go_enter Tryd.func19, Tryd.ntmps19
      go_wp2
      go_ret2
      exact ⟨.inr ⟨hob.out, rfl⟩, below_new (Nat.le_refl _)⟩
    · have dk : decide (1500 < k) = false := by simpa using hk
      have hob : Hid (openB t k l = (l.take 3 == [66, 66, 3])) := by show _ = _; unfold openB; rw [ht, show decide (k ≤ 1500) = true by simp; omega]; simp
      clear ht hk
      by_cases h3 : n < 3
      · have d3 : decide ((n : Int) < 3) = true := by simp; omega
        go_enter Tryd.func19, Tryd.ntmps19
        go_wp2
        go_ret2
        exact ⟨.inr ⟨by rw [hob.out]; exact short3 l (by rw [hl.out]; exact h3), rfl⟩, below_new (Nat.le_refl _)⟩
      · have d3 : decide ((n : Int) < 3) = false := by simp; omega
        obtain ⟨b0, b1, b2, tl, rfl⟩ : ∃ b0 b1 b2 tl, l = b0 :: b1 :: b2 :: tl := by
          have := hl.out
          match l, this with
          | [], e => simp at e; omega
          | [_], e => simp at e; omega
          | [_, _], e => simp at e; omega
          | b0 :: b1 :: b2 :: tl, _ => exact ⟨b0, b1, b2, tl, rfl⟩
        rw [first3] at hob
        obtain ⟨ad, rfl, p1, p2, hcs⟩ := hr (by simp)
        have x0 := hcs 0 (by simp)
        have x1 := hcs 1 (by simp)
        have x2 := hcs 2 (by simp)
        simp only [List.getElem_cons_zero, List.getElem_cons_succ, bc] at x0 x1 x2
        have hb : ∀ i, (w.alloc (.cells #[.int .u64 t, .int .u64 f, .int .u16 k, .slice (some ad) n c] 27)).cell? (ad.add i) = w.cell? (ad.add i) := fun i => (below_new (Nat.le_refl _)).cell (by rw [add_block]; exact p2)
        have z0 := (hb 0).trans x0
        have z1 := (hb 1).trans x1
        have z2 := (hb 2).trans x2
        have k0 : (0 : Int) < (n : Int) := by omega
        have k1 : (1 : Int) < (n : Int) := by omega
        have k2 : (2 : Int) < (n : Int) := by omega
        have k0' : 0 < n := by omega
        have k1' : 1 < n := by omega
        have k2' : 2 < n := by omega
        have s3 : ∀ w : World, (Instr.sliceAt 25 (.slice (some ad) n c) (some (.int .i64 3)) none none).run Tryd.prog w = .ok (.slice (cutA (some ad) 3 c) (n - 3) (c - 3)) w := scut_any _ n c 3 (by omega)
        have ea : ad.add 0 = ad := by unfold Addr.add; simp
        have e1 : ad.add 1 = ⟨ad.block, ad.off + 1, none⟩ := by unfold Addr.add; simp
        have e2 : ad.add 2 = ⟨ad.block, ad.off + 2, none⟩ := by unfold Addr.add; simp
        rw [ea] at x0 z0
        rw [e1] at x1 z1
        rw [e2] at x2 z2
        clear hb hcs hr ea e1 e2
        obtain ⟨v0, hv0⟩ : ∃ v : Int, v = (b0.toNat : Int) := ⟨_, rfl⟩
        obtain ⟨v1, hv1⟩ : ∃ v : Int, v = (b1.toNat : Int) := ⟨_, rfl⟩
        obtain ⟨v2, hv2⟩ : ∃ v : Int, v = (b2.toNat : Int) := ⟨_, rfl⟩
        rw [← hv0, ← hv1, ← hv2] at hob
        rw [← hv0] at z0 x0
        rw [← hv1] at z1 x1
        rw [← hv2] at z2 x2
        clear hv0 hv1 hv2
        cases q0 : v0 == 66
        · have q0' : (v0 != 66) = true := by simp [bne, q0]
          rw [q0] at hob
          clear q0
          go_enter Tryd.func19, Tryd.ntmps19
          go_wp2
          go_ret2
          exact ⟨.inr ⟨by rw [hob.out]; simp, rfl⟩, below_new (Nat.le_refl _)⟩
        · have q0' : (v0 != 66) = false := by simp [bne, q0]
          rw [q0] at hob
          clear q0
          cases q1 : v1 == 66
          · have q1' : (v1 != 66) = true := by simp [bne, q1]
            rw [q1] at hob
            clear q1
            go_enter Tryd.func19, Tryd.ntmps19
            go_wp2
            go_ret2
            exact ⟨.inr ⟨by rw [hob.out]; simp, rfl⟩, below_new (Nat.le_refl _)⟩
          · have q1' : (v1 != 66) = false := by simp [bne, q1]
            rw [q1] at hob
            clear q1
            cases q2 : v2 == 3
            · have q2' : (v2 != 3) = true := by simp [bne, q2]
              rw [q2] at hob
              clear q2
              go_enter Tryd.func19, Tryd.ntmps19
              go_wp2
              go_ret2
              exact ⟨.inr ⟨by rw [hob.out]; simp, rfl⟩, below_new (Nat.le_refl _)⟩
            · have q2' : (v2 != 3) = false := by simp [bne, q2]
              rw [q2] at hob
              clear q2
              go_enter Tryd.func19, Tryd.ntmps19
              go_wp2
              go_ret2
              exact ⟨.inl ⟨by rw [hob.out]; rfl, by omega, rfl⟩, below_new (Nat.le_refl _)⟩

end Go.Proofs.YtbjcjeadnfckgaaDoor
