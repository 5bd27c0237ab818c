/- The hash of an address: the program's, and the document's, for every number. -/
import Derived.Test.YthpjonedpemhkaaIdsSix
import Derived.Test.YthpjonedpemhkaaHashMath
namespace Go.Proofs.Ythpjonedpemhkaa
open Go.ChangeShapes Go.WideShapes Go.ChangeAt Go.RowKit
set_option linter.unusedVariables false

set_option maxRecDepth 100000 in
set_option maxHeartbeats 1000000 in
theorem hashof_any (a : Int) (hp0 : 0 ≤ a) (hp1 : a ≤ 18446744073709551615) (w : World) :
    Calls Try.prog 9 #[.int .u64 a] w fun e w' => e = .returned (.int .u32 (fnv a)) ∧ Below w.heap.size w w' := by
  obtain ⟨b0, e0⟩ : ∃ x, a / 1099511627776 % 256 = x := ⟨_, rfl⟩
  obtain ⟨b1, e1⟩ : ∃ x, a / 4294967296 % 256 = x := ⟨_, rfl⟩
  obtain ⟨b2, e2⟩ : ∃ x, a / 16777216 % 256 = x := ⟨_, rfl⟩
  obtain ⟨b3, e3⟩ : ∃ x, a / 65536 % 256 = x := ⟨_, rfl⟩
  obtain ⟨b4, e4⟩ : ∃ x, a / 256 % 256 = x := ⟨_, rfl⟩
  obtain ⟨b5, e5⟩ : ∃ x, a % 256 = x := ⟨_, rfl⟩
  have hput := put_any a hp0 hp1 w
  have hf : fnv a = fnv6 b0 b1 b2 b3 b4 b5 := by unfold fnv; rw [e0, e1, e2, e3, e4, e5]
  rw [hf]
  unfold six at hput
  rw [e0, e1, e2, e3, e4, e5] at hput
  have l0 : 0 ≤ b0 ∧ b0 ≤ 255 := by omega
  have l1 : 0 ≤ b1 ∧ b1 ≤ 255 := by omega
  have l2 : 0 ≤ b2 ∧ b2 ≤ 255 := by omega
  have l3 : 0 ≤ b3 ∧ b3 ≤ 255 := by omega
  have l4 : 0 ≤ b4 ∧ b4 ≤ 255 := by omega
  have l5 : 0 ≤ b5 ∧ b5 ≤ 255 := by omega
  have HP := Lib.hid hput
  clear e0 e1 e2 e3 e4 e5 hf hput
  go_enter Try.func9, Try.ntmps9
  go_wp2_with fail
  (with_reducible refine HP.out.mono ?_); rintro e w' ⟨rfl, rfl⟩
  clear HP
  go_wp2
  go_rounds 7
  go_ret
  refine ⟨ret_int ?_, (Below.refl _ _).alloc (Nat.le_refl _) _⟩
  unfold fnv6
  rw [xs32 2166136261 b0 (by omega) (by omega) l0.1 l0.2, xs32 _ b1 (fs_bd _ _).1 (fs_bd _ _).2 l1.1 l1.2, xs32 _ b2 (fs_bd _ _).1 (fs_bd _ _).2 l2.1 l2.2,
    xs32 _ b3 (fs_bd _ _).1 (fs_bd _ _).2 l3.1 l3.2, xs32 _ b4 (fs_bd _ _).1 (fs_bd _ _).2 l4.1 l4.2, xs32 _ b5 (fs_bd _ _).1 (fs_bd _ _).2 l5.1 l5.2]

/-- One step of the document's, under names. -/
theorem ref_step (h b : Int) (h0 : 0 ≤ h) (h1 : h ≤ 4294967295) (b0 : 0 ≤ b) (b1 : b ≤ 255) :
    ∃ x y : Int, bits .xor .u64 h b = x ∧ 0 ≤ x ∧ x ≤ 4294967295 ∧ (x * 256 * 65536 + x * 403) % 4294967296 = y ∧ 0 ≤ y ∧ y ≤ 4294967295 ∧ y = fs h b := by
  obtain ⟨p, q⟩ := fx_bd h b h0 h1 b0 b1
  obtain ⟨r, s⟩ := fs_bd h b
  exact ⟨_, _, xor64 h b h0 h1 b0 b1, p, q, fs_ref h b, r, s, rfl⟩

set_option maxRecDepth 100000 in
set_option maxHeartbeats 2000000 in
theorem refof_any (a : Int) (hp0 : 0 ≤ a) (hp1 : a ≤ 18446744073709551615) (w : World) :
    Calls Try.prog 8 #[.int .u64 a] w fun e w' => e = .returned (.int .u32 (fnv a)) ∧ Below w.heap.size w w' := by
  obtain ⟨b0, e0⟩ : ∃ x, a / 1099511627776 % 256 = x := ⟨_, rfl⟩
  obtain ⟨b1, e1⟩ : ∃ x, a / 4294967296 % 256 = x := ⟨_, rfl⟩
  obtain ⟨b2, e2⟩ : ∃ x, a / 16777216 % 256 = x := ⟨_, rfl⟩
  obtain ⟨b3, e3⟩ : ∃ x, a / 65536 % 256 = x := ⟨_, rfl⟩
  obtain ⟨b4, e4⟩ : ∃ x, a / 256 % 256 = x := ⟨_, rfl⟩
  obtain ⟨b5, e5⟩ : ∃ x, a % 256 = x := ⟨_, rfl⟩
  have hput := refput_any a hp0 hp1 w
  have hf : fnv a = fnv6 b0 b1 b2 b3 b4 b5 := by unfold fnv; rw [e0, e1, e2, e3, e4, e5]
  rw [hf]
  unfold six at hput
  rw [e0, e1, e2, e3, e4, e5] at hput
  have l0 : 0 ≤ b0 ∧ b0 ≤ 255 := by omega
  have l1 : 0 ≤ b1 ∧ b1 ≤ 255 := by omega
  have l2 : 0 ≤ b2 ∧ b2 ≤ 255 := by omega
  have l3 : 0 ≤ b3 ∧ b3 ≤ 255 := by omega
  have l4 : 0 ≤ b4 ∧ b4 ≤ 255 := by omega
  have l5 : 0 ≤ b5 ∧ b5 ≤ 255 := by omega
  have HP := Lib.hid hput
  clear e0 e1 e2 e3 e4 e5 hf hput
  obtain ⟨x0, y0, ex0, p0, q0, ey0, r0, s0, f0⟩ := ref_step 2166136261 b0 (by omega) (by omega) l0.1 l0.2
  obtain ⟨x1, y1, ex1, p1, q1, ey1, r1, s1, f1⟩ := ref_step y0 b1 r0 s0 l1.1 l1.2
  obtain ⟨x2, y2, ex2, p2, q2, ey2, r2, s2, f2⟩ := ref_step y1 b2 r1 s1 l2.1 l2.2
  obtain ⟨x3, y3, ex3, p3, q3, ey3, r3, s3, f3⟩ := ref_step y2 b3 r2 s2 l3.1 l3.2
  obtain ⟨x4, y4, ex4, p4, q4, ey4, r4, s4, f4⟩ := ref_step y3 b4 r3 s3 l4.1 l4.2
  obtain ⟨x5, y5, ex5, p5, q5, ey5, r5, s5, f5⟩ := ref_step y4 b5 r4 s4 l5.1 l5.2
  have HF : Hid (y5 = fnv6 b0 b1 b2 b3 b4 b5) := by unfold fnv6; rw [f5, f4, f3, f2, f1, f0]; exact Lib.hid rfl
  clear f0 f1 f2 f3 f4 f5
  go_enter Try.func8, Try.ntmps8
  go_wp2_with fail
  (with_reducible refine HP.out.mono ?_); rintro e w' ⟨rfl, rfl⟩
  clear HP
  go_wp2
  go_rounds 7
  go_ret
  exact ⟨ret_int HF.out, (Below.refl _ _).alloc (Nat.le_refl _) _⟩

end Go.Proofs.Ythpjonedpemhkaa
