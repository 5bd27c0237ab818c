/- The law BpduGets, walked: it answers true, whatever the bytes. -/
import Derived.Test.YtgkamfnhohcfbaaBpduFor
import Derived.Test.YtgkamfnhohcfbaaBpduPut
import Derived.Test.YtgkamfnhohcfbaaWireArg
import Derived.Laws.StructEq
namespace Go.Proofs.Ytgkamfnhohcfbaa
open Go.ChangeShapes Go.WideShapes Go.ChangeAt Go.RowKit
set_option linter.unusedVariables false

theorem eq_same (tc ch ak : Bool) (ro co br po ag ma he de : Int) (w : World) : (Op.equalIn 10000 28 (.agg #[.bool tc, .bool ch, .bool ak, .int .u64 ro, .int .u32 co, .int .u64 br, .int .u16 po, .int .u16 ag, .int .u16 ma, .int .u16 he, .int .u16 de]) (.agg #[.bool tc, .bool ch, .bool ak, .int .u64 ro, .int .u32 co, .int .u64 br, .int .u16 po, .int .u16 ag, .int .u16 ma, .int .u16 he, .int .u16 de])).run Try.prog w = .ok true w := by
  rw [show (10000 : Nat) = 9999 + 1 from rfl, run_equalIn_struct w 9999 28 _ _ (by kernel_rfl) (by kernel_rfl)]
  simp only [Program.fieldsOf, Try.underlying28]
  go_simp

theorem step_new {w w2 : World} (hb : Below w.heap.size w w2) (tc ch ak : Bool) (ro co br po ag ma he de : Int) :
    ∃ X u, X = w2.heap.size ∧ u = w2.alloc (.cells #[.bool tc, .bool ch, .bool ak, .int .u64 ro, .int .u32 co, .int .u64 br, .int .u16 po, .int .u16 ag, .int .u16 ma, .int .u16 he, .int .u16 de] 28) ∧ BB u X tc ch ak ro co br po ag ma he de ∧ Below w.heap.size w u ∧ X < u.heap.size ∧ Below w2.heap.size w2 u :=
  ⟨_, _, rfl, rfl, BB.new w2 tc ch ak ro co br po ag ma he de, hb.alloc hb.size _, by simp, below_new (Nat.le_refl _)⟩

set_option maxRecDepth 100000 in
set_option maxHeartbeats 2000000 in
theorem gets_few (A : Option Addr) (c : Nat) (l : List UInt8) (n : Nat) (hn : Hid (l.length = n)) (hm : n ≤ 2000) (hnc : n ≤ c) (b p : Int) (w : World) (hr : RB w A 0 w.heap.size l) :
    Calls Try.prog 4 #[.slice A n c, .int .u64 b, .int .u16 p] w fun e w' => e = .returned (.bool true) ∧ Below w.heap.size w w' := by
  have hd : decide (2000 < (n : Int)) = false := by simp; omega
  go_enter Try.func4, Try.ntmps4
  go_wp2_with fail
  (with_reducible refine (awake_any _).mono ?_); rintro e w1 ⟨rfl, hb⟩
  go_wp2_with fail
  (with_reducible refine (get_any A c l n hn (by omega) hnc _ (get_rb hr hb)).mono ?_); rintro e w2 ⟨rfl, hc2⟩
  have hb2 := hb.trans (hc2.mono hb.size)
  go_upto_region 4 with fail
  obtain ⟨X1, u1, hX, hu, B1, hb1, hs1, hn1⟩ := step_new hb2 (gTc l) (gCh l) (gAk l) (gRo l) (gCo l) (gBr l) (gPo l) (gAg l) (gMa l) (gHe l) (gDe l)
  rw [← hu, ← hX]
  clear hu hX hb hb2 hc2 hn1 w1
  go_wp2_with fail
  (with_reducible refine (refget_any A c l n hn (by omega) hnc _ (get_rb hr hb1)).mono ?_); rintro e w3 ⟨rfl, hc2⟩
  have hd2 := hb1.trans (hc2.mono hb1.size)
  go_upto_region 5 with fail
  obtain ⟨X2, u2, hX, hu, B2, hb2, hs2, hn2⟩ := step_new hd2 (gTc l) (gCh l) (gAk l) (gRo l) (gCo l) (gBr l) (gPo l) (gAg l) (gMa l) (gHe l) (gDe l)
  have hs1 := Nat.lt_of_lt_of_le hs1 hc2.size
  have B1 := (B1.below hc2 (by assumption)).below hn2 hs1
  have hs1 := Nat.lt_of_lt_of_le hs1 hn2.size
  rw [← hu, ← hX]
  clear hu hX hc2 hd2 hn2
  go_wp2_with fail
  (with_reducible refine (for_any A c l n hn (by omega) hnc b p _ (get_rb hr hb2)).mono ?_); rintro e w4 ⟨rfl, hc3⟩
  have hd3 := hb2.trans (hc3.mono hb2.size)
  go_upto_region 6 with fail
  obtain ⟨X3, u3, hX, hu, B3, hb3, hs3, hn3⟩ := step_new hd3 (fTc l b p) (fCh l b p) (fAk l b p) (fRo l b p) (fCo l b p) (fBr l b p) (fPo l b p) (fAg l b p) (fMa l b p) (fHe l b p) (fDe l b p)
  have hs1 := Nat.lt_of_lt_of_le hs1 hc3.size
  have B1 := (B1.below hc3 (by assumption)).below hn3 hs1
  have hs1 := Nat.lt_of_lt_of_le hs1 hn3.size
  have hs2 := Nat.lt_of_lt_of_le hs2 hc3.size
  have B2 := (B2.below hc3 (by assumption)).below hn3 hs2
  have hs2 := Nat.lt_of_lt_of_le hs2 hn3.size
  rw [← hu, ← hX]
  clear hu hX hc3 hd3 hn3
  go_wp2_with fail
  (with_reducible refine (reffor_any A c l n hn (by omega) hnc b p _ (get_rb hr hb3)).mono ?_); rintro e w5 ⟨rfl, hc4⟩
  have hd4 := hb3.trans (hc4.mono hb3.size)
  go_upto_region 7 with fail
  obtain ⟨X4, u4, hX, hu, B4, hb4, hs4, hn4⟩ := step_new hd4 (fTc l b p) (fCh l b p) (fAk l b p) (fRo l b p) (fCo l b p) (fBr l b p) (fPo l b p) (fAg l b p) (fMa l b p) (fHe l b p) (fDe l b p)
  have hs1 := Nat.lt_of_lt_of_le hs1 hc4.size
  have B1 := (B1.below hc4 (by assumption)).below hn4 hs1
  have hs1 := Nat.lt_of_lt_of_le hs1 hn4.size
  have hs2 := Nat.lt_of_lt_of_le hs2 hc4.size
  have B2 := (B2.below hc4 (by assumption)).below hn4 hs2
  have hs2 := Nat.lt_of_lt_of_le hs2 hn4.size
  have hs3 := Nat.lt_of_lt_of_le hs3 hc4.size
  have B3 := (B3.below hc4 (by assumption)).below hn4 hs3
  have hs3 := Nat.lt_of_lt_of_le hs3 hn4.size
  rw [← hu, ← hX]
  clear hu hX hc4 hd4 hn4
  obtain ⟨c0, c1, c2, c3, c4, c5, c6, c7, c8, c9, c10⟩ := B1.cells
  obtain ⟨d0, d1, d2, d3, d4, d5, d6, d7, d8, d9, d10⟩ := B2.cells
  obtain ⟨e0, e1, e2, e3, e4, e5, e6, e7, e8, e9, e10⟩ := B3.cells
  obtain ⟨f0, f1, f2, f3, f4, f5, f6, f7, f8, f9, f10⟩ := B4.cells
  have q1 : ∀ w : World, (Op.equalIn 10000 28 (.agg #[.bool (gTc l), .bool (gCh l), .bool (gAk l), .int .u64 (gRo l), .int .u32 (gCo l), .int .u64 (gBr l), .int .u16 (gPo l), .int .u16 (gAg l), .int .u16 (gMa l), .int .u16 (gHe l), .int .u16 (gDe l)]) (.agg #[.bool (gTc l), .bool (gCh l), .bool (gAk l), .int .u64 (gRo l), .int .u32 (gCo l), .int .u64 (gBr l), .int .u16 (gPo l), .int .u16 (gAg l), .int .u16 (gMa l), .int .u16 (gHe l), .int .u16 (gDe l)])).run Try.prog w = .ok true w := eq_same (gTc l) (gCh l) (gAk l) (gRo l) (gCo l) (gBr l) (gPo l) (gAg l) (gMa l) (gHe l) (gDe l)
  have q2 : ∀ w : World, (Op.equalIn 10000 28 (.agg #[.bool (fTc l b p), .bool (fCh l b p), .bool (fAk l b p), .int .u64 (fRo l b p), .int .u32 (fCo l b p), .int .u64 (fBr l b p), .int .u16 (fPo l b p), .int .u16 (fAg l b p), .int .u16 (fMa l b p), .int .u16 (fHe l b p), .int .u16 (fDe l b p)]) (.agg #[.bool (fTc l b p), .bool (fCh l b p), .bool (fAk l b p), .int .u64 (fRo l b p), .int .u32 (fCo l b p), .int .u64 (fBr l b p), .int .u16 (fPo l b p), .int .u16 (fAg l b p), .int .u16 (fMa l b p), .int .u16 (fHe l b p), .int .u16 (fDe l b p)])).run Try.prog w = .ok true w := eq_same (fTc l b p) (fCh l b p) (fAk l b p) (fRo l b p) (fCo l b p) (fBr l b p) (fPo l b p) (fAg l b p) (fMa l b p) (fHe l b p) (fDe l b p)
  go_wp2
  go_ret
  exact ⟨rfl, hb4⟩

theorem gets_many (A : Option Addr) (c : Nat) (n : Nat) (hm : 2000 < n) (hmx : n ≤ 9223372036854775807) (b p : Int) (w : World) :
    Calls Try.prog 4 #[.slice A n c, .int .u64 b, .int .u16 p] w fun e w' => e = .returned (.bool true) ∧ Below w.heap.size w w' := by
  have hd : decide (2000 < (n : Int)) = true := by simp; omega
  go_enter Try.func4, Try.ntmps4
  go_wp2_with fail
  (with_reducible refine (awake_any _).mono ?_); rintro e w1 ⟨rfl, hb⟩
  go_wp2_with fail
  (with_reducible refine (awake_any _).mono ?_); rintro e w2 ⟨rfl, hb2⟩
  go_wp2
  go_ret
  exact ⟨rfl, hb.trans (hb2.mono hb.size)⟩

theorem BpduGets_walk (a0 : Option Addr) (len0 cap0 : Nat) (z0 : List Int) (b p : Int) (w : World) (w0 : IsRow .u8 w a0 len0 cap0 z0) (_h1 : (Lit.int .u64 b).wf = true) (_h2 : (Lit.int .u16 p).wf = true) :
    Calls Try.prog 4 #[.slice a0 len0 cap0, .int .u64 b, .int .u16 p] w fun e w' => e = .returned (.bool true) ∧ Below w.heap.size w w' := by
  obtain ⟨l, hl, hr, hlc, hmx⟩ := bytes_in w0
  by_cases h : 2000 < len0
  · exact gets_many a0 cap0 len0 h hmx b p w
  · exact gets_few a0 cap0 l len0 hl (by omega) hlc b p w hr

end Go.Proofs.Ytgkamfnhohcfbaa
