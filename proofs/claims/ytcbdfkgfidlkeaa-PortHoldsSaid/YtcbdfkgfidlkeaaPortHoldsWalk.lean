/- The law PortHolds, walked. -/
import Derived.Test.YtcbdfkgfidlkeaaPortFits
import Derived.Test.YtcbdfkgfidlkeaaLater
import Derived.Deep.DeepCutAuto
namespace Go.Proofs.Ytcbdfkgfidlkeaa
open Go.ChangeShapes Go.WideShapes Go.ChangeAt Go.RowKit
set_option linter.unusedVariables false

theorem holds_off (i k : Int) (on : Bool) (v : Vec) (p : Po) (o : Int) (w : World) (hf : fitsB p = false) :
    Calls Try.prog 4 #[.int .u16 i, .int .u32 k, .bool on, .agg #[.int .u64 v.r, .int .u32 v.c, .int .u64 v.b, .int .u16 v.p], .agg #[.int .u16 p.id, .int .i64 p.st, .int .u32 p.co, .int .u64 p.hr, .int .u32 p.hc, .int .u64 p.hb, .int .u16 p.hp, .bool p.ak, .bool p.pe, .bool p.ao, .int .i64 p.av, .bool p.yo, .int .i64 p.yv, .bool p.ho, .int .i64 p.hv], .int .u64 o] w fun e w' => e = .returned (.bool true) ∧ Below w.heap.size w w' := by
  have HA := fun W => Lib.hid (awake_port W)
  have HF := fun W => Lib.hid (fits_is p false (Lib.hid hf) W)
  clear hf
  obtain ⟨wb, hwb, S⟩ := hs_two w 28 32 [.int .u64 v.r, .int .u32 v.c, .int .u64 v.b, .int .u16 v.p] [.int .u16 p.id, .int .i64 p.st, .int .u32 p.co, .int .u64 p.hr, .int .u32 p.hc, .int .u64 p.hb, .int .u16 p.hp, .bool p.ak, .bool p.pe, .bool p.ao, .int .i64 p.av, .bool p.yo, .int .i64 p.yv, .bool p.ho, .int .i64 p.hv]
  go_enter Try.func4, Try.ntmps4
  go_upto_region 1 with fail
  clear hwb
  obtain ⟨X, hX⟩ : ∃ X, w.heap.size + 1 = X := ⟨_, rfl⟩
  rw [hX] at S ⊢
  go_wp2_with fail
  (with_reducible refine (HA _).out.mono ?_); rintro e w1 ⟨rfl, b1⟩
  have S1 := S.below b1
  clear S b1
  have hx := S1.bk 0 rfl
  go_wp2_with (first | (refine wpList_load_rowG (by kernel_rfl) 32 _ rfl X rfl _ _ (0, 0) _ hx Try.underlying32 rfl (by kernel_rfl) ?_) | fail)
  (with_reducible refine (HF _).out.mono ?_); rintro e w2 ⟨rfl, b2⟩
  have S2 := S1.below b2
  clear S1 b2
  go_wp2_with fail
  (with_reducible refine (HA _).out.mono ?_); rintro e w3 ⟨rfl, b3⟩
  have S3 := S2.below b3
  clear S2 b3
  go_wp2
  go_ret
  exact ⟨rfl, S3.old⟩

set_option maxRecDepth 100000 in
set_option maxHeartbeats 1000000 in
theorem holds_t (i k : Int) (v : Vec) (p : Po) (o : Int) (w : World) (hf : fitsB p = true) :
    Calls Try.prog 4 #[.int .u16 i, .int .u32 k, .bool true, .agg #[.int .u64 v.r, .int .u32 v.c, .int .u64 v.b, .int .u16 v.p], .agg #[.int .u16 p.id, .int .i64 p.st, .int .u32 p.co, .int .u64 p.hr, .int .u32 p.hc, .int .u64 p.hb, .int .u16 p.hp, .bool p.ak, .bool p.pe, .bool p.ao, .int .i64 p.av, .bool p.yo, .int .i64 p.yv, .bool p.ho, .int .i64 p.hv], .int .u64 o] w fun e w' => e = .returned (.bool true) ∧ Below w.heap.size w w' := by
  have HA := fun W => Lib.hid (awake_port W)
  have HF := fun W => Lib.hid (fits_is p true (Lib.hid hf) W)
  have HN := fun W => Lib.hid (new_is i k true v 1 (Lib.hid rfl) W)
  have HB := fun W => Lib.hid (become_is p v W)
  have HD := fun W => Lib.hid (desig_is { p with hr := v.r, hc := v.c, hb := v.b, hp := p.id } v.b true (Lib.hid (by simp)) W)
  have E1 := port_same ⟨i, 1, k, v.r, v.c, v.b, i, false, false, false, 0, false, 0, false, 0⟩
  have E2 := port_same { p with hr := v.r, hc := v.c, hb := v.b, hp := p.id }
  dsimp only at HD E1 E2
  obtain ⟨d, hd⟩ : ∃ d, (decide (p.hb = o) && decide (p.hp = p.id)) = d := ⟨_, rfl⟩
  have HO := fun W => Lib.hid (desig_is p o d (Lib.hid hd) W)
  have hd := Lib.hid hd
  clear hf
  obtain ⟨wb, hwb, S⟩ := hs_two w 28 32 [.int .u64 v.r, .int .u32 v.c, .int .u64 v.b, .int .u16 v.p] [.int .u16 p.id, .int .i64 p.st, .int .u32 p.co, .int .u64 p.hr, .int .u32 p.hc, .int .u64 p.hb, .int .u16 p.hp, .bool p.ak, .bool p.pe, .bool p.ao, .int .i64 p.av, .bool p.yo, .int .i64 p.yv, .bool p.ho, .int .i64 p.hv]
  go_enter Try.func4, Try.ntmps4
  go_upto_region 1 with fail
  clear hwb
  obtain ⟨V, hV⟩ : ∃ V, w.heap.size = V := ⟨_, rfl⟩
  rw [hV] at S ⊢
  obtain ⟨X, hX⟩ : ∃ X, V + 1 = X := ⟨_, rfl⟩
  rw [hX] at S ⊢
  clear hX
  go_wp2_with fail
  (with_reducible refine (HA _).out.mono ?_); rintro e w1 ⟨rfl, b1⟩
  have S1 := S.below b1
  clear S b1
  have hx := S1.bk 0 rfl
  go_wp2_with (first | (refine wpList_load_rowG (by kernel_rfl) 32 _ rfl X rfl _ _ (0, 0) _ hx Try.underlying32 rfl (by kernel_rfl) ?_) | fail)
  (with_reducible refine (HF _).out.mono ?_); rintro e w2 ⟨rfl, b2⟩
  have S2 := S1.below b2
  clear S1 b2
  clear hx HA HF
  have v0 := S2.cell 1 0 rfl rfl
  have v1 := S2.cell 1 1 rfl rfl
  have v2 := S2.cell 1 2 rfl rfl
  have v3 := S2.cell 1 3 rfl rfl
  go_upto_region 4 with (refine wpList_store_row rfl 28 _ _ rfl _ _ rfl rfl _ _ (heap_alloc_new _ _) (by kernel_rfl) (by kernel_rfl) (by kernel_rfl) ?_)
  rw [alloc_row]
  have S3 := S2.al rfl 28 [.int .u64 v.r, .int .u32 v.c, .int .u64 v.b, .int .u16 v.p]
  obtain ⟨U, hU⟩ : ∃ U, w2.heap.size = U := ⟨_, rfl⟩
  rw [hU] at S3 ⊢
  generalize w2.alloc (.cells #[.int .u64 v.r, .int .u32 v.c, .int .u64 v.b, .int .u16 v.p] 28) = w3 at S3 ⊢
  clear S2 hU v0 v1 v2 v3
  have u3 := S3.cell 0 3 rfl rfl
  have f3 := S3.thaw 0 3 rfl
  go_upto_region 5 with fail
  have S4 := S3.set 0 rfl 3 (.int .u16 i)
  simp only [List.set] at S4
  generalize w3.setCell ⟨U, 3, none⟩ (.int .u16 i) = w4 at S4 ⊢
  clear S3 u3 f3
  have v0 := S4.cell 2 0 rfl rfl
  have v1 := S4.cell 2 1 rfl rfl
  have v2 := S4.cell 2 2 rfl rfl
  have v3 := S4.cell 2 3 rfl rfl
  go_wp2_with fail
  (with_reducible refine (HN _).out.mono ?_); rintro e w5 ⟨rfl, b5⟩
  have S5 := S4.below b5
  clear S4 b5
  clear v0 v1 v2 v3 HN
  go_upto_region 6 with (refine wpList_store_row rfl 32 _ _ rfl _ _ rfl rfl _ _ (heap_alloc_new _ _) (by kernel_rfl) (by kernel_rfl) (by kernel_rfl) ?_)
  rw [alloc_row]
  have S6 := S5.al rfl 32 [.int .u16 i, .int .i64 1, .int .u32 k, .int .u64 v.r, .int .u32 v.c, .int .u64 v.b, .int .u16 i, .bool false, .bool false, .bool false, .int .i64 0, .bool false, .int .i64 0, .bool false, .int .i64 0]
  obtain ⟨N, hN⟩ : ∃ N, w5.heap.size = N := ⟨_, rfl⟩
  rw [hN] at S6 ⊢
  generalize w5.alloc (.cells #[.int .u16 i, .int .i64 1, .int .u32 k, .int .u64 v.r, .int .u32 v.c, .int .u64 v.b, .int .u16 i, .bool false, .bool false, .bool false, .int .i64 0, .bool false, .int .i64 0, .bool false, .int .i64 0] 32) = w6 at S6 ⊢
  clear S5 hN
  have u0 := S6.cell 1 0 rfl rfl
  have u1 := S6.cell 1 1 rfl rfl
  have u2 := S6.cell 1 2 rfl rfl
  have u3 := S6.cell 1 3 rfl rfl
  have v0 := S6.cell 3 0 rfl rfl
  have v1 := S6.cell 3 1 rfl rfl
  have v2 := S6.cell 3 2 rfl rfl
  have v3 := S6.cell 3 3 rfl rfl
  have hN := S6.bk 0 rfl
  have hx := S6.bk 2 rfl
  go_wp2_with (first | (refine wpList_load_row rfl 32 _ rfl N rfl _ _ (0, 0) _ hN Try.underlying32 rfl (by kernel_rfl) ?_) | (refine wpList_load_row rfl 32 _ rfl X rfl _ _ (0, 0) _ hx Try.underlying32 rfl (by kernel_rfl) ?_) | fail)
  (with_reducible refine (HB _).out.mono ?_); rintro e w7 ⟨rfl, b7⟩
  have S7 := S6.below b7
  clear S6 b7
  clear u0 u1 u2 u3 v0 v1 v2 v3 hN hx HB E1
  go_upto_region 12 with (refine wpList_store_row rfl 32 _ _ rfl _ _ rfl rfl _ _ (heap_alloc_new _ _) (by kernel_rfl) (by kernel_rfl) (by kernel_rfl) ?_)
  rw [alloc_row]
  have S8 := S7.al rfl 32 [.int .u16 p.id, .int .i64 p.st, .int .u32 p.co, .int .u64 v.r, .int .u32 v.c, .int .u64 v.b, .int .u16 p.id, .bool p.ak, .bool p.pe, .bool p.ao, .int .i64 p.av, .bool p.yo, .int .i64 p.yv, .bool p.ho, .int .i64 p.hv]
  obtain ⟨B, hB⟩ : ∃ B, w7.heap.size = B := ⟨_, rfl⟩
  rw [hB] at S8 ⊢
  generalize w7.alloc (.cells #[.int .u16 p.id, .int .i64 p.st, .int .u32 p.co, .int .u64 v.r, .int .u32 v.c, .int .u64 v.b, .int .u16 p.id, .bool p.ak, .bool p.pe, .bool p.ao, .int .i64 p.av, .bool p.yo, .int .i64 p.yv, .bool p.ho, .int .i64 p.hv] 32) = w8 at S8 ⊢
  clear S7 hB
  have hx := S8.bk 3 rfl
  go_upto_region 13 with (first | (refine wpList_load_row rfl 32 _ rfl X rfl _ _ (0, 0) _ hx Try.underlying32 rfl (by kernel_rfl) ?_) | (refine wpList_store_row rfl 32 _ _ rfl _ _ rfl rfl _ _ (heap_alloc_new _ _) (by kernel_rfl) (by kernel_rfl) (by kernel_rfl) ?_))
  rw [alloc_row]
  have S9 := S8.al rfl 32 [.int .u16 p.id, .int .i64 p.st, .int .u32 p.co, .int .u64 p.hr, .int .u32 p.hc, .int .u64 p.hb, .int .u16 p.hp, .bool p.ak, .bool p.pe, .bool p.ao, .int .i64 p.av, .bool p.yo, .int .i64 p.yv, .bool p.ho, .int .i64 p.hv]
  obtain ⟨Q, hQ⟩ : ∃ Q, w8.heap.size = Q := ⟨_, rfl⟩
  rw [hQ] at S9 ⊢
  generalize w8.alloc (.cells #[.int .u16 p.id, .int .i64 p.st, .int .u32 p.co, .int .u64 p.hr, .int .u32 p.hc, .int .u64 p.hb, .int .u16 p.hp, .bool p.ak, .bool p.pe, .bool p.ao, .int .i64 p.av, .bool p.yo, .int .i64 p.yv, .bool p.ho, .int .i64 p.hv] 32) = w9 at S9 ⊢
  clear S8 hQ
  clear hx
  have v0 := S9.cell 5 0 rfl rfl
  have v1 := S9.cell 5 1 rfl rfl
  have v2 := S9.cell 5 2 rfl rfl
  have v3 := S9.cell 5 3 rfl rfl
  have q3 := S9.cell 0 3 rfl rfl
  have q4 := S9.cell 0 4 rfl rfl
  have q5 := S9.cell 0 5 rfl rfl
  have q6 := S9.cell 0 6 rfl rfl
  have f3 := S9.thaw 0 3 rfl
  have f4 := S9.thaw 0 4 rfl
  have f5 := S9.thaw 0 5 rfl
  have f6 := S9.thaw 0 6 rfl
  go_upto_region 14 with fail
  have SA := (((S9.set 0 rfl 3 (.int .u64 v.r)).set 0 rfl 4 (.int .u32 v.c)).set 0 rfl 5 (.int .u64 v.b)).set 0 rfl 6 (.int .u16 v.p)
  simp only [List.set] at SA
  generalize (((w9.setCell ⟨Q, 3, none⟩ (.int .u64 v.r)).setCell ⟨Q, 4, none⟩ (.int .u32 v.c)).setCell ⟨Q, 5, none⟩ (.int .u64 v.b)).setCell ⟨Q, 6, none⟩ (.int .u16 v.p) = wa at SA ⊢
  clear S9 v0 v1 v2 v3 q3 q4 q5 q6 f3 f4 f5 f6
  have x0 := SA.cell 4 0 rfl rfl
  have q6 := SA.cell 0 6 rfl rfl
  have f6 := SA.thaw 0 6 rfl
  go_upto_region 15 with fail
  have SB := SA.set 0 rfl 6 (.int .u16 p.id)
  simp only [List.set] at SB
  generalize wa.setCell ⟨Q, 6, none⟩ (.int .u16 p.id) = wb at SB ⊢
  clear SA x0 q6 f6
  have v2 := SB.cell 5 2 rfl rfl
  have hB := SB.bk 1 rfl
  have hQ := SB.bk 0 rfl
  go_wp2_with (first | (refine wpList_load_rowG (by kernel_rfl) 32 _ rfl B rfl _ _ (0, 0) _ hB Try.underlying32 rfl (by kernel_rfl) ?_) | (refine wpList_load_rowG (by kernel_rfl) 32 _ rfl Q rfl _ _ (0, 0) _ hQ Try.underlying32 rfl (by kernel_rfl) ?_) | fail)
  (with_reducible refine (HD _).out.mono ?_); rintro e wc ⟨rfl, bc⟩
  have SC := SB.below bc
  clear SB bc
  clear v2 hB hQ HD E2
  go_upto_region 17 with fail
  have HX := fun q : LaterW wc => Lib.hid (HO q.w').out
  clear HO
  have hmx := mixedL
  have k0 := fun q : LaterW wc => (SC.below q.h).cell 4 0 rfl rfl
  have k1 := fun q : LaterW wc => (SC.below q.h).cell 4 1 rfl rfl
  have k2 := fun q : LaterW wc => (SC.below q.h).cell 4 2 rfl rfl
  have k3 := fun q : LaterW wc => (SC.below q.h).cell 4 3 rfl rfl
  have k4 := fun q : LaterW wc => (SC.below q.h).cell 4 4 rfl rfl
  have k5 := fun q : LaterW wc => (SC.below q.h).cell 4 5 rfl rfl
  have k6 := fun q : LaterW wc => (SC.below q.h).cell 4 6 rfl rfl
  have k7 := fun q : LaterW wc => (SC.below q.h).cell 4 7 rfl rfl
  have k8 := fun q : LaterW wc => (SC.below q.h).cell 4 8 rfl rfl
  have k9 := fun q : LaterW wc => (SC.below q.h).cell 4 9 rfl rfl
  have k10 := fun q : LaterW wc => (SC.below q.h).cell 4 10 rfl rfl
  have k11 := fun q : LaterW wc => (SC.below q.h).cell 4 11 rfl rfl
  have k12 := fun q : LaterW wc => (SC.below q.h).cell 4 12 rfl rfl
  have k13 := fun q : LaterW wc => (SC.below q.h).cell 4 13 rfl rfl
  have k14 := fun q : LaterW wc => (SC.below q.h).cell 4 14 rfl rfl
  by_cases h1 : p.hb = o
  · have e1 : (p.hb == o) = true := by simpa using h1
    by_cases h2 : p.hp = p.id
    · have e2 : (p.hp == p.id) = true := by simpa using h2
      have e3 : d = true := by rw [← hd.out, decide_eq_true h1, decide_eq_true h2]; rfl
      subst e3
      clear h1 h2 hd
      refine region_later hmx (by kernel_rfl) ?_
      repeat (go_big_quiet_step ((go_at_call 19; with_reducible exact Calls.later (HX _).out)))
      refine wpQuiet_nil ?_
      intro _ hw'
      obtain ⟨r, hw''⟩ := hw'
      subst hw''
      go_wp2
      go_ret
      exact ⟨rfl, (SC.below r.h).old⟩
    · have e2 : (p.hp == p.id) = false := by simpa using h2
      have e3 : d = false := by rw [← hd.out, decide_eq_false h2, Bool.and_false]
      subst e3
      clear h1 h2 hd
      refine region_later hmx (by kernel_rfl) ?_
      repeat (go_big_quiet_step ((go_at_call 19; with_reducible exact Calls.later (HX _).out)))
      refine wpQuiet_nil ?_
      intro _ hw'
      obtain ⟨r, hw''⟩ := hw'
      subst hw''
      go_wp2
      go_ret
      exact ⟨rfl, (SC.below r.h).old⟩
  · have e1 : (p.hb == o) = false := by simpa using h1
    have e3 : d = false := by rw [← hd.out, decide_eq_false h1, Bool.false_and]
    subst e3
    clear h1 hd
    refine region_later hmx (by kernel_rfl) ?_
    repeat (go_big_quiet_step ((go_at_call 19; with_reducible exact Calls.later (HX _).out)))
    refine wpQuiet_nil ?_
    intro _ hw'
    obtain ⟨r, hw''⟩ := hw'
    subst hw''
    go_wp2
    go_ret
    exact ⟨rfl, (SC.below r.h).old⟩

set_option maxRecDepth 100000 in
set_option maxHeartbeats 1000000 in
theorem holds_f (i k : Int) (v : Vec) (p : Po) (o : Int) (w : World) (hf : fitsB p = true) :
    Calls Try.prog 4 #[.int .u16 i, .int .u32 k, .bool false, .agg #[.int .u64 v.r, .int .u32 v.c, .int .u64 v.b, .int .u16 v.p], .agg #[.int .u16 p.id, .int .i64 p.st, .int .u32 p.co, .int .u64 p.hr, .int .u32 p.hc, .int .u64 p.hb, .int .u16 p.hp, .bool p.ak, .bool p.pe, .bool p.ao, .int .i64 p.av, .bool p.yo, .int .i64 p.yv, .bool p.ho, .int .i64 p.hv], .int .u64 o] w fun e w' => e = .returned (.bool true) ∧ Below w.heap.size w w' := by
  have HA := fun W => Lib.hid (awake_port W)
  have HF := fun W => Lib.hid (fits_is p true (Lib.hid hf) W)
  have HN := fun W => Lib.hid (new_is i k false v 0 (Lib.hid rfl) W)
  have HB := fun W => Lib.hid (become_is p v W)
  have HD := fun W => Lib.hid (desig_is { p with hr := v.r, hc := v.c, hb := v.b, hp := p.id } v.b true (Lib.hid (by simp)) W)
  have E1 := port_same ⟨i, 0, k, v.r, v.c, v.b, i, false, false, false, 0, false, 0, false, 0⟩
  have E2 := port_same { p with hr := v.r, hc := v.c, hb := v.b, hp := p.id }
  dsimp only at HD E1 E2
  obtain ⟨d, hd⟩ : ∃ d, (decide (p.hb = o) && decide (p.hp = p.id)) = d := ⟨_, rfl⟩
  have HO := fun W => Lib.hid (desig_is p o d (Lib.hid hd) W)
  have hd := Lib.hid hd
  clear hf
  obtain ⟨wb, hwb, S⟩ := hs_two w 28 32 [.int .u64 v.r, .int .u32 v.c, .int .u64 v.b, .int .u16 v.p] [.int .u16 p.id, .int .i64 p.st, .int .u32 p.co, .int .u64 p.hr, .int .u32 p.hc, .int .u64 p.hb, .int .u16 p.hp, .bool p.ak, .bool p.pe, .bool p.ao, .int .i64 p.av, .bool p.yo, .int .i64 p.yv, .bool p.ho, .int .i64 p.hv]
  go_enter Try.func4, Try.ntmps4
  go_upto_region 1 with fail
  clear hwb
  obtain ⟨V, hV⟩ : ∃ V, w.heap.size = V := ⟨_, rfl⟩
  rw [hV] at S ⊢
  obtain ⟨X, hX⟩ : ∃ X, V + 1 = X := ⟨_, rfl⟩
  rw [hX] at S ⊢
  clear hX
  go_wp2_with fail
  (with_reducible refine (HA _).out.mono ?_); rintro e w1 ⟨rfl, b1⟩
  have S1 := S.below b1
  clear S b1
  have hx := S1.bk 0 rfl
  go_wp2_with (first | (refine wpList_load_rowG (by kernel_rfl) 32 _ rfl X rfl _ _ (0, 0) _ hx Try.underlying32 rfl (by kernel_rfl) ?_) | fail)
  (with_reducible refine (HF _).out.mono ?_); rintro e w2 ⟨rfl, b2⟩
  have S2 := S1.below b2
  clear S1 b2
  clear hx HA HF
  have v0 := S2.cell 1 0 rfl rfl
  have v1 := S2.cell 1 1 rfl rfl
  have v2 := S2.cell 1 2 rfl rfl
  have v3 := S2.cell 1 3 rfl rfl
  go_upto_region 4 with (refine wpList_store_row rfl 28 _ _ rfl _ _ rfl rfl _ _ (heap_alloc_new _ _) (by kernel_rfl) (by kernel_rfl) (by kernel_rfl) ?_)
  rw [alloc_row]
  have S3 := S2.al rfl 28 [.int .u64 v.r, .int .u32 v.c, .int .u64 v.b, .int .u16 v.p]
  obtain ⟨U, hU⟩ : ∃ U, w2.heap.size = U := ⟨_, rfl⟩
  rw [hU] at S3 ⊢
  generalize w2.alloc (.cells #[.int .u64 v.r, .int .u32 v.c, .int .u64 v.b, .int .u16 v.p] 28) = w3 at S3 ⊢
  clear S2 hU v0 v1 v2 v3
  have u3 := S3.cell 0 3 rfl rfl
  have f3 := S3.thaw 0 3 rfl
  go_upto_region 5 with fail
  have S4 := S3.set 0 rfl 3 (.int .u16 i)
  simp only [List.set] at S4
  generalize w3.setCell ⟨U, 3, none⟩ (.int .u16 i) = w4 at S4 ⊢
  clear S3 u3 f3
  have v0 := S4.cell 2 0 rfl rfl
  have v1 := S4.cell 2 1 rfl rfl
  have v2 := S4.cell 2 2 rfl rfl
  have v3 := S4.cell 2 3 rfl rfl
  go_wp2_with fail
  (with_reducible refine (HN _).out.mono ?_); rintro e w5 ⟨rfl, b5⟩
  have S5 := S4.below b5
  clear S4 b5
  clear v0 v1 v2 v3 HN
  go_upto_region 6 with (refine wpList_store_row rfl 32 _ _ rfl _ _ rfl rfl _ _ (heap_alloc_new _ _) (by kernel_rfl) (by kernel_rfl) (by kernel_rfl) ?_)
  rw [alloc_row]
  have S6 := S5.al rfl 32 [.int .u16 i, .int .i64 0, .int .u32 k, .int .u64 v.r, .int .u32 v.c, .int .u64 v.b, .int .u16 i, .bool false, .bool false, .bool false, .int .i64 0, .bool false, .int .i64 0, .bool false, .int .i64 0]
  obtain ⟨N, hN⟩ : ∃ N, w5.heap.size = N := ⟨_, rfl⟩
  rw [hN] at S6 ⊢
  generalize w5.alloc (.cells #[.int .u16 i, .int .i64 0, .int .u32 k, .int .u64 v.r, .int .u32 v.c, .int .u64 v.b, .int .u16 i, .bool false, .bool false, .bool false, .int .i64 0, .bool false, .int .i64 0, .bool false, .int .i64 0] 32) = w6 at S6 ⊢
  clear S5 hN
  have u0 := S6.cell 1 0 rfl rfl
  have u1 := S6.cell 1 1 rfl rfl
  have u2 := S6.cell 1 2 rfl rfl
  have u3 := S6.cell 1 3 rfl rfl
  have v0 := S6.cell 3 0 rfl rfl
  have v1 := S6.cell 3 1 rfl rfl
  have v2 := S6.cell 3 2 rfl rfl
  have v3 := S6.cell 3 3 rfl rfl
  have hN := S6.bk 0 rfl
  have hx := S6.bk 2 rfl
  go_wp2_with (first | (refine wpList_load_row rfl 32 _ rfl N rfl _ _ (0, 0) _ hN Try.underlying32 rfl (by kernel_rfl) ?_) | (refine wpList_load_row rfl 32 _ rfl X rfl _ _ (0, 0) _ hx Try.underlying32 rfl (by kernel_rfl) ?_) | fail)
  (with_reducible refine (HB _).out.mono ?_); rintro e w7 ⟨rfl, b7⟩
  have S7 := S6.below b7
  clear S6 b7
  clear u0 u1 u2 u3 v0 v1 v2 v3 hN hx HB E1
  go_upto_region 12 with (refine wpList_store_row rfl 32 _ _ rfl _ _ rfl rfl _ _ (heap_alloc_new _ _) (by kernel_rfl) (by kernel_rfl) (by kernel_rfl) ?_)
  rw [alloc_row]
  have S8 := S7.al rfl 32 [.int .u16 p.id, .int .i64 p.st, .int .u32 p.co, .int .u64 v.r, .int .u32 v.c, .int .u64 v.b, .int .u16 p.id, .bool p.ak, .bool p.pe, .bool p.ao, .int .i64 p.av, .bool p.yo, .int .i64 p.yv, .bool p.ho, .int .i64 p.hv]
  obtain ⟨B, hB⟩ : ∃ B, w7.heap.size = B := ⟨_, rfl⟩
  rw [hB] at S8 ⊢
  generalize w7.alloc (.cells #[.int .u16 p.id, .int .i64 p.st, .int .u32 p.co, .int .u64 v.r, .int .u32 v.c, .int .u64 v.b, .int .u16 p.id, .bool p.ak, .bool p.pe, .bool p.ao, .int .i64 p.av, .bool p.yo, .int .i64 p.yv, .bool p.ho, .int .i64 p.hv] 32) = w8 at S8 ⊢
  clear S7 hB
  have hx := S8.bk 3 rfl
  go_upto_region 13 with (first | (refine wpList_load_row rfl 32 _ rfl X rfl _ _ (0, 0) _ hx Try.underlying32 rfl (by kernel_rfl) ?_) | (refine wpList_store_row rfl 32 _ _ rfl _ _ rfl rfl _ _ (heap_alloc_new _ _) (by kernel_rfl) (by kernel_rfl) (by kernel_rfl) ?_))
  rw [alloc_row]
  have S9 := S8.al rfl 32 [.int .u16 p.id, .int .i64 p.st, .int .u32 p.co, .int .u64 p.hr, .int .u32 p.hc, .int .u64 p.hb, .int .u16 p.hp, .bool p.ak, .bool p.pe, .bool p.ao, .int .i64 p.av, .bool p.yo, .int .i64 p.yv, .bool p.ho, .int .i64 p.hv]
  obtain ⟨Q, hQ⟩ : ∃ Q, w8.heap.size = Q := ⟨_, rfl⟩
  rw [hQ] at S9 ⊢
  generalize w8.alloc (.cells #[.int .u16 p.id, .int .i64 p.st, .int .u32 p.co, .int .u64 p.hr, .int .u32 p.hc, .int .u64 p.hb, .int .u16 p.hp, .bool p.ak, .bool p.pe, .bool p.ao, .int .i64 p.av, .bool p.yo, .int .i64 p.yv, .bool p.ho, .int .i64 p.hv] 32) = w9 at S9 ⊢
  clear S8 hQ
  clear hx
  have v0 := S9.cell 5 0 rfl rfl
  have v1 := S9.cell 5 1 rfl rfl
  have v2 := S9.cell 5 2 rfl rfl
  have v3 := S9.cell 5 3 rfl rfl
  have q3 := S9.cell 0 3 rfl rfl
  have q4 := S9.cell 0 4 rfl rfl
  have q5 := S9.cell 0 5 rfl rfl
  have q6 := S9.cell 0 6 rfl rfl
  have f3 := S9.thaw 0 3 rfl
  have f4 := S9.thaw 0 4 rfl
  have f5 := S9.thaw 0 5 rfl
  have f6 := S9.thaw 0 6 rfl
  go_upto_region 14 with fail
  have SA := (((S9.set 0 rfl 3 (.int .u64 v.r)).set 0 rfl 4 (.int .u32 v.c)).set 0 rfl 5 (.int .u64 v.b)).set 0 rfl 6 (.int .u16 v.p)
  simp only [List.set] at SA
  generalize (((w9.setCell ⟨Q, 3, none⟩ (.int .u64 v.r)).setCell ⟨Q, 4, none⟩ (.int .u32 v.c)).setCell ⟨Q, 5, none⟩ (.int .u64 v.b)).setCell ⟨Q, 6, none⟩ (.int .u16 v.p) = wa at SA ⊢
  clear S9 v0 v1 v2 v3 q3 q4 q5 q6 f3 f4 f5 f6
  have x0 := SA.cell 4 0 rfl rfl
  have q6 := SA.cell 0 6 rfl rfl
  have f6 := SA.thaw 0 6 rfl
  go_upto_region 15 with fail
  have SB := SA.set 0 rfl 6 (.int .u16 p.id)
  simp only [List.set] at SB
  generalize wa.setCell ⟨Q, 6, none⟩ (.int .u16 p.id) = wb at SB ⊢
  clear SA x0 q6 f6
  have v2 := SB.cell 5 2 rfl rfl
  have hB := SB.bk 1 rfl
  have hQ := SB.bk 0 rfl
  go_wp2_with (first | (refine wpList_load_rowG (by kernel_rfl) 32 _ rfl B rfl _ _ (0, 0) _ hB Try.underlying32 rfl (by kernel_rfl) ?_) | (refine wpList_load_rowG (by kernel_rfl) 32 _ rfl Q rfl _ _ (0, 0) _ hQ Try.underlying32 rfl (by kernel_rfl) ?_) | fail)
  (with_reducible refine (HD _).out.mono ?_); rintro e wc ⟨rfl, bc⟩
  have SC := SB.below bc
  clear SB bc
  clear v2 hB hQ HD E2
  go_upto_region 17 with fail
  have HX := fun q : LaterW wc => Lib.hid (HO q.w').out
  clear HO
  have hmx := mixedL
  have k0 := fun q : LaterW wc => (SC.below q.h).cell 4 0 rfl rfl
  have k1 := fun q : LaterW wc => (SC.below q.h).cell 4 1 rfl rfl
  have k2 := fun q : LaterW wc => (SC.below q.h).cell 4 2 rfl rfl
  have k3 := fun q : LaterW wc => (SC.below q.h).cell 4 3 rfl rfl
  have k4 := fun q : LaterW wc => (SC.below q.h).cell 4 4 rfl rfl
  have k5 := fun q : LaterW wc => (SC.below q.h).cell 4 5 rfl rfl
  have k6 := fun q : LaterW wc => (SC.below q.h).cell 4 6 rfl rfl
  have k7 := fun q : LaterW wc => (SC.below q.h).cell 4 7 rfl rfl
  have k8 := fun q : LaterW wc => (SC.below q.h).cell 4 8 rfl rfl
  have k9 := fun q : LaterW wc => (SC.below q.h).cell 4 9 rfl rfl
  have k10 := fun q : LaterW wc => (SC.below q.h).cell 4 10 rfl rfl
  have k11 := fun q : LaterW wc => (SC.below q.h).cell 4 11 rfl rfl
  have k12 := fun q : LaterW wc => (SC.below q.h).cell 4 12 rfl rfl
  have k13 := fun q : LaterW wc => (SC.below q.h).cell 4 13 rfl rfl
  have k14 := fun q : LaterW wc => (SC.below q.h).cell 4 14 rfl rfl
  by_cases h1 : p.hb = o
  · have e1 : (p.hb == o) = true := by simpa using h1
    by_cases h2 : p.hp = p.id
    · have e2 : (p.hp == p.id) = true := by simpa using h2
      have e3 : d = true := by rw [← hd.out, decide_eq_true h1, decide_eq_true h2]; rfl
      subst e3
      clear h1 h2 hd
      refine region_later hmx (by kernel_rfl) ?_
      repeat (go_big_quiet_step ((go_at_call 19; with_reducible exact Calls.later (HX _).out)))
      refine wpQuiet_nil ?_
      intro _ hw'
      obtain ⟨r, hw''⟩ := hw'
      subst hw''
      go_wp2
      go_ret
      exact ⟨rfl, (SC.below r.h).old⟩
    · have e2 : (p.hp == p.id) = false := by simpa using h2
      have e3 : d = false := by rw [← hd.out, decide_eq_false h2, Bool.and_false]
      subst e3
      clear h1 h2 hd
      refine region_later hmx (by kernel_rfl) ?_
      repeat (go_big_quiet_step ((go_at_call 19; with_reducible exact Calls.later (HX _).out)))
      refine wpQuiet_nil ?_
      intro _ hw'
      obtain ⟨r, hw''⟩ := hw'
      subst hw''
      go_wp2
      go_ret
      exact ⟨rfl, (SC.below r.h).old⟩
  · have e1 : (p.hb == o) = false := by simpa using h1
    have e3 : d = false := by rw [← hd.out, decide_eq_false h1, Bool.false_and]
    subst e3
    clear h1 hd
    refine region_later hmx (by kernel_rfl) ?_
    repeat (go_big_quiet_step ((go_at_call 19; with_reducible exact Calls.later (HX _).out)))
    refine wpQuiet_nil ?_
    intro _ hw'
    obtain ⟨r, hw''⟩ := hw'
    subst hw''
    go_wp2
    go_ret
    exact ⟨rfl, (SC.below r.h).old⟩

theorem PortHolds_walk (i k : Int) (on : Bool) (v : Vec) (p : Po) (o : Int) (w : World) :
    Calls Try.prog 4 #[.int .u16 i, .int .u32 k, .bool on, .agg #[.int .u64 v.r, .int .u32 v.c, .int .u64 v.b, .int .u16 v.p], .agg #[.int .u16 p.id, .int .i64 p.st, .int .u32 p.co, .int .u64 p.hr, .int .u32 p.hc, .int .u64 p.hb, .int .u16 p.hp, .bool p.ak, .bool p.pe, .bool p.ao, .int .i64 p.av, .bool p.yo, .int .i64 p.yv, .bool p.ho, .int .i64 p.hv], .int .u64 o] w fun e w' => e = .returned (.bool true) ∧ Below w.heap.size w w' := by
  cases hf : fitsB p with
  | false => exact holds_off i k on v p o w hf
  | true =>
    cases on with
    | false => exact holds_f i k v p o w hf
    | true => exact holds_t i k v p o w hf

end Go.Proofs.Ytcbdfkgfidlkeaa
