/- The law PortBlocks, walked. -/
import Derived.Test.YtcbdfkgfidlkeaaPortFits
import Derived.Test.YtcbdfkgfidlkeaaTimerEq
import Derived.Test.YtcbdfkgfidlkeaaLater
import Derived.Deep.DeepCutAuto
namespace Go.Proofs.Ytcbdfkgfidlkeaa
open Go.ChangeShapes Go.WideShapes Go.ChangeAt Go.RowKit
set_option linter.unusedVariables false

theorem block_any (p : Po) (h : ¬ p.st = 0) : ∃ (b : Po) (l : Bool), blockP p = ({ b with st := 1 }, l) := by
  unfold blockP
  by_cases c : p.st = 1
  · exact ⟨p, false, by rw [if_pos (.inr c)]; cases p; simp_all⟩
  · exact ⟨{ p with st := 1, yo := false, yv := 0 }, learnsB p.st, by rw [if_neg (fun e => e.elim h c)]⟩

set_option maxRecDepth 100000 in
set_option maxHeartbeats 1000000 in
theorem PortBlocks_walk (p : Po) (w : World) :
    Calls Try.prog 6 #[.agg #[.int .u16 p.id, .int .i64 p.st, .int .u32 p.co, .int .u64 p.hr, .int .u32 p.hc, .int .u64 p.hb, .int .u16 p.hp, .bool p.ak, .bool p.pe, .bool p.ao, .int .i64 p.av, .bool p.yo, .int .i64 p.yv, .bool p.ho, .int .i64 p.hv]] w fun e w' => e = .returned (.bool true) ∧ Below w.heap.size w w' := by
  have HA := fun W => Lib.hid (awake_port W)
  obtain ⟨q, hq⟩ : ∃ q, fitsB p = q := ⟨_, rfl⟩
  have HF := fun W => Lib.hid (fits_is p q (Lib.hid hq) W)
  clear hq
  obtain ⟨wb, hwb, S⟩ := hs_one w 32 [.int .u16 p.id, .int .i64 p.st, .int .u32 p.co, .int .u64 p.hr, .int .u32 p.hc, .int .u64 p.hb, .int .u16 p.hp, .bool p.ak, .bool p.pe, .bool p.ao, .int .i64 p.av, .bool p.yo, .int .i64 p.yv, .bool p.ho, .int .i64 p.hv]
  cases q with
  | false =>
    go_enter Try.func6, Try.ntmps6
    go_upto_region 1 with fail
    clear hwb
    obtain ⟨X, hX⟩ : ∃ X, w.heap.size = X := ⟨_, rfl⟩
    rw [hX] at S ⊢
    go_wp2_with fail
    (with_reducible refine (HA _).out.mono ?_); rintro e w1 ⟨rfl, b1⟩
    have S1 := S.below b1
    clear S b1
    have hx := S1.bk 0 rfl
    go_wp2_with (first | (refine wpList_load_rowG (by kernel_rfl) 32 _ rfl X rfl _ _ (0, 0) _ hx Try.underlying32 rfl (by kernel_rfl) ?_) | fail)
    (with_reducible refine (HF _).out.mono ?_); rintro e w2 ⟨rfl, b2⟩
    have S2 := S1.below b2
    clear S1 b2
    go_wp2_with fail
    (with_reducible refine (HA _).out.mono ?_); rintro e w3 ⟨rfl, b3⟩
    have S3 := S2.below b3
    clear S2 b3
    go_wp2
    go_ret
    exact ⟨rfl, S3.old⟩
  | true =>
  by_cases g0 : p.st < 0
  · go_enter Try.func6, Try.ntmps6
    go_upto_region 1 with fail
    clear hwb
    obtain ⟨X, hX⟩ : ∃ X, w.heap.size = X := ⟨_, rfl⟩
    rw [hX] at S ⊢
    go_wp2_with fail
    (with_reducible refine (HA _).out.mono ?_); rintro e w1 ⟨rfl, b1⟩
    have S1 := S.below b1
    clear S b1
    have hx := S1.bk 0 rfl
    go_wp2_with (first | (refine wpList_load_rowG (by kernel_rfl) 32 _ rfl X rfl _ _ (0, 0) _ hx Try.underlying32 rfl (by kernel_rfl) ?_) | fail)
    (with_reducible refine (HF _).out.mono ?_); rintro e w2 ⟨rfl, b2⟩
    have S2 := S1.below b2
    clear S1 b2
    have c1 := S2.cell 0 1 rfl rfl
    go_wp2_with fail
    (with_reducible refine (HA _).out.mono ?_); rintro e w3 ⟨rfl, b3⟩
    have S3 := S2.below b3
    clear S2 b3
    go_wp2
    go_ret
    exact ⟨rfl, S3.old⟩
  by_cases g1 : 4 < p.st
  · go_enter Try.func6, Try.ntmps6
    go_upto_region 1 with fail
    clear hwb
    obtain ⟨X, hX⟩ : ∃ X, w.heap.size = X := ⟨_, rfl⟩
    rw [hX] at S ⊢
    go_wp2_with fail
    (with_reducible refine (HA _).out.mono ?_); rintro e w1 ⟨rfl, b1⟩
    have S1 := S.below b1
    clear S b1
    have hx := S1.bk 0 rfl
    go_wp2_with (first | (refine wpList_load_rowG (by kernel_rfl) 32 _ rfl X rfl _ _ (0, 0) _ hx Try.underlying32 rfl (by kernel_rfl) ?_) | fail)
    (with_reducible refine (HF _).out.mono ?_); rintro e w2 ⟨rfl, b2⟩
    have S2 := S1.below b2
    clear S1 b2
    have c1 := S2.cell 0 1 rfl rfl
    go_wp2_with fail
    (with_reducible refine (HA _).out.mono ?_); rintro e w3 ⟨rfl, b3⟩
    have S3 := S2.below b3
    clear S2 b3
    go_wp2
    go_ret
    exact ⟨rfl, S3.old⟩
  by_cases z0 : p.st = 0
  · have HB := fun W => Lib.hid (block_0 p W)
    have E := port_same { p with st := 0 }
    dsimp only at E
    rw [z0] at g0 g1 HF S hwb ⊢
    clear z0
    go_enter Try.func6, Try.ntmps6
    go_upto_region 1 with fail
    clear hwb
    obtain ⟨X, hX⟩ : ∃ X, w.heap.size = X := ⟨_, rfl⟩
    rw [hX] at S ⊢
    go_wp2_with fail
    (with_reducible refine (HA _).out.mono ?_); rintro e w1 ⟨rfl, b1⟩
    have S1 := S.below b1
    clear S b1
    have hx := S1.bk 0 rfl
    go_wp2_with (first | (refine wpList_load_rowG (by kernel_rfl) 32 _ rfl X rfl _ _ (0, 0) _ hx Try.underlying32 rfl (by kernel_rfl) ?_) | fail)
    (with_reducible refine (HF _).out.mono ?_); rintro e w2 ⟨rfl, b2⟩
    have S2 := S1.below b2
    clear S1 b2
    clear hx HA HF
    have c1 := S2.cell 0 1 rfl rfl
    have hx := S2.bk 0 rfl
    go_wp2_with (first | (refine wpList_load_row rfl 32 _ rfl X rfl _ _ (0, 0) _ hx Try.underlying32 rfl (by kernel_rfl) ?_) | fail)
    (with_reducible refine (HB _).out.mono ?_); rintro e w3 ⟨rfl, b3⟩
    have S3 := S2.below b3
    clear S2 b3
    clear hx c1 HB
    go_upto_region 4 with (refine wpList_store_row rfl 32 _ _ rfl _ _ rfl rfl _ _ (heap_alloc_new _ _) (by kernel_rfl) (by kernel_rfl) (by kernel_rfl) ?_)
    rw [alloc_row]
    have S4 := S3.al rfl 32 [.int .u16 p.id, .int .i64 0, .int .u32 p.co, .int .u64 p.hr, .int .u32 p.hc, .int .u64 p.hb, .int .u16 p.hp, .bool p.ak, .bool p.pe, .bool p.ao, .int .i64 p.av, .bool p.yo, .int .i64 p.yv, .bool p.ho, .int .i64 p.hv]
    obtain ⟨B, hB⟩ : ∃ B, w3.heap.size = B := ⟨_, rfl⟩
    rw [hB] at S4 ⊢
    generalize w3.alloc (.cells #[.int .u16 p.id, .int .i64 0, .int .u32 p.co, .int .u64 p.hr, .int .u32 p.hc, .int .u64 p.hb, .int .u16 p.hp, .bool p.ak, .bool p.pe, .bool p.ao, .int .i64 p.av, .bool p.yo, .int .i64 p.yv, .bool p.ho, .int .i64 p.hv] 32) = w4 at S4 ⊢
    clear S3 hB
    have hB := S4.bk 0 rfl
    have c1 := S4.cell 1 1 rfl rfl
    have hx := S4.bk 1 rfl
    have HB := fun W => Lib.hid (block_0 p W)
    go_wp2_with (first | (refine wpList_load_row rfl 32 _ rfl B rfl _ _ (0, 0) _ hB Try.underlying32 rfl (by kernel_rfl) ?_) | fail)
    (with_reducible refine (HB _).out.mono ?_); rintro e w5 ⟨rfl, b5⟩
    have S5 := S4.below b5
    clear S4 b5
    clear hB hx c1 HB
    go_upto_region 5 with (refine wpList_store_row rfl 32 _ _ rfl _ _ rfl rfl _ _ (heap_alloc_new _ _) (by kernel_rfl) (by kernel_rfl) (by kernel_rfl) ?_)
    rw [alloc_row]
    have S6 := S5.al rfl 32 [.int .u16 p.id, .int .i64 0, .int .u32 p.co, .int .u64 p.hr, .int .u32 p.hc, .int .u64 p.hb, .int .u16 p.hp, .bool p.ak, .bool p.pe, .bool p.ao, .int .i64 p.av, .bool p.yo, .int .i64 p.yv, .bool p.ho, .int .i64 p.hv]
    obtain ⟨C, hC⟩ : ∃ C, w5.heap.size = C := ⟨_, rfl⟩
    rw [hC] at S6 ⊢
    generalize w5.alloc (.cells #[.int .u16 p.id, .int .i64 0, .int .u32 p.co, .int .u64 p.hr, .int .u32 p.hc, .int .u64 p.hb, .int .u16 p.hp, .bool p.ak, .bool p.pe, .bool p.ao, .int .i64 p.av, .bool p.yo, .int .i64 p.yv, .bool p.ho, .int .i64 p.hv] 32) = w6 at S6 ⊢
    clear S5 hC
    have hC := S6.bk 0 rfl
    have hB := S6.bk 1 rfl
    have hx := S6.bk 2 rfl
    have c1 := S6.cell 2 1 rfl rfl
    go_wp2_with (first | (refine wpList_load_row rfl 32 _ rfl B rfl _ _ (0, 0) _ hB Try.underlying32 rfl (by kernel_rfl) ?_) | (refine wpList_load_row rfl 32 _ rfl C rfl _ _ (0, 0) _ hC Try.underlying32 rfl (by kernel_rfl) ?_) | (refine wpList_load_row rfl 32 _ rfl X rfl _ _ (0, 0) _ hx Try.underlying32 rfl (by kernel_rfl) ?_))
    go_ret
    exact ⟨rfl, S6.old⟩
  · obtain ⟨b, l, hbl⟩ := block_any p z0
    have HB := fun W => Lib.hid (block_is p _ l (Lib.hid hbl) W)
    have HC := fun W => Lib.hid (block_1 b W)
    have HR := fun W => Lib.hid (rise_up b W)
    have HN := fun W => Lib.hid (next_two { b with yo := true, yv := 0 } W)
    have HM := fun W => Lib.hid (next_three { b with yo := true, yv := 0 } W)
    have E := port_same { b with st := 1 }
    have ET := tmr_eq true true 0 0 true rfl
    dsimp only at HB HN HM E
    have zb : (p.st == 0) = false := by simpa using z0
    clear z0 hbl
    go_enter Try.func6, Try.ntmps6
    go_upto_region 1 with fail
    clear hwb
    obtain ⟨X, hX⟩ : ∃ X, w.heap.size = X := ⟨_, rfl⟩
    rw [hX] at S ⊢
    go_wp2_with fail
    (with_reducible refine (HA _).out.mono ?_); rintro e w1 ⟨rfl, b1⟩
    have S1 := S.below b1
    clear S b1
    have hx := S1.bk 0 rfl
    go_wp2_with (first | (refine wpList_load_rowG (by kernel_rfl) 32 _ rfl X rfl _ _ (0, 0) _ hx Try.underlying32 rfl (by kernel_rfl) ?_) | fail)
    (with_reducible refine (HF _).out.mono ?_); rintro e w2 ⟨rfl, b2⟩
    have S2 := S1.below b2
    clear S1 b2
    clear hx HA HF
    have c1 := S2.cell 0 1 rfl rfl
    have hx := S2.bk 0 rfl
    go_wp2_with (first | (refine wpList_load_row rfl 32 _ rfl X rfl _ _ (0, 0) _ hx Try.underlying32 rfl (by kernel_rfl) ?_) | fail)
    (with_reducible refine (HB _).out.mono ?_); rintro e w3 ⟨rfl, b3⟩
    have S3 := S2.below b3
    clear S2 b3
    clear hx c1 HB
    go_upto_region 4 with (refine wpList_store_row rfl 32 _ _ rfl _ _ rfl rfl _ _ (heap_alloc_new _ _) (by kernel_rfl) (by kernel_rfl) (by kernel_rfl) ?_)
    rw [alloc_row]
    have S4 := S3.al rfl 32 [.int .u16 b.id, .int .i64 1, .int .u32 b.co, .int .u64 b.hr, .int .u32 b.hc, .int .u64 b.hb, .int .u16 b.hp, .bool b.ak, .bool b.pe, .bool b.ao, .int .i64 b.av, .bool b.yo, .int .i64 b.yv, .bool b.ho, .int .i64 b.hv]
    obtain ⟨B, hB⟩ : ∃ B, w3.heap.size = B := ⟨_, rfl⟩
    rw [hB] at S4 ⊢
    generalize w3.alloc (.cells #[.int .u16 b.id, .int .i64 1, .int .u32 b.co, .int .u64 b.hr, .int .u32 b.hc, .int .u64 b.hb, .int .u16 b.hp, .bool b.ak, .bool b.pe, .bool b.ao, .int .i64 b.av, .bool b.yo, .int .i64 b.yv, .bool b.ho, .int .i64 b.hv] 32) = w4 at S4 ⊢
    clear S3 hB
    have hB := S4.bk 0 rfl
    go_wp2_with (first | (refine wpList_load_row rfl 32 _ rfl B rfl _ _ (0, 0) _ hB Try.underlying32 rfl (by kernel_rfl) ?_) | fail)
    (with_reducible refine (HC _).out.mono ?_); rintro e w5 ⟨rfl, b5⟩
    have S5 := S4.below b5
    clear S4 b5
    clear hB HC
    go_upto_region 5 with (refine wpList_store_row rfl 32 _ _ rfl _ _ rfl rfl _ _ (heap_alloc_new _ _) (by kernel_rfl) (by kernel_rfl) (by kernel_rfl) ?_)
    rw [alloc_row]
    have S6 := S5.al rfl 32 [.int .u16 b.id, .int .i64 1, .int .u32 b.co, .int .u64 b.hr, .int .u32 b.hc, .int .u64 b.hb, .int .u16 b.hp, .bool b.ak, .bool b.pe, .bool b.ao, .int .i64 b.av, .bool b.yo, .int .i64 b.yv, .bool b.ho, .int .i64 b.hv]
    obtain ⟨C, hC⟩ : ∃ C, w5.heap.size = C := ⟨_, rfl⟩
    rw [hC] at S6 ⊢
    generalize w5.alloc (.cells #[.int .u16 b.id, .int .i64 1, .int .u32 b.co, .int .u64 b.hr, .int .u32 b.hc, .int .u64 b.hb, .int .u16 b.hp, .bool b.ak, .bool b.pe, .bool b.ao, .int .i64 b.av, .bool b.yo, .int .i64 b.yv, .bool b.ho, .int .i64 b.hv] 32) = w6 at S6 ⊢
    clear S5 hC
    have hC := S6.bk 0 rfl
    have hB := S6.bk 1 rfl
    have c1 := S6.cell 2 1 rfl rfl
    go_wp2_with (first | (refine wpList_load_row rfl 32 _ rfl B rfl _ _ (0, 0) _ hB Try.underlying32 rfl (by kernel_rfl) ?_) | (refine wpList_load_row rfl 32 _ rfl C rfl _ _ (0, 0) _ hC Try.underlying32 rfl (by kernel_rfl) ?_) | fail)
    (with_reducible refine (HR _).out.mono ?_); rintro e w7 ⟨rfl, b7⟩
    have S7 := S6.below b7
    clear S6 b7
    clear hB hC c1 HR E
    go_upto_region 10 with (refine wpList_store_row rfl 32 _ _ rfl _ _ rfl rfl _ _ (heap_alloc_new _ _) (by kernel_rfl) (by kernel_rfl) (by kernel_rfl) ?_)
    rw [alloc_row]
    have S8 := S7.al rfl 32 [.int .u16 b.id, .int .i64 2, .int .u32 b.co, .int .u64 b.hr, .int .u32 b.hc, .int .u64 b.hb, .int .u16 b.hp, .bool b.ak, .bool b.pe, .bool b.ao, .int .i64 b.av, .bool true, .int .i64 0, .bool b.ho, .int .i64 b.hv]
    obtain ⟨R, hR⟩ : ∃ R, w7.heap.size = R := ⟨_, rfl⟩
    rw [hR] at S8 ⊢
    generalize w7.alloc (.cells #[.int .u16 b.id, .int .i64 2, .int .u32 b.co, .int .u64 b.hr, .int .u32 b.hc, .int .u64 b.hb, .int .u16 b.hp, .bool b.ak, .bool b.pe, .bool b.ao, .int .i64 b.av, .bool true, .int .i64 0, .bool b.ho, .int .i64 b.hv] 32) = w8 at S8 ⊢
    clear S7 hR
    have hR := S8.bk 0 rfl
    go_wp2_with (first | (refine wpList_load_row rfl 32 _ rfl R rfl _ _ (0, 0) _ hR Try.underlying32 rfl (by kernel_rfl) ?_) | fail)
    (with_reducible refine (HN _).out.mono ?_); rintro e w9 ⟨rfl, b9⟩
    have S9 := S8.below b9
    clear S8 b9
    clear hR HN
    go_upto_region 11 with (refine wpList_store_row rfl 32 _ _ rfl _ _ rfl rfl _ _ (heap_alloc_new _ _) (by kernel_rfl) (by kernel_rfl) (by kernel_rfl) ?_)
    rw [alloc_row]
    have SA := S9.al rfl 32 [.int .u16 b.id, .int .i64 3, .int .u32 b.co, .int .u64 b.hr, .int .u32 b.hc, .int .u64 b.hb, .int .u16 b.hp, .bool b.ak, .bool b.pe, .bool b.ao, .int .i64 b.av, .bool true, .int .i64 0, .bool b.ho, .int .i64 b.hv]
    obtain ⟨N, hN⟩ : ∃ N, w9.heap.size = N := ⟨_, rfl⟩
    rw [hN] at SA ⊢
    generalize w9.alloc (.cells #[.int .u16 b.id, .int .i64 3, .int .u32 b.co, .int .u64 b.hr, .int .u32 b.hc, .int .u64 b.hb, .int .u16 b.hp, .bool b.ak, .bool b.pe, .bool b.ao, .int .i64 b.av, .bool true, .int .i64 0, .bool b.ho, .int .i64 b.hv] 32) = wa at SA ⊢
    clear S9 hN
    have hN := SA.bk 0 rfl
    go_wp2_with (first | (refine wpList_load_row rfl 32 _ rfl N rfl _ _ (0, 0) _ hN Try.underlying32 rfl (by kernel_rfl) ?_) | fail)
    (with_reducible refine (HM _).out.mono ?_); rintro e wb ⟨rfl, bb⟩
    have SB := SA.below bb
    clear SA bb
    clear hN HM
    go_upto_region 12 with (refine wpList_store_row rfl 32 _ _ rfl _ _ rfl rfl _ _ (heap_alloc_new _ _) (by kernel_rfl) (by kernel_rfl) (by kernel_rfl) ?_)
    rw [alloc_row]
    have SC := SB.al rfl 32 [.int .u16 b.id, .int .i64 4, .int .u32 b.co, .int .u64 b.hr, .int .u32 b.hc, .int .u64 b.hb, .int .u16 b.hp, .bool b.ak, .bool b.pe, .bool b.ao, .int .i64 b.av, .bool true, .int .i64 0, .bool b.ho, .int .i64 b.hv]
    obtain ⟨M, hM⟩ : ∃ M, wb.heap.size = M := ⟨_, rfl⟩
    rw [hM] at SC ⊢
    generalize wb.alloc (.cells #[.int .u16 b.id, .int .i64 4, .int .u32 b.co, .int .u64 b.hr, .int .u32 b.hc, .int .u64 b.hb, .int .u16 b.hp, .bool b.ak, .bool b.pe, .bool b.ao, .int .i64 b.av, .bool true, .int .i64 0, .bool b.ho, .int .i64 b.hv] 32) = wc at SC ⊢
    clear SB hM
    have hmx := mixedL
    have k0 := fun q : LaterW wc => (SC.below q.h).cell 4 1 rfl rfl
    have k1 := fun q : LaterW wc => (SC.below q.h).cell 2 1 rfl rfl
    have k2 := fun q : LaterW wc => (SC.below q.h).cell 1 1 rfl rfl
    have k3 := fun q : LaterW wc => (SC.below q.h).cell 0 1 rfl rfl
    have k4 := fun q : LaterW wc => (SC.below q.h).cell 1 11 rfl rfl
    have k5 := fun q : LaterW wc => (SC.below q.h).cell 1 12 rfl rfl
    have c1 : ∀ q : LaterW wc, Hid (Calls Try.prog 20 #[.int .i64 0] q.w' fun e w' => e = .returned (.agg #[.bool true, .int .i64 0]) ∧ Below q.w'.heap.size q.w' w') := fun q => Lib.hid (start0 q.w')
    refine region_later hmx (by kernel_rfl) ?_
    repeat (go_big_quiet_step ((go_at_call 20; with_reducible exact Calls.later (c1 _).out)))
    refine wpQuiet_nil ?_
    intro _ hw'
    obtain ⟨r, hw''⟩ := hw'
    subst hw''
    go_wp2
    go_ret
    exact ⟨rfl, (SC.below r.h).old⟩

end Go.Proofs.Ytcbdfkgfidlkeaa
