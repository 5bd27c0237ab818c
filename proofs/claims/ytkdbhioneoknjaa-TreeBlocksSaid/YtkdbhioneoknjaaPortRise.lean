/- Rise: contract. -/
import Derived.Test.YtkdbhioneoknjaaPortMem
import Derived.Test.YtkdbhioneoknjaaTimerOn
namespace Go.Proofs.Ytkdbhioneoknjaa
open Go.ChangeShapes Go.WideShapes Go.ChangeAt Go.RowKit
set_option linter.unusedVariables false

theorem start0 (w : World) : Calls Try.prog 59 #[.int .i64 0] w (TEnd w true 0) := by
  have h := start_is 0 (by decide) (by decide) w
  rwa [show startI 0 = 0 from by decide] at h

theorem rise_stays (p : Po) (h : ¬ p.st = 1) (w : World) :
    Calls Try.prog 48 #[.agg #[.int .u16 p.id, .int .i64 p.st, .int .u32 p.co, .int .u64 p.hr, .int .u32 p.hc, .int .u64 p.hb, .int .u16 p.hp, .bool p.ak, .bool p.pe, .bool p.ao, .int .i64 p.av, .bool p.yo, .int .i64 p.yv, .bool p.ho, .int .i64 p.hv]] w fun e w' => e = .returned (.agg #[.int .u16 p.id, .int .i64 p.st, .int .u32 p.co, .int .u64 p.hr, .int .u32 p.hc, .int .u64 p.hb, .int .u16 p.hp, .bool p.ak, .bool p.pe, .bool p.ao, .int .i64 p.av, .bool p.yo, .int .i64 p.yv, .bool p.ho, .int .i64 p.hv]) ∧ Below w.heap.size w w' := by
  have hb : (p.st == 1) = false := by simpa using h
  obtain ⟨wb, hwb, S⟩ := hs_two w 49 49 [.int .u16 p.id, .int .i64 p.st, .int .u32 p.co, .int .u64 p.hr, .int .u32 p.hc, .int .u64 p.hb, .int .u16 p.hp, .bool p.ak, .bool p.pe, .bool p.ao, .int .i64 p.av, .bool p.yo, .int .i64 p.yv, .bool p.ho, .int .i64 p.hv] [.int .u16 0, .int .i64 0, .int .u32 0, .int .u64 0, .int .u32 0, .int .u64 0, .int .u16 0, .bool false, .bool false, .bool false, .int .i64 0, .bool false, .int .i64 0, .bool false, .int .i64 0]
  go_enter Try.func48, Try.ntmps48
  go_upto_region 1 with fail
  clear hwb
  obtain ⟨X, hX⟩ : ∃ X, w.heap.size = X := ⟨_, rfl⟩
  rw [hX] at S ⊢
  obtain ⟨Y, hY⟩ : ∃ Y, X + 1 = Y := ⟨_, rfl⟩
  rw [hY] at S ⊢
  have c1 := S.cell 1 1 rfl rfl
  have hx := S.bk 1 rfl
  have hy := S.bk 0 rfl
  go_wp2_with (first | (refine wpList_load_row rfl 49 _ rfl X rfl _ _ (0, 0) _ hx Try.underlying49 rfl (by kernel_rfl) ?_) | (refine wpList_store_row rfl 49 _ _ rfl Y _ rfl rfl _ _ hy (by kernel_rfl) (by kernel_rfl) (by kernel_rfl) ?_))
  exact bodyPost_ret (v := .agg #[.int .u16 p.id, .int .i64 p.st, .int .u32 p.co, .int .u64 p.hr, .int .u32 p.hc, .int .u64 p.hb, .int .u16 p.hp, .bool p.ak, .bool p.pe, .bool p.ao, .int .i64 p.av, .bool p.yo, .int .i64 p.yv, .bool p.ho, .int .i64 p.hv]) (results_cell_row rfl _ _ Y _ _ _ _ rfl (setRow_heap _ _ _ _ _ _ hy) Try.underlying49 rfl (by kernel_rfl)) rfl ⟨rfl, (S.row 0 rfl [.int .u16 p.id, .int .i64 p.st, .int .u32 p.co, .int .u64 p.hr, .int .u32 p.hc, .int .u64 p.hb, .int .u16 p.hp, .bool p.ak, .bool p.pe, .bool p.ao, .int .i64 p.av, .bool p.yo, .int .i64 p.yv, .bool p.ho, .int .i64 p.hv]).old⟩

theorem rise_up (p : Po) (w : World) :
    Calls Try.prog 48 #[.agg #[.int .u16 p.id, .int .i64 1, .int .u32 p.co, .int .u64 p.hr, .int .u32 p.hc, .int .u64 p.hb, .int .u16 p.hp, .bool p.ak, .bool p.pe, .bool p.ao, .int .i64 p.av, .bool p.yo, .int .i64 p.yv, .bool p.ho, .int .i64 p.hv]] w fun e w' => e = .returned (.agg #[.int .u16 p.id, .int .i64 2, .int .u32 p.co, .int .u64 p.hr, .int .u32 p.hc, .int .u64 p.hb, .int .u16 p.hp, .bool p.ak, .bool p.pe, .bool p.ao, .int .i64 p.av, .bool true, .int .i64 0, .bool p.ho, .int .i64 p.hv]) ∧ Below w.heap.size w w' := by
  obtain ⟨wb, hwb, S⟩ := hs_two w 49 49 [.int .u16 p.id, .int .i64 1, .int .u32 p.co, .int .u64 p.hr, .int .u32 p.hc, .int .u64 p.hb, .int .u16 p.hp, .bool p.ak, .bool p.pe, .bool p.ao, .int .i64 p.av, .bool p.yo, .int .i64 p.yv, .bool p.ho, .int .i64 p.hv] [.int .u16 0, .int .i64 0, .int .u32 0, .int .u64 0, .int .u32 0, .int .u64 0, .int .u16 0, .bool false, .bool false, .bool false, .int .i64 0, .bool false, .int .i64 0, .bool false, .int .i64 0]
  go_enter Try.func48, Try.ntmps48
  go_upto_region 1 with fail
  clear hwb
  obtain ⟨X, hX⟩ : ∃ X, w.heap.size = X := ⟨_, rfl⟩
  rw [hX] at S ⊢
  obtain ⟨Y, hY⟩ : ∃ Y, X + 1 = Y := ⟨_, rfl⟩
  rw [hY] at S ⊢
  have c1 := S.cell 1 1 rfl rfl
  have f1 := S.thaw 1 1 rfl
  go_wp2_with fail
  have S1 := S.set 1 rfl 1 (.int .i64 2)
  simp only [List.set] at S1
  (with_reducible refine (start0 _).mono ?_); rintro e w1 ⟨rfl, b1⟩
  have S2 := S1.below b1
  clear S S1 b1 c1 f1
  have d11 := S2.cell 1 11 rfl rfl
  have d12 := S2.cell 1 12 rfl rfl
  have f11 := S2.thaw 1 11 rfl
  have f12 := S2.thaw 1 12 rfl
  go_upto_region 4 with fail
  have S3 := (S2.set 1 rfl 11 (.bool true)).set 1 rfl 12 (.int .i64 0)
  simp only [List.set] at S3
  generalize (w1.setCell ⟨X, 11, none⟩ (.bool true)).setCell ⟨X, 12, none⟩ (.int .i64 0) = w2 at S3 ⊢
  clear S2 d11 d12 f11 f12
  have hx := S3.bk 1 rfl
  have hy := S3.bk 0 rfl
  go_wp2_with (first | (refine wpList_load_row rfl 49 _ rfl X rfl _ _ (0, 0) _ hx Try.underlying49 rfl (by kernel_rfl) ?_) | (refine wpList_store_row rfl 49 _ _ rfl Y _ rfl rfl _ _ hy (by kernel_rfl) (by kernel_rfl) (by kernel_rfl) ?_))
  exact bodyPost_ret (v := .agg #[.int .u16 p.id, .int .i64 2, .int .u32 p.co, .int .u64 p.hr, .int .u32 p.hc, .int .u64 p.hb, .int .u16 p.hp, .bool p.ak, .bool p.pe, .bool p.ao, .int .i64 p.av, .bool true, .int .i64 0, .bool p.ho, .int .i64 p.hv]) (results_cell_row rfl _ _ Y _ _ _ _ rfl (setRow_heap _ _ _ _ _ _ hy) Try.underlying49 rfl (by kernel_rfl)) rfl ⟨rfl, (S3.row 0 rfl [.int .u16 p.id, .int .i64 2, .int .u32 p.co, .int .u64 p.hr, .int .u32 p.hc, .int .u64 p.hb, .int .u16 p.hp, .bool p.ak, .bool p.pe, .bool p.ao, .int .i64 p.av, .bool true, .int .i64 0, .bool p.ho, .int .i64 p.hv]).old⟩

theorem rise_is (p q : Po) (h : Hid (riseP p = q)) (w : World) :
    Calls Try.prog 48 #[.agg #[.int .u16 p.id, .int .i64 p.st, .int .u32 p.co, .int .u64 p.hr, .int .u32 p.hc, .int .u64 p.hb, .int .u16 p.hp, .bool p.ak, .bool p.pe, .bool p.ao, .int .i64 p.av, .bool p.yo, .int .i64 p.yv, .bool p.ho, .int .i64 p.hv]] w fun e w' => e = .returned (.agg #[.int .u16 q.id, .int .i64 q.st, .int .u32 q.co, .int .u64 q.hr, .int .u32 q.hc, .int .u64 q.hb, .int .u16 q.hp, .bool q.ak, .bool q.pe, .bool q.ao, .int .i64 q.av, .bool q.yo, .int .i64 q.yv, .bool q.ho, .int .i64 q.hv]) ∧ Below w.heap.size w w' := by
  have h := h.out
  unfold riseP at h
  by_cases c : p.st = 1
  · rw [if_pos c] at h
    subst h
    have := rise_up p w
    rwa [← c] at this
  · rw [if_neg c] at h
    subst h
    exact rise_stays p c w

end Go.Proofs.Ytkdbhioneoknjaa
