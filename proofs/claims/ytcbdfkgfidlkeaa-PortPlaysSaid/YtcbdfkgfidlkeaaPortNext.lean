/- Learns, Forwards, Designated, Next, Block: contracts. -/
import Derived.Test.YtcbdfkgfidlkeaaPortRise
import Derived.Deep.DeepCutAuto
namespace Go.Proofs.Ytcbdfkgfidlkeaa
open Go.ChangeShapes Go.WideShapes Go.ChangeAt Go.RowKit
set_option linter.unusedVariables false

theorem fwd_is (s : Int) (w : World) :
    Calls Try.prog 16 #[.int .i64 s] w fun e w' => e = .returned (.bool (decide (s = 4))) ∧ w = w' := by
  go_enter Try.func16, Try.ntmps16
  go_wp2
  go_ret
  exact ⟨ret_bool (by rw [Bool.eq_iff_iff]; simp), rfl⟩

theorem learns_is (s : Int) (q : Bool) (hq : Hid (learnsB s = q)) (w : World) :
    Calls Try.prog 15 #[.int .i64 s] w fun e w' => e = .returned (.bool q) ∧ w = w' := by
  have hq := hq.out
  unfold learnsB at hq
  by_cases h : s = 3
  · subst h
    simp at hq
    subst hq
    go_enter Try.func15, Try.ntmps15
    go_wp2
    go_ret
    exact ⟨rfl, rfl⟩
  · have hb : (s == 3) = false := by simpa using h
    rw [decide_eq_false h, Bool.false_or] at hq
    have HF := fun W => Lib.hid (fwd_is s W)
    rw [hq] at HF
    clear hq
    go_enter Try.func15, Try.ntmps15
    go_wp2_with (go_at_call 16; (with_reducible refine (HF _).out.mono ?_); rintro e w' ⟨rfl, rfl⟩)
    go_ret
    exact ⟨rfl, rfl⟩

theorem desig_is (p : Po) (o : Int) (q : Bool) (hq : Hid ((decide (p.hb = o) && decide (p.hp = p.id)) = q)) (w : World) :
    Calls Try.prog 19 #[.agg #[.int .u16 p.id, .int .i64 p.st, .int .u32 p.co, .int .u64 p.hr, .int .u32 p.hc, .int .u64 p.hb, .int .u16 p.hp, .bool p.ak, .bool p.pe, .bool p.ao, .int .i64 p.av, .bool p.yo, .int .i64 p.yv, .bool p.ho, .int .i64 p.hv], .int .u64 o] w fun e w' => e = .returned (.bool q) ∧ Below w.heap.size w w' := by
  have hq := hq.out
  obtain ⟨wb, hwb, S⟩ := hs_one w 32 [.int .u16 p.id, .int .i64 p.st, .int .u32 p.co, .int .u64 p.hr, .int .u32 p.hc, .int .u64 p.hb, .int .u16 p.hp, .bool p.ak, .bool p.pe, .bool p.ao, .int .i64 p.av, .bool p.yo, .int .i64 p.yv, .bool p.ho, .int .i64 p.hv]
  by_cases h : p.hb = o
  · rw [decide_eq_true h, Bool.true_and] at hq
    have hb : (p.hb == o) = true := by simpa using h
    clear h
    by_cases k : p.hp = p.id
    · have kb : (p.hp == p.id) = true := by simpa using k
      rw [decide_eq_true k] at hq
      subst hq
      clear k
      go_enter Try.func19, Try.ntmps19
      go_upto_region 1 with fail
      clear hwb
      have c0 := S.cell 0 0 rfl rfl
      have c5 := S.cell 0 5 rfl rfl
      have c6 := S.cell 0 6 rfl rfl
      go_wp2
      go_ret
      exact ⟨rfl, S.old⟩
    · have kb : (p.hp == p.id) = false := by simpa using k
      rw [decide_eq_false k] at hq
      subst hq
      clear k
      go_enter Try.func19, Try.ntmps19
      go_upto_region 1 with fail
      clear hwb
      have c0 := S.cell 0 0 rfl rfl
      have c5 := S.cell 0 5 rfl rfl
      have c6 := S.cell 0 6 rfl rfl
      go_wp2
      go_ret
      exact ⟨rfl, S.old⟩
  · rw [decide_eq_false h, Bool.false_and] at hq
    have hb : (p.hb == o) = false := by simpa using h
    clear h
    subst hq
    go_enter Try.func19, Try.ntmps19
    go_upto_region 1 with fail
    clear hwb
    have c5 := S.cell 0 5 rfl rfl
    go_wp2
    go_ret
    exact ⟨rfl, S.old⟩

theorem next_stays (p : Po) (h2 : ¬ p.st = 2) (h3 : ¬ p.st = 3) (w : World) :
    Calls Try.prog 14 #[.agg #[.int .u16 p.id, .int .i64 p.st, .int .u32 p.co, .int .u64 p.hr, .int .u32 p.hc, .int .u64 p.hb, .int .u16 p.hp, .bool p.ak, .bool p.pe, .bool p.ao, .int .i64 p.av, .bool p.yo, .int .i64 p.yv, .bool p.ho, .int .i64 p.hv]] w fun e w' => e = .returned (.tuple #[.agg #[.int .u16 p.id, .int .i64 p.st, .int .u32 p.co, .int .u64 p.hr, .int .u32 p.hc, .int .u64 p.hb, .int .u16 p.hp, .bool p.ak, .bool p.pe, .bool p.ao, .int .i64 p.av, .bool p.yo, .int .i64 p.yv, .bool p.ho, .int .i64 p.hv], .bool false]) ∧ Below w.heap.size w w' := by
  have b2 : (p.st == 2) = false := by simpa using h2
  have b3 : (p.st == 3) = false := by simpa using h3
  obtain ⟨wb, hwb, S⟩ := hs_two w 32 32 [.int .u16 p.id, .int .i64 p.st, .int .u32 p.co, .int .u64 p.hr, .int .u32 p.hc, .int .u64 p.hb, .int .u16 p.hp, .bool p.ak, .bool p.pe, .bool p.ao, .int .i64 p.av, .bool p.yo, .int .i64 p.yv, .bool p.ho, .int .i64 p.hv] [.int .u16 0, .int .i64 0, .int .u32 0, .int .u64 0, .int .u32 0, .int .u64 0, .int .u16 0, .bool false, .bool false, .bool false, .int .i64 0, .bool false, .int .i64 0, .bool false, .int .i64 0]
  go_enter Try.func14, Try.ntmps14
  go_upto_region 1 with fail
  clear hwb
  obtain ⟨X, hX⟩ : ∃ X, w.heap.size = X := ⟨_, rfl⟩
  rw [hX] at S ⊢
  obtain ⟨Y, hY⟩ : ∃ Y, X + 1 = Y := ⟨_, rfl⟩
  rw [hY] at S ⊢
  have c1 := S.cell 1 1 rfl rfl
  have hx := S.bk 1 rfl
  have hy := S.bk 0 rfl
  go_wp2_with (first | (refine wpList_load_row rfl 32 _ rfl X rfl _ _ (0, 0) _ hx Try.underlying32 rfl (by kernel_rfl) ?_) | (refine wpList_store_row rfl 32 _ _ rfl Y _ rfl rfl _ _ hy (by kernel_rfl) (by kernel_rfl) (by kernel_rfl) ?_))
  exact bodyPost_ret (v := .tuple #[.agg #[.int .u16 p.id, .int .i64 p.st, .int .u32 p.co, .int .u64 p.hr, .int .u32 p.hc, .int .u64 p.hb, .int .u16 p.hp, .bool p.ak, .bool p.pe, .bool p.ao, .int .i64 p.av, .bool p.yo, .int .i64 p.yv, .bool p.ho, .int .i64 p.hv], .bool false]) (results_two rfl _ _ Y _ _ _ _ rfl _ rfl (setRow_heap _ _ _ _ _ _ hy) Try.underlying32 rfl (by kernel_rfl)) rfl ⟨rfl, (S.row 0 rfl [.int .u16 p.id, .int .i64 p.st, .int .u32 p.co, .int .u64 p.hr, .int .u32 p.hc, .int .u64 p.hb, .int .u16 p.hp, .bool p.ak, .bool p.pe, .bool p.ao, .int .i64 p.av, .bool p.yo, .int .i64 p.yv, .bool p.ho, .int .i64 p.hv]).old⟩

theorem next_two (p : Po) (w : World) :
    Calls Try.prog 14 #[.agg #[.int .u16 p.id, .int .i64 2, .int .u32 p.co, .int .u64 p.hr, .int .u32 p.hc, .int .u64 p.hb, .int .u16 p.hp, .bool p.ak, .bool p.pe, .bool p.ao, .int .i64 p.av, .bool p.yo, .int .i64 p.yv, .bool p.ho, .int .i64 p.hv]] w fun e w' => e = .returned (.tuple #[.agg #[.int .u16 p.id, .int .i64 3, .int .u32 p.co, .int .u64 p.hr, .int .u32 p.hc, .int .u64 p.hb, .int .u16 p.hp, .bool p.ak, .bool p.pe, .bool p.ao, .int .i64 p.av, .bool true, .int .i64 0, .bool p.ho, .int .i64 p.hv], .bool false]) ∧ Below w.heap.size w w' := by
  obtain ⟨wb, hwb, S⟩ := hs_two w 32 32 [.int .u16 p.id, .int .i64 2, .int .u32 p.co, .int .u64 p.hr, .int .u32 p.hc, .int .u64 p.hb, .int .u16 p.hp, .bool p.ak, .bool p.pe, .bool p.ao, .int .i64 p.av, .bool p.yo, .int .i64 p.yv, .bool p.ho, .int .i64 p.hv] [.int .u16 0, .int .i64 0, .int .u32 0, .int .u64 0, .int .u32 0, .int .u64 0, .int .u16 0, .bool false, .bool false, .bool false, .int .i64 0, .bool false, .int .i64 0, .bool false, .int .i64 0]
  go_enter Try.func14, Try.ntmps14
  go_upto_region 1 with fail
  clear hwb
  obtain ⟨X, hX⟩ : ∃ X, w.heap.size = X := ⟨_, rfl⟩
  rw [hX] at S ⊢
  obtain ⟨Y, hY⟩ : ∃ Y, X + 1 = Y := ⟨_, rfl⟩
  rw [hY] at S ⊢
  have c1 := S.cell 1 1 rfl rfl
  have f1 := S.thaw 1 1 rfl
  go_wp2_with fail
  have S1 := S.set 1 rfl 1 (.int .i64 3)
  simp only [List.set] at S1
  (with_reducible refine (start0 _).mono ?_); rintro e w1 ⟨rfl, b1⟩
  have S2 := S1.below b1
  clear S S1 b1 c1 f1
  have d11 := S2.cell 1 11 rfl rfl
  have d12 := S2.cell 1 12 rfl rfl
  have f11 := S2.thaw 1 11 rfl
  have f12 := S2.thaw 1 12 rfl
  go_upto_region 8 with fail
  have S3 := (S2.set 1 rfl 11 (.bool true)).set 1 rfl 12 (.int .i64 0)
  simp only [List.set] at S3
  generalize (w1.setCell ⟨X, 11, none⟩ (.bool true)).setCell ⟨X, 12, none⟩ (.int .i64 0) = w2 at S3 ⊢
  clear S2 d11 d12 f11 f12
  have hx := S3.bk 1 rfl
  have hy := S3.bk 0 rfl
  go_wp2_with (first | (refine wpList_load_row rfl 32 _ rfl X rfl _ _ (0, 0) _ hx Try.underlying32 rfl (by kernel_rfl) ?_) | (refine wpList_store_row rfl 32 _ _ rfl Y _ rfl rfl _ _ hy (by kernel_rfl) (by kernel_rfl) (by kernel_rfl) ?_))
  exact bodyPost_ret (v := .tuple #[.agg #[.int .u16 p.id, .int .i64 3, .int .u32 p.co, .int .u64 p.hr, .int .u32 p.hc, .int .u64 p.hb, .int .u16 p.hp, .bool p.ak, .bool p.pe, .bool p.ao, .int .i64 p.av, .bool true, .int .i64 0, .bool p.ho, .int .i64 p.hv], .bool false]) (results_two rfl _ _ Y _ _ _ _ rfl _ rfl (setRow_heap _ _ _ _ _ _ hy) Try.underlying32 rfl (by kernel_rfl)) rfl ⟨rfl, (S3.row 0 rfl [.int .u16 p.id, .int .i64 3, .int .u32 p.co, .int .u64 p.hr, .int .u32 p.hc, .int .u64 p.hb, .int .u16 p.hp, .bool p.ak, .bool p.pe, .bool p.ao, .int .i64 p.av, .bool true, .int .i64 0, .bool p.ho, .int .i64 p.hv]).old⟩

theorem next_three (p : Po) (w : World) :
    Calls Try.prog 14 #[.agg #[.int .u16 p.id, .int .i64 3, .int .u32 p.co, .int .u64 p.hr, .int .u32 p.hc, .int .u64 p.hb, .int .u16 p.hp, .bool p.ak, .bool p.pe, .bool p.ao, .int .i64 p.av, .bool p.yo, .int .i64 p.yv, .bool p.ho, .int .i64 p.hv]] w fun e w' => e = .returned (.tuple #[.agg #[.int .u16 p.id, .int .i64 4, .int .u32 p.co, .int .u64 p.hr, .int .u32 p.hc, .int .u64 p.hb, .int .u16 p.hp, .bool p.ak, .bool p.pe, .bool p.ao, .int .i64 p.av, .bool p.yo, .int .i64 p.yv, .bool p.ho, .int .i64 p.hv], .bool true]) ∧ Below w.heap.size w w' := by
  obtain ⟨wb, hwb, S⟩ := hs_two w 32 32 [.int .u16 p.id, .int .i64 3, .int .u32 p.co, .int .u64 p.hr, .int .u32 p.hc, .int .u64 p.hb, .int .u16 p.hp, .bool p.ak, .bool p.pe, .bool p.ao, .int .i64 p.av, .bool p.yo, .int .i64 p.yv, .bool p.ho, .int .i64 p.hv] [.int .u16 0, .int .i64 0, .int .u32 0, .int .u64 0, .int .u32 0, .int .u64 0, .int .u16 0, .bool false, .bool false, .bool false, .int .i64 0, .bool false, .int .i64 0, .bool false, .int .i64 0]
  go_enter Try.func14, Try.ntmps14
  go_upto_region 1 with fail
  clear hwb
  obtain ⟨X, hX⟩ : ∃ X, w.heap.size = X := ⟨_, rfl⟩
  rw [hX] at S ⊢
  obtain ⟨Y, hY⟩ : ∃ Y, X + 1 = Y := ⟨_, rfl⟩
  rw [hY] at S ⊢
  have c1 := S.cell 1 1 rfl rfl
  have f1 := S.thaw 1 1 rfl
  go_upto_region 7 with fail
  have S3 := S.set 1 rfl 1 (.int .i64 4)
  simp only [List.set] at S3
  generalize wb.setCell ⟨X, 1, none⟩ (.int .i64 4) = w2 at S3 ⊢
  clear S c1 f1
  have hx := S3.bk 1 rfl
  have hy := S3.bk 0 rfl
  go_wp2_with (first | (refine wpList_load_row rfl 32 _ rfl X rfl _ _ (0, 0) _ hx Try.underlying32 rfl (by kernel_rfl) ?_) | (refine wpList_store_row rfl 32 _ _ rfl Y _ rfl rfl _ _ hy (by kernel_rfl) (by kernel_rfl) (by kernel_rfl) ?_))
  exact bodyPost_ret (v := .tuple #[.agg #[.int .u16 p.id, .int .i64 4, .int .u32 p.co, .int .u64 p.hr, .int .u32 p.hc, .int .u64 p.hb, .int .u16 p.hp, .bool p.ak, .bool p.pe, .bool p.ao, .int .i64 p.av, .bool p.yo, .int .i64 p.yv, .bool p.ho, .int .i64 p.hv], .bool true]) (results_two rfl _ _ Y _ _ _ _ rfl _ rfl (setRow_heap _ _ _ _ _ _ hy) Try.underlying32 rfl (by kernel_rfl)) rfl ⟨rfl, (S3.row 0 rfl [.int .u16 p.id, .int .i64 4, .int .u32 p.co, .int .u64 p.hr, .int .u32 p.hc, .int .u64 p.hb, .int .u16 p.hp, .bool p.ak, .bool p.pe, .bool p.ao, .int .i64 p.av, .bool p.yo, .int .i64 p.yv, .bool p.ho, .int .i64 p.hv]).old⟩

theorem next_is (p q : Po) (x : Bool) (h : Hid (nextP p = (q, x))) (w : World) :
    Calls Try.prog 14 #[.agg #[.int .u16 p.id, .int .i64 p.st, .int .u32 p.co, .int .u64 p.hr, .int .u32 p.hc, .int .u64 p.hb, .int .u16 p.hp, .bool p.ak, .bool p.pe, .bool p.ao, .int .i64 p.av, .bool p.yo, .int .i64 p.yv, .bool p.ho, .int .i64 p.hv]] w fun e w' => e = .returned (.tuple #[.agg #[.int .u16 q.id, .int .i64 q.st, .int .u32 q.co, .int .u64 q.hr, .int .u32 q.hc, .int .u64 q.hb, .int .u16 q.hp, .bool q.ak, .bool q.pe, .bool q.ao, .int .i64 q.av, .bool q.yo, .int .i64 q.yv, .bool q.ho, .int .i64 q.hv], .bool x]) ∧ Below w.heap.size w w' := by
  have h := h.out
  unfold nextP at h
  by_cases c : p.st = 2
  · rw [if_pos c] at h
    cases h
    have := next_two p w
    rwa [← c] at this
  · rw [if_neg c] at h
    by_cases d : p.st = 3
    · rw [if_pos d] at h
      cases h
      have := next_three p w
      rwa [← d] at this
    · rw [if_neg d] at h
      cases h
      exact next_stays p c d w

end Go.Proofs.Ytcbdfkgfidlkeaa
