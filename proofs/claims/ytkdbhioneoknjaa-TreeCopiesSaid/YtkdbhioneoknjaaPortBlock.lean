/- Block, Become, New: contracts. -/
import Derived.Test.YtkdbhioneoknjaaPortSays
namespace Go.Proofs.Ytkdbhioneoknjaa
open Go.ChangeShapes Go.WideShapes Go.ChangeAt Go.RowKit
set_option linter.unusedVariables false

theorem block_0 (p : Po) (w : World) :
    Calls Try.prog 50 #[.agg #[.int .u16 p.id, .int .i64 0, .int .u32 p.co, .int .u64 p.hr, .int .u32 p.hc, .int .u64 p.hb, .int .u16 p.hp, .bool p.ak, .bool p.pe, .bool p.ao, .int .i64 p.av, .bool p.yo, .int .i64 p.yv, .bool p.ho, .int .i64 p.hv]] w fun e w' => e = .returned (.tuple #[.agg #[.int .u16 p.id, .int .i64 0, .int .u32 p.co, .int .u64 p.hr, .int .u32 p.hc, .int .u64 p.hb, .int .u16 p.hp, .bool p.ak, .bool p.pe, .bool p.ao, .int .i64 p.av, .bool p.yo, .int .i64 p.yv, .bool p.ho, .int .i64 p.hv], .bool false]) ∧ Below w.heap.size w w' := by
  obtain ⟨wb, hwb, S⟩ := hs_two w 49 49 [.int .u16 p.id, .int .i64 0, .int .u32 p.co, .int .u64 p.hr, .int .u32 p.hc, .int .u64 p.hb, .int .u16 p.hp, .bool p.ak, .bool p.pe, .bool p.ao, .int .i64 p.av, .bool p.yo, .int .i64 p.yv, .bool p.ho, .int .i64 p.hv] [.int .u16 0, .int .i64 0, .int .u32 0, .int .u64 0, .int .u32 0, .int .u64 0, .int .u16 0, .bool false, .bool false, .bool false, .int .i64 0, .bool false, .int .i64 0, .bool false, .int .i64 0]
  go_enter Try.func50, Try.ntmps50
  go_upto_region 1 with fail
  clear hwb
  obtain ⟨X, hX⟩ : ∃ X, w.heap.size = X := ⟨_, rfl⟩
  rw [hX] at S ⊢
  obtain ⟨Y, hY⟩ : ∃ Y, X + 1 = Y := ⟨_, rfl⟩
  rw [hY] at S ⊢
  have c1 := S.cell 1 1 rfl rfl
  have hx := S.bk 1 rfl
  have hy := S.bk 0 rfl
  go_wp2_with (first | (refine wpList_load_row rfl 49 _ rfl X rfl _ _ (0, 0) _ hx Try.underlying49 rfl (by kernel_rfl) ?_) | (refine wpList_store_row rfl 49 _ _ rfl Y _ rfl rfl _ _ hy (by kernel_rfl) (by kernel_rfl) (by kernel_rfl) ?_))
  exact bodyPost_ret (v := .tuple #[.agg #[.int .u16 p.id, .int .i64 0, .int .u32 p.co, .int .u64 p.hr, .int .u32 p.hc, .int .u64 p.hb, .int .u16 p.hp, .bool p.ak, .bool p.pe, .bool p.ao, .int .i64 p.av, .bool p.yo, .int .i64 p.yv, .bool p.ho, .int .i64 p.hv], .bool false]) (results_two rfl _ _ Y _ _ _ _ rfl _ rfl (setRow_heap _ _ _ _ _ _ hy) Try.underlying49 rfl (by kernel_rfl)) rfl ⟨rfl, (S.row 0 rfl [.int .u16 p.id, .int .i64 0, .int .u32 p.co, .int .u64 p.hr, .int .u32 p.hc, .int .u64 p.hb, .int .u16 p.hp, .bool p.ak, .bool p.pe, .bool p.ao, .int .i64 p.av, .bool p.yo, .int .i64 p.yv, .bool p.ho, .int .i64 p.hv]).old⟩

theorem block_1 (p : Po) (w : World) :
    Calls Try.prog 50 #[.agg #[.int .u16 p.id, .int .i64 1, .int .u32 p.co, .int .u64 p.hr, .int .u32 p.hc, .int .u64 p.hb, .int .u16 p.hp, .bool p.ak, .bool p.pe, .bool p.ao, .int .i64 p.av, .bool p.yo, .int .i64 p.yv, .bool p.ho, .int .i64 p.hv]] w fun e w' => e = .returned (.tuple #[.agg #[.int .u16 p.id, .int .i64 1, .int .u32 p.co, .int .u64 p.hr, .int .u32 p.hc, .int .u64 p.hb, .int .u16 p.hp, .bool p.ak, .bool p.pe, .bool p.ao, .int .i64 p.av, .bool p.yo, .int .i64 p.yv, .bool p.ho, .int .i64 p.hv], .bool false]) ∧ Below w.heap.size w w' := by
  obtain ⟨wb, hwb, S⟩ := hs_two w 49 49 [.int .u16 p.id, .int .i64 1, .int .u32 p.co, .int .u64 p.hr, .int .u32 p.hc, .int .u64 p.hb, .int .u16 p.hp, .bool p.ak, .bool p.pe, .bool p.ao, .int .i64 p.av, .bool p.yo, .int .i64 p.yv, .bool p.ho, .int .i64 p.hv] [.int .u16 0, .int .i64 0, .int .u32 0, .int .u64 0, .int .u32 0, .int .u64 0, .int .u16 0, .bool false, .bool false, .bool false, .int .i64 0, .bool false, .int .i64 0, .bool false, .int .i64 0]
  go_enter Try.func50, Try.ntmps50
  go_upto_region 1 with fail
  clear hwb
  obtain ⟨X, hX⟩ : ∃ X, w.heap.size = X := ⟨_, rfl⟩
  rw [hX] at S ⊢
  obtain ⟨Y, hY⟩ : ∃ Y, X + 1 = Y := ⟨_, rfl⟩
  rw [hY] at S ⊢
  have c1 := S.cell 1 1 rfl rfl
  have hx := S.bk 1 rfl
  have hy := S.bk 0 rfl
  go_wp2_with (first | (refine wpList_load_row rfl 49 _ rfl X rfl _ _ (0, 0) _ hx Try.underlying49 rfl (by kernel_rfl) ?_) | (refine wpList_store_row rfl 49 _ _ rfl Y _ rfl rfl _ _ hy (by kernel_rfl) (by kernel_rfl) (by kernel_rfl) ?_))
  exact bodyPost_ret (v := .tuple #[.agg #[.int .u16 p.id, .int .i64 1, .int .u32 p.co, .int .u64 p.hr, .int .u32 p.hc, .int .u64 p.hb, .int .u16 p.hp, .bool p.ak, .bool p.pe, .bool p.ao, .int .i64 p.av, .bool p.yo, .int .i64 p.yv, .bool p.ho, .int .i64 p.hv], .bool false]) (results_two rfl _ _ Y _ _ _ _ rfl _ rfl (setRow_heap _ _ _ _ _ _ hy) Try.underlying49 rfl (by kernel_rfl)) rfl ⟨rfl, (S.row 0 rfl [.int .u16 p.id, .int .i64 1, .int .u32 p.co, .int .u64 p.hr, .int .u32 p.hc, .int .u64 p.hb, .int .u16 p.hp, .bool p.ak, .bool p.pe, .bool p.ao, .int .i64 p.av, .bool p.yo, .int .i64 p.yv, .bool p.ho, .int .i64 p.hv]).old⟩

theorem block_off (p : Po) (h0 : ¬ p.st = 0) (h1 : ¬ p.st = 1) (w : World) :
    Calls Try.prog 50 #[.agg #[.int .u16 p.id, .int .i64 p.st, .int .u32 p.co, .int .u64 p.hr, .int .u32 p.hc, .int .u64 p.hb, .int .u16 p.hp, .bool p.ak, .bool p.pe, .bool p.ao, .int .i64 p.av, .bool p.yo, .int .i64 p.yv, .bool p.ho, .int .i64 p.hv]] w fun e w' => e = .returned (.tuple #[.agg #[.int .u16 p.id, .int .i64 1, .int .u32 p.co, .int .u64 p.hr, .int .u32 p.hc, .int .u64 p.hb, .int .u16 p.hp, .bool p.ak, .bool p.pe, .bool p.ao, .int .i64 p.av, .bool false, .int .i64 0, .bool p.ho, .int .i64 p.hv], .bool (learnsB p.st)]) ∧ Below w.heap.size w w' := by
  have b0 : (p.st == 0) = false := by simpa using h0
  have b1 : (p.st == 1) = false := by simpa using h1
  obtain ⟨q, hq⟩ : ∃ q, learnsB p.st = q := ⟨_, rfl⟩
  have HL := fun W => Lib.hid (learns_is p.st q (Lib.hid hq) W)
  rw [hq]
  clear hq
  obtain ⟨wb, hwb, S⟩ := hs_two w 49 49 [.int .u16 p.id, .int .i64 p.st, .int .u32 p.co, .int .u64 p.hr, .int .u32 p.hc, .int .u64 p.hb, .int .u16 p.hp, .bool p.ak, .bool p.pe, .bool p.ao, .int .i64 p.av, .bool p.yo, .int .i64 p.yv, .bool p.ho, .int .i64 p.hv] [.int .u16 0, .int .i64 0, .int .u32 0, .int .u64 0, .int .u32 0, .int .u64 0, .int .u16 0, .bool false, .bool false, .bool false, .int .i64 0, .bool false, .int .i64 0, .bool false, .int .i64 0]
  go_enter Try.func50, Try.ntmps50
  go_upto_region 1 with fail
  clear hwb
  obtain ⟨X, hX⟩ : ∃ X, w.heap.size = X := ⟨_, rfl⟩
  rw [hX] at S ⊢
  obtain ⟨Y, hY⟩ : ∃ Y, X + 1 = Y := ⟨_, rfl⟩
  rw [hY] at S ⊢
  have c1 := S.cell 1 1 rfl rfl
  have f1 := S.thaw 1 1 rfl
  go_wp2_with fail
  (with_reducible refine (HL _).out.mono ?_); rintro e w1 ⟨rfl, rfl⟩
  go_wp2_with fail
  have S1 := S.set 1 rfl 1 (.int .i64 1)
  simp only [List.set] at S1
  (with_reducible refine (stop_is _).mono ?_); rintro e w1 ⟨rfl, b1⟩
  have S2 := S1.below b1
  clear S S1 b1 c1 f1
  have d11 := S2.cell 1 11 rfl rfl
  have d12 := S2.cell 1 12 rfl rfl
  have f11 := S2.thaw 1 11 rfl
  have f12 := S2.thaw 1 12 rfl
  go_upto_region 8 with fail
  have S3 := (S2.set 1 rfl 11 (.bool false)).set 1 rfl 12 (.int .i64 0)
  simp only [List.set] at S3
  generalize (w1.setCell ⟨X, 11, none⟩ (.bool false)).setCell ⟨X, 12, none⟩ (.int .i64 0) = w2 at S3 ⊢
  clear S2 d11 d12 f11 f12
  have hx := S3.bk 1 rfl
  have hy := S3.bk 0 rfl
  go_wp2_with (first | (refine wpList_load_row rfl 49 _ rfl X rfl _ _ (0, 0) _ hx Try.underlying49 rfl (by kernel_rfl) ?_) | (refine wpList_store_row rfl 49 _ _ rfl Y _ rfl rfl _ _ hy (by kernel_rfl) (by kernel_rfl) (by kernel_rfl) ?_))
  exact bodyPost_ret (v := .tuple #[.agg #[.int .u16 p.id, .int .i64 1, .int .u32 p.co, .int .u64 p.hr, .int .u32 p.hc, .int .u64 p.hb, .int .u16 p.hp, .bool p.ak, .bool p.pe, .bool p.ao, .int .i64 p.av, .bool false, .int .i64 0, .bool p.ho, .int .i64 p.hv], .bool q]) (results_two rfl _ _ Y _ _ _ _ rfl _ rfl (setRow_heap _ _ _ _ _ _ hy) Try.underlying49 rfl (by kernel_rfl)) rfl ⟨rfl, (S3.row 0 rfl [.int .u16 p.id, .int .i64 1, .int .u32 p.co, .int .u64 p.hr, .int .u32 p.hc, .int .u64 p.hb, .int .u16 p.hp, .bool p.ak, .bool p.pe, .bool p.ao, .int .i64 p.av, .bool false, .int .i64 0, .bool p.ho, .int .i64 p.hv]).old⟩

theorem block_is (p q : Po) (x : Bool) (h : Hid (blockP p = (q, x))) (w : World) :
    Calls Try.prog 50 #[.agg #[.int .u16 p.id, .int .i64 p.st, .int .u32 p.co, .int .u64 p.hr, .int .u32 p.hc, .int .u64 p.hb, .int .u16 p.hp, .bool p.ak, .bool p.pe, .bool p.ao, .int .i64 p.av, .bool p.yo, .int .i64 p.yv, .bool p.ho, .int .i64 p.hv]] w fun e w' => e = .returned (.tuple #[.agg #[.int .u16 q.id, .int .i64 q.st, .int .u32 q.co, .int .u64 q.hr, .int .u32 q.hc, .int .u64 q.hb, .int .u16 q.hp, .bool q.ak, .bool q.pe, .bool q.ao, .int .i64 q.av, .bool q.yo, .int .i64 q.yv, .bool q.ho, .int .i64 q.hv], .bool x]) ∧ Below w.heap.size w w' := by
  have h := h.out
  unfold blockP at h
  by_cases c : p.st = 0
  · rw [if_pos (.inl c)] at h
    cases h
    have := block_0 p w
    rwa [← c] at this
  · by_cases d : p.st = 1
    · rw [if_pos (.inr d)] at h
      cases h
      have := block_1 p w
      rwa [← d] at this
    · rw [if_neg (fun e => e.elim c d)] at h
      cases h
      exact block_off p c d w

theorem become_is (p : Po) (v : Vec) (w : World) :
    Calls Try.prog 29 #[.agg #[.int .u16 p.id, .int .i64 p.st, .int .u32 p.co, .int .u64 p.hr, .int .u32 p.hc, .int .u64 p.hb, .int .u16 p.hp, .bool p.ak, .bool p.pe, .bool p.ao, .int .i64 p.av, .bool p.yo, .int .i64 p.yv, .bool p.ho, .int .i64 p.hv], .agg #[.int .u64 v.r, .int .u32 v.c, .int .u64 v.b, .int .u16 v.p]] w fun e w' => e = .returned (.agg #[.int .u16 p.id, .int .i64 p.st, .int .u32 p.co, .int .u64 v.r, .int .u32 v.c, .int .u64 v.b, .int .u16 p.id, .bool p.ak, .bool p.pe, .bool p.ao, .int .i64 p.av, .bool p.yo, .int .i64 p.yv, .bool p.ho, .int .i64 p.hv]) ∧ Below w.heap.size w w' := by
  obtain ⟨wb, hwb, S⟩ := hs_three w 49 39 49 [.int .u16 p.id, .int .i64 p.st, .int .u32 p.co, .int .u64 p.hr, .int .u32 p.hc, .int .u64 p.hb, .int .u16 p.hp, .bool p.ak, .bool p.pe, .bool p.ao, .int .i64 p.av, .bool p.yo, .int .i64 p.yv, .bool p.ho, .int .i64 p.hv] [.int .u64 v.r, .int .u32 v.c, .int .u64 v.b, .int .u16 v.p] [.int .u16 0, .int .i64 0, .int .u32 0, .int .u64 0, .int .u32 0, .int .u64 0, .int .u16 0, .bool false, .bool false, .bool false, .int .i64 0, .bool false, .int .i64 0, .bool false, .int .i64 0]
  go_enter Try.func29, Try.ntmps29
  go_upto_region 1 with fail
  clear hwb
  obtain ⟨X, hX⟩ : ∃ X, w.heap.size = X := ⟨_, rfl⟩
  rw [hX] at S ⊢
  obtain ⟨V, hV⟩ : ∃ V, X + 1 = V := ⟨_, rfl⟩
  rw [hV] at S ⊢
  obtain ⟨Y, hY⟩ : ∃ Y, V + 1 = Y := ⟨_, rfl⟩
  rw [hY] at S ⊢
  have v0 := S.cell 1 0 rfl rfl
  have v1 := S.cell 1 1 rfl rfl
  have v2 := S.cell 1 2 rfl rfl
  have v3 := S.cell 1 3 rfl rfl
  have c0 := S.cell 2 0 rfl rfl
  have c3 := S.cell 2 3 rfl rfl
  have c4 := S.cell 2 4 rfl rfl
  have c5 := S.cell 2 5 rfl rfl
  have c6 := S.cell 2 6 rfl rfl
  have f3 := S.thaw 2 3 rfl
  have f4 := S.thaw 2 4 rfl
  have f5 := S.thaw 2 5 rfl
  have f6 := S.thaw 2 6 rfl
  go_upto_region 3 with fail
  have S3 := ((((S.set 2 rfl 3 (.int .u64 v.r)).set 2 rfl 4 (.int .u32 v.c)).set 2 rfl 5 (.int .u64 v.b)).set 2 rfl 6 (.int .u16 v.p)).set 2 rfl 6 (.int .u16 p.id)
  simp only [List.set] at S3
  generalize ((((wb.setCell ⟨X, 3, none⟩ (.int .u64 v.r)).setCell ⟨X, 4, none⟩ (.int .u32 v.c)).setCell ⟨X, 5, none⟩ (.int .u64 v.b)).setCell ⟨X, 6, none⟩ (.int .u16 v.p)).setCell ⟨X, 6, none⟩ (.int .u16 p.id) = w2 at S3 ⊢
  clear S v0 v1 v2 v3 c0 c3 c4 c5 c6 f3 f4 f5 f6
  have hx := S3.bk 2 rfl
  have hy := S3.bk 0 rfl
  go_wp2_with (first | (refine wpList_load_row rfl 49 _ rfl X rfl _ _ (0, 0) _ hx Try.underlying49 rfl (by kernel_rfl) ?_) | (refine wpList_store_row rfl 49 _ _ rfl Y _ rfl rfl _ _ hy (by kernel_rfl) (by kernel_rfl) (by kernel_rfl) ?_))
  exact bodyPost_ret (v := .agg #[.int .u16 p.id, .int .i64 p.st, .int .u32 p.co, .int .u64 v.r, .int .u32 v.c, .int .u64 v.b, .int .u16 p.id, .bool p.ak, .bool p.pe, .bool p.ao, .int .i64 p.av, .bool p.yo, .int .i64 p.yv, .bool p.ho, .int .i64 p.hv]) (results_cell_row rfl _ _ Y _ _ _ _ rfl (setRow_heap _ _ _ _ _ _ hy) Try.underlying49 rfl (by kernel_rfl)) rfl ⟨rfl, (S3.row 0 rfl [.int .u16 p.id, .int .i64 p.st, .int .u32 p.co, .int .u64 v.r, .int .u32 v.c, .int .u64 v.b, .int .u16 p.id, .bool p.ak, .bool p.pe, .bool p.ao, .int .i64 p.av, .bool p.yo, .int .i64 p.yv, .bool p.ho, .int .i64 p.hv]).old⟩

set_option maxHeartbeats 1000000 in
theorem new_is (i k : Int) (on : Bool) (v : Vec) (s : Int) (hs : Hid ((if on then (1 : Int) else 0) = s)) (w : World) :
    Calls Try.prog 43 #[.int .u16 i, .int .u32 k, .bool on, .agg #[.int .u64 v.r, .int .u32 v.c, .int .u64 v.b, .int .u16 v.p]] w fun e w' => e = .returned (.agg #[.int .u16 i, .int .i64 s, .int .u32 k, .int .u64 v.r, .int .u32 v.c, .int .u64 v.b, .int .u16 i, .bool false, .bool false, .bool false, .int .i64 0, .bool false, .int .i64 0, .bool false, .int .i64 0]) ∧ Below w.heap.size w w' := by
  have HB := fun W => Lib.hid (become_is ⟨i, s, k, 0, 0, 0, 0, false, false, false, 0, false, 0, false, 0⟩ v W)
  dsimp only at HB
  obtain ⟨wb, hwb, S⟩ := hs_two w 39 49 [.int .u64 v.r, .int .u32 v.c, .int .u64 v.b, .int .u16 v.p] [.int .u16 0, .int .i64 0, .int .u32 0, .int .u64 0, .int .u32 0, .int .u64 0, .int .u16 0, .bool false, .bool false, .bool false, .int .i64 0, .bool false, .int .i64 0, .bool false, .int .i64 0]
  go_enter Try.func43, Try.ntmps43
  go_upto_region 1 with fail
  clear hwb
  obtain ⟨V, hV⟩ : ∃ V, w.heap.size = V := ⟨_, rfl⟩
  rw [hV] at S ⊢
  obtain ⟨Y, hY⟩ : ∃ Y, V + 1 = Y := ⟨_, rfl⟩
  rw [hY] at S ⊢
  go_wp2_with fail
  (with_reducible refine (stop_is _).mono ?_); rintro e w1 ⟨rfl, b1⟩
  have S1 := S.below b1
  clear S b1
  go_wp2_with fail
  (with_reducible refine (stop_is _).mono ?_); rintro e w2 ⟨rfl, b2⟩
  have S2 := S1.below b2
  clear S1 b2
  go_wp2_with fail
  (with_reducible refine (stop_is _).mono ?_); rintro e w3 ⟨rfl, b3⟩
  have S3 := S2.below b3
  clear S2 b3
  go_upto_if 16 with (refine wpList_store_row rfl 49 _ _ rfl _ _ rfl rfl _ _ (heap_alloc_new _ _) (by kernel_rfl) (by kernel_rfl) (by kernel_rfl) ?_)
  rw [alloc_row]
  have S4 := S3.al rfl 49 [.int .u16 i, .int .i64 0, .int .u32 k, .int .u64 0, .int .u32 0, .int .u64 0, .int .u16 0, .bool false, .bool false, .bool false, .int .i64 0, .bool false, .int .i64 0, .bool false, .int .i64 0]
  obtain ⟨Z, hZ⟩ : ∃ Z, w3.heap.size = Z := ⟨_, rfl⟩
  rw [hZ] at S4 ⊢
  generalize w3.alloc (.cells #[.int .u16 i, .int .i64 0, .int .u32 k, .int .u64 0, .int .u32 0, .int .u64 0, .int .u16 0, .bool false, .bool false, .bool false, .int .i64 0, .bool false, .int .i64 0, .bool false, .int .i64 0] 49) = w4 at S4 ⊢
  clear S3 hZ
  cases on with
  | false =>
    obtain rfl : s = 0 := by simpa using hs.out.symm
    have S5 := S4
    clear S4
    have z0 := S5.cell 2 0 rfl rfl
    have z1 := S5.cell 2 1 rfl rfl
    have z2 := S5.cell 2 2 rfl rfl
    have z3 := S5.cell 2 3 rfl rfl
    have hz := S5.bk 0 rfl
    go_upto_region 4 with fail
    go_wp2_with (first | (refine wpList_load_row rfl 49 _ rfl Z rfl _ _ (0, 0) _ hz Try.underlying49 rfl (by kernel_rfl) ?_) | fail)
    (with_reducible refine (HB _).out.mono ?_); rintro e w6 ⟨rfl, b6⟩
    have S6 := S5.below b6
    have hy := S6.bk 1 rfl
    go_wp2_with (refine wpList_store_row rfl 49 _ _ rfl Y _ rfl rfl _ _ hy (by kernel_rfl) (by kernel_rfl) (by kernel_rfl) ?_)
    exact bodyPost_ret (v := .agg #[.int .u16 i, .int .i64 0, .int .u32 k, .int .u64 v.r, .int .u32 v.c, .int .u64 v.b, .int .u16 i, .bool false, .bool false, .bool false, .int .i64 0, .bool false, .int .i64 0, .bool false, .int .i64 0]) (results_cell_row rfl _ _ Y _ _ _ _ rfl (setRow_heap _ _ _ _ _ _ hy) Try.underlying49 rfl (by kernel_rfl)) rfl ⟨rfl, (S6.row 1 rfl [.int .u16 i, .int .i64 0, .int .u32 k, .int .u64 v.r, .int .u32 v.c, .int .u64 v.b, .int .u16 i, .bool false, .bool false, .bool false, .int .i64 0, .bool false, .int .i64 0, .bool false, .int .i64 0]).old⟩
  | true =>
    obtain rfl : s = 1 := by simpa using hs.out.symm
    have y1 := S4.cell 0 1 rfl rfl
    have g1 := S4.thaw 0 1 rfl
    go_upto_region 4 with fail
    have S5 := S4.set 0 rfl 1 (.int .i64 1)
    simp only [List.set] at S5
    generalize w4.setCell ⟨Z, 1, none⟩ (.int .i64 1) = w5 at S5 ⊢
    clear S4 y1 g1
    have z0 := S5.cell 2 0 rfl rfl
    have z1 := S5.cell 2 1 rfl rfl
    have z2 := S5.cell 2 2 rfl rfl
    have z3 := S5.cell 2 3 rfl rfl
    have hz := S5.bk 0 rfl
    go_wp2_with (first | (refine wpList_load_row rfl 49 _ rfl Z rfl _ _ (0, 0) _ hz Try.underlying49 rfl (by kernel_rfl) ?_) | fail)
    (with_reducible refine (HB _).out.mono ?_); rintro e w6 ⟨rfl, b6⟩
    have S6 := S5.below b6
    have hy := S6.bk 1 rfl
    go_wp2_with (refine wpList_store_row rfl 49 _ _ rfl Y _ rfl rfl _ _ hy (by kernel_rfl) (by kernel_rfl) (by kernel_rfl) ?_)
    exact bodyPost_ret (v := .agg #[.int .u16 i, .int .i64 1, .int .u32 k, .int .u64 v.r, .int .u32 v.c, .int .u64 v.b, .int .u16 i, .bool false, .bool false, .bool false, .int .i64 0, .bool false, .int .i64 0, .bool false, .int .i64 0]) (results_cell_row rfl _ _ Y _ _ _ _ rfl (setRow_heap _ _ _ _ _ _ hy) Try.underlying49 rfl (by kernel_rfl)) rfl ⟨rfl, (S6.row 1 rfl [.int .u16 i, .int .i64 1, .int .u32 k, .int .u64 v.r, .int .u32 v.c, .int .u64 v.b, .int .u16 i, .bool false, .bool false, .bool false, .int .i64 0, .bool false, .int .i64 0, .bool false, .int .i64 0]).old⟩

end Go.Proofs.Ytkdbhioneoknjaa
