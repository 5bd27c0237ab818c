/- Several texts in one, one behind the other: PortBlock, Later, PortCells, OwnRows, TreeMem, RankCmp. -/
import Derived.Test.YtnmnihlhcokjpaaDoorPk01
import Derived.Test.YtnmnihlhcokjpaaDoorProg
import Derived.BigQuiet
import Derived.Below
import Derived.Laws.Rows
import Derived.Laws.Tables
import Derived.Deep.MidRow
import Derived.Laws.AppendOwnNone
import Derived.RegionTactic
import Derived.BigRegion

/- Block, Become, New: contracts. -/
namespace Go.Proofs.YtnmnihlhcokjpaaDoor
set_option maxRecDepth 100000
open Go.ChangeShapes Go.WideShapes Go.ChangeAt Go.RowKit
set_option linter.unusedVariables false

theorem block_0 (p : Po) (w : World) :
    Calls Tryd.prog 32 #[.agg #[.int .u16 p.id, .int .i64 0, .int .u32 p.co, .int .u64 p.hr, .int .u32 p.hc, .int .u64 p.hb, .int .u16 p.hp, .bool p.ak, .bool p.pe, .bool p.ao, .int .i64 p.av, .bool p.yo, .int .i64 p.yv, .bool p.ho, .int .i64 p.hv]] w fun e w' => e = .returned (.tuple #[.agg #[.int .u16 p.id, .int .i64 0, .int .u32 p.co, .int .u64 p.hr, .int .u32 p.hc, .int .u64 p.hb, .int .u16 p.hp, .bool p.ak, .bool p.pe, .bool p.ao, .int .i64 p.av, .bool p.yo, .int .i64 p.yv, .bool p.ho, .int .i64 p.hv], .bool false]) ∧ Below w.heap.size w w' := by
  obtain ⟨wb, hwb, S⟩ := hs_two w 42 42 [.int .u16 p.id, .int .i64 0, .int .u32 p.co, .int .u64 p.hr, .int .u32 p.hc, .int .u64 p.hb, .int .u16 p.hp, .bool p.ak, .bool p.pe, .bool p.ao, .int .i64 p.av, .bool p.yo, .int .i64 p.yv, .bool p.ho, .int .i64 p.hv] [.int .u16 0, .int .i64 0, .int .u32 0, .int .u64 0, .int .u32 0, .int .u64 0, .int .u16 0, .bool false, .bool false, .bool false, .int .i64 0, .bool false, .int .i64 0, .bool false, .int .i64 0]
  go_enter Tryd.func32, Tryd.ntmps32
  go_upto_region 1 with fail
  clear hwb
  obtain ⟨X, hX⟩ : ∃ X, w.heap.size = X := ⟨_, rfl⟩
  rw [hX] at S ⊢
  obtain ⟨Y, hY⟩ : ∃ Y, X + 1 = Y := ⟨_, rfl⟩
  rw [hY] at S ⊢
  have c1 := S.cell 1 1 rfl rfl
  have hx := S.bk 1 rfl
  have hy := S.bk 0 rfl
  go_wp2_with (first | (refine wpList_load_row rfl 42 _ rfl X rfl _ _ (0, 0) _ hx Tryd.underlying42 rfl (by kernel_rfl) ?_) | (refine wpList_store_row rfl 42 _ _ rfl Y _ rfl rfl _ _ hy (by kernel_rfl) (by kernel_rfl) (by kernel_rfl) ?_))
  exact bodyPost_ret (v := .tuple #[.agg #[.int .u16 p.id, .int .i64 0, .int .u32 p.co, .int .u64 p.hr, .int .u32 p.hc, .int .u64 p.hb, .int .u16 p.hp, .bool p.ak, .bool p.pe, .bool p.ao, .int .i64 p.av, .bool p.yo, .int .i64 p.yv, .bool p.ho, .int .i64 p.hv], .bool false]) (results_two rfl _ _ Y _ _ _ _ rfl _ rfl (setRow_heap _ _ _ _ _ _ hy) Tryd.underlying42 rfl (by kernel_rfl)) rfl ⟨rfl, (S.row 0 rfl [.int .u16 p.id, .int .i64 0, .int .u32 p.co, .int .u64 p.hr, .int .u32 p.hc, .int .u64 p.hb, .int .u16 p.hp, .bool p.ak, .bool p.pe, .bool p.ao, .int .i64 p.av, .bool p.yo, .int .i64 p.yv, .bool p.ho, .int .i64 p.hv]).old⟩

theorem block_1 (p : Po) (w : World) :
    Calls Tryd.prog 32 #[.agg #[.int .u16 p.id, .int .i64 1, .int .u32 p.co, .int .u64 p.hr, .int .u32 p.hc, .int .u64 p.hb, .int .u16 p.hp, .bool p.ak, .bool p.pe, .bool p.ao, .int .i64 p.av, .bool p.yo, .int .i64 p.yv, .bool p.ho, .int .i64 p.hv]] w fun e w' => e = .returned (.tuple #[.agg #[.int .u16 p.id, .int .i64 1, .int .u32 p.co, .int .u64 p.hr, .int .u32 p.hc, .int .u64 p.hb, .int .u16 p.hp, .bool p.ak, .bool p.pe, .bool p.ao, .int .i64 p.av, .bool p.yo, .int .i64 p.yv, .bool p.ho, .int .i64 p.hv], .bool false]) ∧ Below w.heap.size w w' := by
  obtain ⟨wb, hwb, S⟩ := hs_two w 42 42 [.int .u16 p.id, .int .i64 1, .int .u32 p.co, .int .u64 p.hr, .int .u32 p.hc, .int .u64 p.hb, .int .u16 p.hp, .bool p.ak, .bool p.pe, .bool p.ao, .int .i64 p.av, .bool p.yo, .int .i64 p.yv, .bool p.ho, .int .i64 p.hv] [.int .u16 0, .int .i64 0, .int .u32 0, .int .u64 0, .int .u32 0, .int .u64 0, .int .u16 0, .bool false, .bool false, .bool false, .int .i64 0, .bool false, .int .i64 0, .bool false, .int .i64 0]
  go_enter Tryd.func32, Tryd.ntmps32
  go_upto_region 1 with fail
  clear hwb
  obtain ⟨X, hX⟩ : ∃ X, w.heap.size = X := ⟨_, rfl⟩
  rw [hX] at S ⊢
  obtain ⟨Y, hY⟩ : ∃ Y, X + 1 = Y := ⟨_, rfl⟩
  rw [hY] at S ⊢
  have c1 := S.cell 1 1 rfl rfl
  have hx := S.bk 1 rfl
  have hy := S.bk 0 rfl
  go_wp2_with (first | (refine wpList_load_row rfl 42 _ rfl X rfl _ _ (0, 0) _ hx Tryd.underlying42 rfl (by kernel_rfl) ?_) | (refine wpList_store_row rfl 42 _ _ rfl Y _ rfl rfl _ _ hy (by kernel_rfl) (by kernel_rfl) (by kernel_rfl) ?_))
  exact bodyPost_ret (v := .tuple #[.agg #[.int .u16 p.id, .int .i64 1, .int .u32 p.co, .int .u64 p.hr, .int .u32 p.hc, .int .u64 p.hb, .int .u16 p.hp, .bool p.ak, .bool p.pe, .bool p.ao, .int .i64 p.av, .bool p.yo, .int .i64 p.yv, .bool p.ho, .int .i64 p.hv], .bool false]) (results_two rfl _ _ Y _ _ _ _ rfl _ rfl (setRow_heap _ _ _ _ _ _ hy) Tryd.underlying42 rfl (by kernel_rfl)) rfl ⟨rfl, (S.row 0 rfl [.int .u16 p.id, .int .i64 1, .int .u32 p.co, .int .u64 p.hr, .int .u32 p.hc, .int .u64 p.hb, .int .u16 p.hp, .bool p.ak, .bool p.pe, .bool p.ao, .int .i64 p.av, .bool p.yo, .int .i64 p.yv, .bool p.ho, .int .i64 p.hv]).old⟩

theorem block_off (p : Po) (h0 : ¬ p.st = 0) (h1 : ¬ p.st = 1) (w : World) :
    Calls Tryd.prog 32 #[.agg #[.int .u16 p.id, .int .i64 p.st, .int .u32 p.co, .int .u64 p.hr, .int .u32 p.hc, .int .u64 p.hb, .int .u16 p.hp, .bool p.ak, .bool p.pe, .bool p.ao, .int .i64 p.av, .bool p.yo, .int .i64 p.yv, .bool p.ho, .int .i64 p.hv]] w fun e w' => e = .returned (.tuple #[.agg #[.int .u16 p.id, .int .i64 1, .int .u32 p.co, .int .u64 p.hr, .int .u32 p.hc, .int .u64 p.hb, .int .u16 p.hp, .bool p.ak, .bool p.pe, .bool p.ao, .int .i64 p.av, .bool false, .int .i64 0, .bool p.ho, .int .i64 p.hv], .bool (learnsB p.st)]) ∧ Below w.heap.size w w' := by
  have b0 : (p.st == 0) = false := by simpa using h0
  have b1 : (p.st == 1) = false := by simpa using h1
  obtain ⟨q, hq⟩ : ∃ q, learnsB p.st = q := ⟨_, rfl⟩
  have HL := fun W => Lib.hid (learns_is p.st q (Lib.hid hq) W)
  rw [hq]
  clear hq
  obtain ⟨wb, hwb, S⟩ := hs_two w 42 42 [.int .u16 p.id, .int .i64 p.st, .int .u32 p.co, .int .u64 p.hr, .int .u32 p.hc, .int .u64 p.hb, .int .u16 p.hp, .bool p.ak, .bool p.pe, .bool p.ao, .int .i64 p.av, .bool p.yo, .int .i64 p.yv, .bool p.ho, .int .i64 p.hv] [.int .u16 0, .int .i64 0, .int .u32 0, .int .u64 0, .int .u32 0, .int .u64 0, .int .u16 0, .bool false, .bool false, .bool false, .int .i64 0, .bool false, .int .i64 0, .bool false, .int .i64 0]
  go_enter Tryd.func32, Tryd.ntmps32
  go_upto_region 1 with fail
  clear hwb
  obtain ⟨X, hX⟩ : ∃ X, w.heap.size = X := ⟨_, rfl⟩
  rw [hX] at S ⊢
  obtain ⟨Y, hY⟩ : ∃ Y, X + 1 = Y := ⟨_, rfl⟩
  rw [hY] at S ⊢
  have c1 := S.cell 1 1 rfl rfl
  have f1 := S.thaw 1 1 rfl
  go_wp2_with fail
  (with_reducible refine (HL _).out.mono ?_); rintro e w1 ⟨rfl, rfl⟩
  go_wp2_with fail
  have S1 := S.set 1 rfl 1 (.int .i64 1)
  simp only [List.set] at S1
  (with_reducible refine (stop_is _).mono ?_); rintro e w1 ⟨rfl, b1⟩
  have S2 := S1.below b1
  clear S S1 b1 c1 f1
  have d11 := S2.cell 1 11 rfl rfl
  have d12 := S2.cell 1 12 rfl rfl
  have f11 := S2.thaw 1 11 rfl
  have f12 := S2.thaw 1 12 rfl
  go_upto_region 8 with fail
  have S3 := (S2.set 1 rfl 11 (.bool false)).set 1 rfl 12 (.int .i64 0)
  simp only [List.set] at S3
  generalize (w1.setCell ⟨X, 11, none⟩ (.bool false)).setCell ⟨X, 12, none⟩ (.int .i64 0) = w2 at S3 ⊢
  clear S2 d11 d12 f11 f12
  have hx := S3.bk 1 rfl
  have hy := S3.bk 0 rfl
  go_wp2_with (first | (refine wpList_load_row rfl 42 _ rfl X rfl _ _ (0, 0) _ hx Tryd.underlying42 rfl (by kernel_rfl) ?_) | (refine wpList_store_row rfl 42 _ _ rfl Y _ rfl rfl _ _ hy (by kernel_rfl) (by kernel_rfl) (by kernel_rfl) ?_))
  exact bodyPost_ret (v := .tuple #[.agg #[.int .u16 p.id, .int .i64 1, .int .u32 p.co, .int .u64 p.hr, .int .u32 p.hc, .int .u64 p.hb, .int .u16 p.hp, .bool p.ak, .bool p.pe, .bool p.ao, .int .i64 p.av, .bool false, .int .i64 0, .bool p.ho, .int .i64 p.hv], .bool q]) (results_two rfl _ _ Y _ _ _ _ rfl _ rfl (setRow_heap _ _ _ _ _ _ hy) Tryd.underlying42 rfl (by kernel_rfl)) rfl ⟨rfl, (S3.row 0 rfl [.int .u16 p.id, .int .i64 1, .int .u32 p.co, .int .u64 p.hr, .int .u32 p.hc, .int .u64 p.hb, .int .u16 p.hp, .bool p.ak, .bool p.pe, .bool p.ao, .int .i64 p.av, .bool false, .int .i64 0, .bool p.ho, .int .i64 p.hv]).old⟩

theorem block_is (p q : Po) (x : Bool) (h : Hid (blockP p = (q, x))) (w : World) :
    Calls Tryd.prog 32 #[.agg #[.int .u16 p.id, .int .i64 p.st, .int .u32 p.co, .int .u64 p.hr, .int .u32 p.hc, .int .u64 p.hb, .int .u16 p.hp, .bool p.ak, .bool p.pe, .bool p.ao, .int .i64 p.av, .bool p.yo, .int .i64 p.yv, .bool p.ho, .int .i64 p.hv]] w fun e w' => e = .returned (.tuple #[.agg #[.int .u16 q.id, .int .i64 q.st, .int .u32 q.co, .int .u64 q.hr, .int .u32 q.hc, .int .u64 q.hb, .int .u16 q.hp, .bool q.ak, .bool q.pe, .bool q.ao, .int .i64 q.av, .bool q.yo, .int .i64 q.yv, .bool q.ho, .int .i64 q.hv], .bool x]) ∧ Below w.heap.size w w' := by
  have h := h.out
  unfold blockP at h
  by_cases c : p.st = 0
  · rw [if_pos (.inl c)] at h
    cases h
    have := block_0 p w
    rwa [← c] at this
  · by_cases d : p.st = 1
    · rw [if_pos (.inr d)] at h
      cases h
      have := block_1 p w
      rwa [← d] at this
    · rw [if_neg (fun e => e.elim c d)] at h
      cases h
      exact block_off p c d w

theorem become_is (p : Po) (v : Vec) (w : World) :
    Calls Tryd.prog 53 #[.agg #[.int .u16 p.id, .int .i64 p.st, .int .u32 p.co, .int .u64 p.hr, .int .u32 p.hc, .int .u64 p.hb, .int .u16 p.hp, .bool p.ak, .bool p.pe, .bool p.ao, .int .i64 p.av, .bool p.yo, .int .i64 p.yv, .bool p.ho, .int .i64 p.hv], .agg #[.int .u64 v.r, .int .u32 v.c, .int .u64 v.b, .int .u16 v.p]] w fun e w' => e = .returned (.agg #[.int .u16 p.id, .int .i64 p.st, .int .u32 p.co, .int .u64 v.r, .int .u32 v.c, .int .u64 v.b, .int .u16 p.id, .bool p.ak, .bool p.pe, .bool p.ao, .int .i64 p.av, .bool p.yo, .int .i64 p.yv, .bool p.ho, .int .i64 p.hv]) ∧ Below w.heap.size w w' := by
  obtain ⟨wb, hwb, S⟩ := hs_three w 42 40 42 [.int .u16 p.id, .int .i64 p.st, .int .u32 p.co, .int .u64 p.hr, .int .u32 p.hc, .int .u64 p.hb, .int .u16 p.hp, .bool p.ak, .bool p.pe, .bool p.ao, .int .i64 p.av, .bool p.yo, .int .i64 p.yv, .bool p.ho, .int .i64 p.hv] [.int .u64 v.r, .int .u32 v.c, .int .u64 v.b, .int .u16 v.p] [.int .u16 0, .int .i64 0, .int .u32 0, .int .u64 0, .int .u32 0, .int .u64 0, .int .u16 0, .bool false, .bool false, .bool false, .int .i64 0, .bool false, .int .i64 0, .bool false, .int .i64 0]
  go_enter Tryd.func53, Tryd.ntmps53
  go_upto_region 1 with fail
  clear hwb
  obtain ⟨X, hX⟩ : ∃ X, w.heap.size = X := ⟨_, rfl⟩
  rw [hX] at S ⊢
  obtain ⟨V, hV⟩ : ∃ V, X + 1 = V := ⟨_, rfl⟩
  rw [hV] at S ⊢
  obtain ⟨Y, hY⟩ : ∃ Y, V + 1 = Y := ⟨_, rfl⟩
  rw [hY] at S ⊢
  have v0 := S.cell 1 0 rfl rfl
  have v1 := S.cell 1 1 rfl rfl
  have v2 := S.cell 1 2 rfl rfl
  have v3 := S.cell 1 3 rfl rfl
  have c0 := S.cell 2 0 rfl rfl
  have c3 := S.cell 2 3 rfl rfl
  have c4 := S.cell 2 4 rfl rfl
  have c5 := S.cell 2 5 rfl rfl
  have c6 := S.cell 2 6 rfl rfl
  have f3 := S.thaw 2 3 rfl
  have f4 := S.thaw 2 4 rfl
  have f5 := S.thaw 2 5 rfl
  have f6 := S.thaw 2 6 rfl
  go_upto_region 3 with fail
  have S3 := ((((S.set 2 rfl 3 (.int .u64 v.r)).set 2 rfl 4 (.int .u32 v.c)).set 2 rfl 5 (.int .u64 v.b)).set 2 rfl 6 (.int .u16 v.p)).set 2 rfl 6 (.int .u16 p.id)
  simp only [List.set] at S3
  generalize ((((wb.setCell ⟨X, 3, none⟩ (.int .u64 v.r)).setCell ⟨X, 4, none⟩ (.int .u32 v.c)).setCell ⟨X, 5, none⟩ (.int .u64 v.b)).setCell ⟨X, 6, none⟩ (.int .u16 v.p)).setCell ⟨X, 6, none⟩ (.int .u16 p.id) = w2 at S3 ⊢
  clear S v0 v1 v2 v3 c0 c3 c4 c5 c6 f3 f4 f5 f6
  have hx := S3.bk 2 rfl
  have hy := S3.bk 0 rfl
  go_wp2_with (first | (refine wpList_load_row rfl 42 _ rfl X rfl _ _ (0, 0) _ hx Tryd.underlying42 rfl (by kernel_rfl) ?_) | (refine wpList_store_row rfl 42 _ _ rfl Y _ rfl rfl _ _ hy (by kernel_rfl) (by kernel_rfl) (by kernel_rfl) ?_))
  exact bodyPost_ret (v := .agg #[.int .u16 p.id, .int .i64 p.st, .int .u32 p.co, .int .u64 v.r, .int .u32 v.c, .int .u64 v.b, .int .u16 p.id, .bool p.ak, .bool p.pe, .bool p.ao, .int .i64 p.av, .bool p.yo, .int .i64 p.yv, .bool p.ho, .int .i64 p.hv]) (results_cell_row rfl _ _ Y _ _ _ _ rfl (setRow_heap _ _ _ _ _ _ hy) Tryd.underlying42 rfl (by kernel_rfl)) rfl ⟨rfl, (S3.row 0 rfl [.int .u16 p.id, .int .i64 p.st, .int .u32 p.co, .int .u64 v.r, .int .u32 v.c, .int .u64 v.b, .int .u16 p.id, .bool p.ak, .bool p.pe, .bool p.ao, .int .i64 p.av, .bool p.yo, .int .i64 p.yv, .bool p.ho, .int .i64 p.hv]).old⟩

set_option maxHeartbeats 1000000 in
theorem new_is (i k : Int) (on : Bool) (v : Vec) (s : Int) (hs : Hid ((if on then (1 : Int) else 0) = s)) (w : World) :
    Calls Tryd.prog 35 #[.int .u16 i, .int .u32 k, .bool on, .agg #[.int .u64 v.r, .int .u32 v.c, .int .u64 v.b, .int .u16 v.p]] w fun e w' => e = .returned (.agg #[.int .u16 i, .int .i64 s, .int .u32 k, .int .u64 v.r, .int .u32 v.c, .int .u64 v.b, .int .u16 i, .bool false, .bool false, .bool false, .int .i64 0, .bool false, .int .i64 0, .bool false, .int .i64 0]) ∧ Below w.heap.size w w' := by
  have HB := fun W => Lib.hid (become_is ⟨i, s, k, 0, 0, 0, 0, false, false, false, 0, false, 0, false, 0⟩ v W)
  dsimp only at HB
  obtain ⟨wb, hwb, S⟩ := hs_two w 40 42 [.int .u64 v.r, .int .u32 v.c, .int .u64 v.b, .int .u16 v.p] [.int .u16 0, .int .i64 0, .int .u32 0, .int .u64 0, .int .u32 0, .int .u64 0, .int .u16 0, .bool false, .bool false, .bool false, .int .i64 0, .bool false, .int .i64 0, .bool false, .int .i64 0]
  go_enter Tryd.func35, Tryd.ntmps35
  go_upto_region 1 with fail
  clear hwb
  obtain ⟨V, hV⟩ : ∃ V, w.heap.size = V := ⟨_, rfl⟩
  rw [hV] at S ⊢
  obtain ⟨Y, hY⟩ : ∃ Y, V + 1 = Y := ⟨_, rfl⟩
  rw [hY] at S ⊢
  go_wp2_with fail
  (with_reducible refine (stop_is _).mono ?_); rintro e w1 ⟨rfl, b1⟩
  have S1 := S.below b1
  clear S b1
  go_wp2_with fail
  (with_reducible refine (stop_is _).mono ?_); rintro e w2 ⟨rfl, b2⟩
  have S2 := S1.below b2
  clear S1 b2
  go_wp2_with fail
  (with_reducible refine (stop_is _).mono ?_); rintro e w3 ⟨rfl, b3⟩
  have S3 := S2.below b3
  clear S2 b3
  go_upto_if 16 with (refine wpList_store_row rfl 42 _ _ rfl _ _ rfl rfl _ _ (heap_alloc_new _ _) (by kernel_rfl) (by kernel_rfl) (by kernel_rfl) ?_)
  rw [alloc_row]
  have S4 := S3.al rfl 42 [.int .u16 i, .int .i64 0, .int .u32 k, .int .u64 0, .int .u32 0, .int .u64 0, .int .u16 0, .bool false, .bool false, .bool false, .int .i64 0, .bool false, .int .i64 0, .bool false, .int .i64 0]
  obtain ⟨Z, hZ⟩ : ∃ Z, w3.heap.size = Z := ⟨_, rfl⟩
  rw [hZ] at S4 ⊢
  generalize w3.alloc (.cells #[.int .u16 i, .int .i64 0, .int .u32 k, .int .u64 0, .int .u32 0, .int .u64 0, .int .u16 0, .bool false, .bool false, .bool false, .int .i64 0, .bool false, .int .i64 0, .bool false, .int .i64 0] 42) = w4 at S4 ⊢
  clear S3 hZ
  cases on with
  | false =>
    obtain rfl : s = 0 := by simpa using hs.out.symm
    have S5 := S4
    clear S4
    have z0 := S5.cell 2 0 rfl rfl
    have z1 := S5.cell 2 1 rfl rfl
    have z2 := S5.cell 2 2 rfl rfl
    have z3 := S5.cell 2 3 rfl rfl
    have hz := S5.bk 0 rfl
    go_upto_region 4 with fail
    go_wp2_with (first | (refine wpList_load_row rfl 42 _ rfl Z rfl _ _ (0, 0) _ hz Tryd.underlying42 rfl (by kernel_rfl) ?_) | fail)
    (with_reducible refine (HB _).out.mono ?_); rintro e w6 ⟨rfl, b6⟩
    have S6 := S5.below b6
    have hy := S6.bk 1 rfl
    go_wp2_with (refine wpList_store_row rfl 42 _ _ rfl Y _ rfl rfl _ _ hy (by kernel_rfl) (by kernel_rfl) (by kernel_rfl) ?_)
    exact bodyPost_ret (v := .agg #[.int .u16 i, .int .i64 0, .int .u32 k, .int .u64 v.r, .int .u32 v.c, .int .u64 v.b, .int .u16 i, .bool false, .bool false, .bool false, .int .i64 0, .bool false, .int .i64 0, .bool false, .int .i64 0]) (results_cell_row rfl _ _ Y _ _ _ _ rfl (setRow_heap _ _ _ _ _ _ hy) Tryd.underlying42 rfl (by kernel_rfl)) rfl ⟨rfl, (S6.row 1 rfl [.int .u16 i, .int .i64 0, .int .u32 k, .int .u64 v.r, .int .u32 v.c, .int .u64 v.b, .int .u16 i, .bool false, .bool false, .bool false, .int .i64 0, .bool false, .int .i64 0, .bool false, .int .i64 0]).old⟩
  | true =>
    obtain rfl : s = 1 := by simpa using hs.out.symm
    have y1 := S4.cell 0 1 rfl rfl
    have g1 := S4.thaw 0 1 rfl
    go_upto_region 4 with fail
    have S5 := S4.set 0 rfl 1 (.int .i64 1)
    simp only [List.set] at S5
    generalize w4.setCell ⟨Z, 1, none⟩ (.int .i64 1) = w5 at S5 ⊢
    clear S4 y1 g1
    have z0 := S5.cell 2 0 rfl rfl
    have z1 := S5.cell 2 1 rfl rfl
    have z2 := S5.cell 2 2 rfl rfl
    have z3 := S5.cell 2 3 rfl rfl
    have hz := S5.bk 0 rfl
    go_wp2_with (first | (refine wpList_load_row rfl 42 _ rfl Z rfl _ _ (0, 0) _ hz Tryd.underlying42 rfl (by kernel_rfl) ?_) | fail)
    (with_reducible refine (HB _).out.mono ?_); rintro e w6 ⟨rfl, b6⟩
    have S6 := S5.below b6
    have hy := S6.bk 1 rfl
    go_wp2_with (refine wpList_store_row rfl 42 _ _ rfl Y _ rfl rfl _ _ hy (by kernel_rfl) (by kernel_rfl) (by kernel_rfl) ?_)
    exact bodyPost_ret (v := .agg #[.int .u16 i, .int .i64 1, .int .u32 k, .int .u64 v.r, .int .u32 v.c, .int .u64 v.b, .int .u16 i, .bool false, .bool false, .bool false, .int .i64 0, .bool false, .int .i64 0, .bool false, .int .i64 0]) (results_cell_row rfl _ _ Y _ _ _ _ rfl (setRow_heap _ _ _ _ _ _ hy) Tryd.underlying42 rfl (by kernel_rfl)) rfl ⟨rfl, (S6.row 1 rfl [.int .u16 i, .int .i64 1, .int .u32 k, .int .u64 v.r, .int .u32 v.c, .int .u64 v.b, .int .u16 i, .bool false, .bool false, .bool false, .int .i64 0, .bool false, .int .i64 0, .bool false, .int .i64 0]).old⟩

end Go.Proofs.YtnmnihlhcokjpaaDoor

/- A region that draws its order, whose operations only read, and whose callees leave all that is older as it lay (they may draw, and lay blocks of their own, and write there): walked once, in the order of the text. The how-to's theorem on quiet regions, at the class 'the worlds that agree with w below its end'. -/
namespace Go.Proofs.YtnmnihlhcokjpaaDoor
set_option maxRecDepth 100000
open Go.RowKit
set_option linter.unusedVariables false

/-- A world that agrees with w on all blocks that w has. -/
structure LaterW (w : World) where
  w' : World
  h : Below w.heap.size w w'

instance (w : World) : Inhabited (LaterW w) := ⟨⟨w, Below.refl _ _⟩⟩

theorem region_later {P : Program} {id : Nat} {Q : Exit → Act → World → Prop} {a : Act} {w : World} {l : List Oper} (hm : P.follows .mixedOrders = true) (hB : Region.lexB .any l.toArray = true)
    (h : wpQuiet P l.toArray (fun v => ∃ p : LaterW w, v = p.w') (fun a' => ∀ v, (∃ p : LaterW w, v = p.w') → Q .normal a' v) l a) : (Code.region id l.toArray true).wp P Q a w :=
  wp_region_quiet (C := fun v => ∃ p : LaterW w, v = p.w') hm hB ⟨⟨w.drew, (Below.refl _ _).drew⟩, rfl⟩ (by simpa using h)

/-- A callee's contract, met in a world of the class. -/
theorem Calls.later {P : Program} {f : FuncId} {args : Array Value} {w : World} {q : LaterW w} {v : Value}
    (h : Calls P f args q.w' fun e v' => e = .returned v ∧ Below q.w'.heap.size q.w' v') : Calls P f args q.w' fun e v' => e = .returned v ∧ ∃ p : LaterW w, v' = p.w' :=
  h.mono fun _ v' ⟨he, hb⟩ => ⟨he, ⟨v', q.h.trans (hb.mono q.h.size)⟩, rfl⟩
theorem mixedL : Tryd.prog.follows .mixedOrders = true := by kernel_rfl

end Go.Proofs.YtnmnihlhcokjpaaDoor

/- A port's row under a name, so that a walk's slots stay small; a whole row loaded and stored, as the walk's simp meets it. -/
namespace Go.Proofs.YtnmnihlhcokjpaaDoor
set_option maxRecDepth 100000
open Go.ChangeShapes Go.WideShapes Go.ChangeAt Go.RowKit
set_option linter.unusedVariables false

section
variable {P : Program}
end

/-- A whole block in every later world. -/
theorem Hs.bkq {w wx : World} {l : List (Nat × TypeId × List Value)} (h : Hs w l wx) (k : Nat) {g : Nat} {T : TypeId} {cs : List Value} (hk : l[k]? = some (g, T, cs)) (v : World) (hv : ∃ q : LaterW wx, v = q.w') :
    v.heap[g]? = some (.cells cs.toArray T (0, 0)) := by
  obtain ⟨q, rfl⟩ := hv
  exact (h.below q.h).bk k hk
/-- A whole load in a region that draws its order. -/
theorem quiet_load_row {P : Program} {C : World → Prop} {o : Oper} {a : Act} {K : Act → Prop} (ty : TypeId) (x : Operand) (ho : o.op = .load ty x)
    (g : Nat) (hx : a.eval x = .pointer (some ⟨g, 0, none⟩)) (t : TypeId) (cs : Array Value) (fr : Nat × Nat) (d : TypeDesc) (hg : ∀ w, C w → w.heap[g]? = some (.cells cs t fr))
    (hu : P.underlying ty = some d) (hd : (match d with | .struct _ | .array _ _ => true | _ => false) = true) (hi : (P.info? ty).map (·.size) = some cs.size)
    (h : K (a.put o.dst (.agg cs))) : o.quiet P a C K := by
  refine ⟨.agg cs, fun w hw => ?_, h⟩
  unfold Oper.quietAt execOp
  simp only [ho, hx, Instr.loadAt, Instr.sureAddr, Sem.run_bind, Sem.run_pure, Result.andThen_ok, run_loadVar_row w g t ty cs fr d (hg w hw) hu hd hi]
  exact ⟨rfl, rfl⟩

/-- A port's cells. -/
def lP (p : Po) : List Value := [.int .u16 p.id, .int .i64 p.st, .int .u32 p.co, .int .u64 p.hr, .int .u32 p.hc, .int .u64 p.hb, .int .u16 p.hp, .bool p.ak, .bool p.pe, .bool p.ao, .int .i64 p.av, .bool p.yo, .int .i64 p.yv, .bool p.ho, .int .i64 p.hv]
theorem lP_len (p : Po) : (lP p).length = 15 := rfl
theorem lP_one (p : Po) : (lP p).all (·.oneCell') = true := rfl

theorem rise_row (p q : Po) (h : Hid (riseP p = q)) (w : World) :
    Calls Tryd.prog 29 #[.agg (lP p).toArray] w fun e w' => e = .returned (.agg (lP q).toArray) ∧ Below w.heap.size w w' := rise_is p q h w
theorem block_row (p q : Po) (x : Bool) (h : Hid (blockP p = (q, x))) (w : World) :
    Calls Tryd.prog 32 #[.agg (lP p).toArray] w fun e w' => e = .returned (.tuple #[.agg (lP q).toArray, .bool x]) ∧ Below w.heap.size w w' := block_is p q x h w
end Go.Proofs.YtnmnihlhcokjpaaDoor

/- Rows of elements of so many cells each that a call itself made: words of this work's own, over any program. -/
namespace Go.Proofs.YtnmnihlhcokjpaaDoor
set_option maxRecDepth 100000
open Go Go.RowKit

theorem new_below (w : World) (o : Obj) : Below w.heap.size w (w.alloc o) := (Below.refl _ _).alloc (Nat.le_refl _) _
section
variable {α : Type} {enc : α → List Value} {s : Nat}

/-- All elements' cells, one behind the other. -/
def cellsOf (enc : α → List Value) : List α → List Value
  | [] => []
  | p :: r => enc p ++ cellsOf enc r

theorem cellsOf_len (he : ∀ p, (enc p).length = s) : ∀ l : List α, (cellsOf enc l).length = l.length * s
  | [] => by simp [cellsOf]
  | p :: r => by simp [cellsOf, he, cellsOf_len he r, Nat.add_mul]; omega

theorem cellsOf_get (he : ∀ p, (enc p).length = s) : ∀ (l : List α) (i : Nat) (p : α) (c : Nat), l[i]? = some p → c < s → (cellsOf enc l)[i * s + c]? = (enc p)[c]?
  | [], i, p, c, h, _ => by simp at h
  | q :: r, 0, p, c, h, hc => by
    simp at h; subst h
    simp only [cellsOf, Nat.zero_mul, Nat.zero_add]
    rw [List.getElem?_append_left (by rw [he]; exact hc)]
  | q :: r, i + 1, p, c, h, hc => by
    simp only [cellsOf]
    have e : (i + 1) * s = i * s + s := Nat.succ_mul i s
    rw [List.getElem?_append_right (by rw [he]; omega), he, ← cellsOf_get he r i p c (by simpa using h) hc]
    congr 1
    omega

theorem cellsOf_append : ∀ (a b : List α), cellsOf enc (a ++ b) = cellsOf enc a ++ cellsOf enc b
  | [], _ => rfl
  | p :: r, b => by simp only [List.cons_append, cellsOf, cellsOf_append r b, List.append_assoc]

theorem cellsOf_snoc (a : List α) (p : α) : cellsOf enc (a ++ [p]) = cellsOf enc a ++ enc p := by
  rw [cellsOf_append]; simp [cellsOf]

/-- The slice v, of l's elements, is a row of the call's own. -/
def OwnL (enc : α → List Value) (s : Nat) (e : TypeId) (w : World) (base : Nat) (v : Value) (l : List α) : Prop := w.ownsRow base e s v l.length (cellsOf enc l)

theorem OwnL.nil (e : TypeId) (w : World) (base : Nat) : OwnL enc s e w base (.slice none 0 0) [] := World.ownsRow_nil w base e s

theorem OwnL.mono {e : TypeId} {w : World} {base base' : Nat} {v : Value} {l : List α} (h : OwnL enc s e w base v l) (hb : base' ≤ base) : OwnL enc s e w base' v l := by
  refine ⟨h.1, ?_⟩
  rcases h.2 with h2 | ⟨g, cap, cur, hv, hg, r⟩
  · exact .inl h2
  · exact .inr ⟨g, cap, cur, hv, by omega, r⟩

theorem OwnL.drew {e : TypeId} {w : World} {base : Nat} {v : Value} {l : List α} (h : OwnL enc s e w base v l) : OwnL enc s e w.drew base v l := h

theorem OwnL.below {e : TypeId} {w w' : World} {base : Nat} {v : Value} {l : List α} (h : OwnL enc s e w base v l) (hb : Below w.heap.size w w') : OwnL enc s e w' base v l :=
  World.ownsRow.kept (row := none) h ⟨hb.os, hb.tape, hb.output, hb.size, fun k hk _ => hb.block k hk⟩ (by cases v.ownBlock <;> simp)

theorem OwnL.but {e : TypeId} {w w' : World} {base g : Nat} {v : Value} {l : List α} (h : OwnL enc s e w base v l) (hb : w.grownBy w' (some g)) (hg : g < base) : OwnL enc s e w' base v l :=
  World.ownsRow.kept h hb (.inr fun e => by have := World.ownsRow.lt h g e; omega)

theorem OwnL.shape {e : TypeId} {w : World} {base : Nat} {v : Value} {l : List α} (h : OwnL enc s e w base v l) : ∃ A cap, v = .slice A l.length cap := by
  rcases h.2 with ⟨hv, hn⟩ | ⟨g, cap, _, hv, _⟩
  · exact ⟨none, 0, by rw [hv, hn]⟩
  · exact ⟨_, cap, hv⟩

theorem OwnL.at {e : TypeId} {w : World} {base cap n : Nat} {A : Option Addr} {l : List α} (h : OwnL enc s e w base (.slice A n cap) l) (he : ∀ p, (enc p).length = s) {k : Nat} {p : α} (hk : l[k]? = some p) :
    ∃ g, A = some ⟨g, 0, none⟩ ∧ base ≤ g ∧ g < w.heap.size ∧ ∀ c, c < s → w.cell? ⟨g, k * s + c, none⟩ = (enc p)[c]? := by
  have hkl : k < l.length := by
    rcases Nat.lt_or_ge k l.length with q | q
    · exact q
    · rw [List.getElem?_eq_none q] at hk; cases hk
  have hlt := World.ownsRow.lt h
  rcases h.2 with ⟨_, hn⟩ | ⟨g, cap', cur, hv, hb, hr⟩
  · omega
  · cases hv
    have h' : w.ownsRow base e s (.slice (some ⟨g, 0, none⟩) l.length cap) l.length (cellsOf enc l) := h
    refine ⟨g, rfl, hb, (hlt g rfl).2, fun c hc => ?_⟩
    have hb2 : k * s + c < l.length * s := by
      have := Nat.mul_le_mul_right s (show k + 1 ≤ l.length from hkl)
      rw [Nat.add_mul, Nat.one_mul] at this
      omega
    rw [h'.cellAt _ hb2, cellsOf_get he l k p c hk hc]

theorem grow_trans {w a b : World} {r : Option Nat} (h : w.grownBy a r) (k : a.grownBy b r) : w.grownBy b r :=
  ⟨k.os.trans h.os, k.tape.trans h.tape, k.output.trans h.output, Nat.le_trans h.size k.size, fun i hi hn => (k.block i (Nat.lt_of_lt_of_le hi h.size) hn).trans (h.block i hi hn)⟩

theorem owns_row_some {w : World} {base e n sz : Nat} {v : Value} {xs : List Value} (h : w.ownsRow base e sz v n xs) (hn : 0 < n) : ∃ g cap, v = .slice (some ⟨g, 0, none⟩) n cap ∧ base ≤ g := by
  rcases h.2 with ⟨_, h0⟩ | ⟨g, cap, cur, hv, hb, _⟩
  · omega
  · exact ⟨g, cap, hv, hb⟩

/-- One element appended to such a row. -/
theorem append_elem {P : Program} (wr : World) {ops : Array Oper} {rest : List Oper} {o : Oper} {a : Act} {Q : Exit → Act → World → Prop}
    (hg : o.guard = none) (sl x : Operand) (t : TypeId) (hop : o.op = Op.call { callee := Callee.builtin Builtin.append, args := #[sl, x], argTypes := #[t, t] })
    (base : Nat) (e : TypeId) (i : TypeInfo) (z : Value) (bytes : Nat) (h1 : P.underlying t = some (.slice e)) (h2 : P.info? e = some i) (hz : i.zero = some z) (hsz : i.size = s) (hby : i.bytes = bytes) (hzs : z.cells.size = s) (hs0 : 0 < s)
    (he : ∀ p, (enc p).length = s) (hone : ∀ p, ∀ u ∈ enc p, u.oneCell' = true)
    (v : Value) (l : List α) (p : α) (hs : a.eval sl = v) (hown : OwnL enc s e wr base v l) (N : Nat) (hx : a.eval x = .slice (some ⟨N, 0, none⟩) 1 1) (hN : N = wr.heap.size)
    (hle : l.length ≤ 100000) (hby2 : bytes ≤ 1000) (B : Nat) (w0 : World) (hnx : Below B w0 wr) (hB : B ≤ base) (hbase : base ≤ wr.heap.size)
    (hK : ∀ g cap w', base ≤ g → OwnL enc s e w' base (.slice (some ⟨g, 0, none⟩) (l.length + 1) cap) (l ++ [p]) → Below B w0 w' → wr.grownBy w' v.ownBlock → wpList P ops Q rest (a.put o.dst (.slice (some ⟨g, 0, none⟩) (l.length + 1) cap)) w') :
    wpList P ops Q (o :: rest) a (wr.alloc (.cells (enc p).toArray e)) := by
  subst hN
  refine wpList_append_own _ hg sl x t hop base e i z s bytes h1 h2 hz hsz hby hzs hs0 v l.length (cellsOf enc l) hs (World.ownsRow.alloc hown _) ⟨wr.heap.size, 0, none⟩ 1 1 (enc p) hx (by rw [he, Nat.one_mul]) ?_ (hone p) ?_ ?_ (by simp; omega) ?_
  · intro j u hj
    rw [addr_add, Nat.zero_add, World.cell?_alloc_at _ _ _ _ rfl]
    simpa using hj
  · unfold maxLen; omega
  · have : (l.length + 1) * bytes ≤ 100001 * 1000 := Nat.mul_le_mul (by omega) hby2
    omega
  · intro v' w' ho hgr _
    obtain ⟨g, cap, rfl, hgb⟩ := owns_row_some ho (by omega)
    refine hK g cap w' hgb ?_ ?_ ?_
    · unfold OwnL
      rw [List.length_append, cellsOf_snoc]
      exact ho
    · exact (hnx.alloc (by omega) _).grown hgr (by simp; omega) (fun k hk => by have := World.ownsRow.lt hown k hk; omega)
    · exact grow_trans (World.grownBy_alloc wr _ _) hgr

end

end Go.Proofs.YtnmnihlhcokjpaaDoor

/- A bridge's view: its row under a name; its ports in memory, handed in, or of the call's own. -/
namespace Go.Proofs.YtnmnihlhcokjpaaDoor
set_option maxRecDepth 100000
open Go.ChangeShapes Go.WideShapes Go.ChangeAt Go.RowKit
set_option linter.unusedVariables false

/-- A view without its ports. -/
structure Th where
  ow : Int
  ro : Int
  co : Int
  rp : Int
  n1 : Int
  n2 : Int
  n3 : Int
  m1 : Int
  m2 : Int
  m3 : Int
  de : Bool
  ch : Bool
  ho : Bool
  hv : Int
  xo : Bool
  xv : Int
  zo : Bool
  zv : Int

/-- A view's cells. -/
def lT (t : Th) (A : Option Addr) (n cap : Nat) : List Value := [.int .u64 t.ow, .int .u64 t.ro, .int .u32 t.co, .int .i64 t.rp, .int .i64 t.n1, .int .i64 t.n2, .int .i64 t.n3, .int .i64 t.m1, .int .i64 t.m2, .int .i64 t.m3, .bool t.de, .bool t.ch, .bool t.ho, .int .i64 t.hv, .bool t.xo, .int .i64 t.xv, .bool t.zo, .int .i64 t.zv, .slice A n cap]
/-- The view's zero. -/
def tz : Th := ⟨0, 0, 0, 0, 0, 0, 0, 0, 0, 0, false, false, false, 0, false, 0, false, 0⟩

/-- The numbers' bounds. -/
def ThB (t : Th) : Prop := (0 ≤ t.ow ∧ t.ow ≤ 18446744073709551615) ∧ (0 ≤ t.ro ∧ t.ro ≤ 18446744073709551615) ∧ (0 ≤ t.co ∧ t.co ≤ 4294967295) ∧ (-9223372036854775808 ≤ t.rp ∧ t.rp ≤ 9223372036854775807)

theorem po_at {L : List Po} {k n : Nat} (hL : L.length = n) (h : k < n) : ∃ x, L[k]? = some x := ⟨L[k]'(by omega), List.getElem?_eq_getElem _⟩
theorem po_lt {L : List Po} {k : Nat} {x : Po} (h : L[k]? = some x) : k < L.length := (List.getElem?_eq_some_iff.1 h).1

/-- The slice at 'A' holds the ports L, in blocks below B. -/
def PoAt (w : World) (A : Option Addr) (B : Nat) (L : List Po) : Prop :=
  ∀ k x, L[k]? = some x → ∃ ad, A = some ad ∧ ad.block < B ∧ ∀ i v, (lP x)[i]? = some v → w.cell? ((ad.add (k * 15)).add i) = some v

theorem PoAt.below {w w' : World} {A : Option Addr} {B B' : Nat} {L : List Po} (h : PoAt w A B L) (hb : Below B' w w') (hB : B ≤ B') : PoAt w' A B L := fun k x e => by
  obtain ⟨ad, h1, h2, h3⟩ := h k x e
  exact ⟨ad, h1, h2, fun i v hv => (hb.cell (p := (ad.add (k * 15)).add i) (by rw [Go.Proofs.YtnmnihlhcokjpaaDoor.add_block, Go.Proofs.YtnmnihlhcokjpaaDoor.add_block]; omega)).trans (h3 i v hv)⟩
theorem PoAt.wide {w : World} {A : Option Addr} {B B' : Nat} {L : List Po} (h : PoAt w A B L) (hB : B ≤ B') : PoAt w A B' L := fun k x e => by
  obtain ⟨ad, h1, h2, h3⟩ := h k x e
  exact ⟨ad, h1, by omega, h3⟩
theorem PoAt.nil {w : World} {B : Nat} {L : List Po} (h : PoAt w none B L) : L = [] := by
  cases L with
  | nil => rfl
  | cons x r => obtain ⟨_, e, _⟩ := h 0 x rfl; cases e
theorem PoAt.src {w : World} {ad : Addr} {B : Nat} {L : List Po} (h : PoAt w (some ad) B L) : ∀ (j : Nat) u, (cellsOf lP L)[j]? = some u → w.cell? (ad.add j) = some u := by
  intro j u hu
  have hj : j < L.length * 15 := by
    rcases Nat.lt_or_ge j (L.length * 15) with k | k
    · exact k
    · rw [List.getElem?_eq_none (by rw [cellsOf_len lP_len]; exact k)] at hu; cases hu
  obtain ⟨k, c, hc, rfl⟩ : ∃ k c, c < 15 ∧ j = k * 15 + c := ⟨j / 15, j % 15, by omega, by omega⟩
  have hk : k < L.length := by omega
  have hx : L[k]? = some L[k] := List.getElem?_eq_getElem hk
  rw [cellsOf_get lP_len L k _ c hx hc] at hu
  obtain ⟨ad', e, _, h0⟩ := h k _ hx
  cases e
  rw [← Go.Proofs.YtnmnihlhcokjpaaDoor.add_add]
  exact h0 c u hu
/-- A port's cells, as a walk meets them. -/
theorem PoAt.cells {w : World} {A : Option Addr} {B : Nat} {L : List Po} (h : PoAt w A B L) {k : Nat} {x : Po} (hx : L[k]? = some x) :
    ∃ ad, A = some ad ∧ ad.block < B ∧ (w.cell? (ad.add (k * 15)) = some (.int .u16 x.id) ∧ ∀ i v, (lP x)[i + 1]? = some v → w.cell? ⟨(ad.add (k * 15)).block, (ad.add (k * 15)).off + (i + 1), none⟩ = some v) := by
  obtain ⟨ad, h1, h2, h3⟩ := h k x hx
  refine ⟨ad, h1, h2, ?_, fun i v hv => ?_⟩
  · have := h3 0 _ rfl
    simpa [Addr.add] using this
  · have e := h3 (i + 1) v hv
    exact e

/-- A port in every later world. -/
theorem PoAt.atq {w : World} {A : Option Addr} {B : Nat} {L : List Po} (h : PoAt w A B L) (hB : B ≤ w.heap.size) {k : Nat} {x : Po} (hx : L[k]? = some x) {ad : Addr} (hA : A = some ad) (v : World) (hv : ∃ q : LaterW w, v = q.w') :
    ∀ i u, (lP x)[i]? = some u → v.cell? ((ad.add (k * 15)).add i) = some u := by
  obtain ⟨q, rfl⟩ := hv
  obtain ⟨ad', e, _, h3⟩ := (h.below q.h hB) k x hx
  rw [hA] at e
  cases e
  exact h3
theorem PoAt.at {w : World} {A : Option Addr} {B : Nat} {L : List Po} (h : PoAt w A B L) {k : Nat} {x : Po} (hx : L[k]? = some x) {ad : Addr} (hA : A = some ad) :
    ∀ i u, (lP x)[i]? = some u → w.cell? ((ad.add (k * 15)).add i) = some u := by
  obtain ⟨ad', e, _, h3⟩ := h k x hx
  rw [hA] at e
  cases e
  exact h3
theorem PoAt.some {w : World} {A : Option Addr} {B : Nat} {L : List Po} (h : PoAt w A B L) {k : Nat} {x : Po} (hx : L[k]? = Option.some x) : ∃ ad, A = Option.some ad := by
  obtain ⟨ad, e, _⟩ := h k x hx
  exact ⟨ad, e⟩

section
variable {P : Program}
/-- The variable of many cells that lies at an address. -/
theorem run_loadVar_at (w : World) (ad : Addr) (ty : TypeId) (cs : List Value) (d : TypeDesc) (hc : ∀ i v, cs[i]? = some v → w.cell? (ad.add i) = some v)
    (hu : P.underlying ty = some d) (hd : (match d with | .struct _ | .array _ _ => true | _ => false) = true) (hi : (P.info? ty).map (·.size) = some cs.length) :
    (loadVar ty ad).run P w = .ok (.agg cs.toArray) w := by
  have hl : (loadCells ad cs.length).run P w = .ok cs.toArray w := run_loadCells_list (P := P) w ad cs hc
  cases hq : P.info? ty with
  | none => simp [hq] at hi
  | some i =>
    have hs : i.size = cs.length := by simpa [hq] using hi
    have hagg : (isAgg ty).run P w = .ok true w := by
      unfold isAgg
      rw [Sem.run_bind, run_underlying hu w]
      cases d <;> simp_all
    simp [loadVar, Sem.run_bind, hagg, sizeOf, typeInfo, hq, hs, hl]
theorem wpList_load_at {ops : Array Oper} {rest : List Oper} {o : Oper} {a : Act} {w : World} {Q : Exit → Act → World → Prop} (hw : Region.wanted o (yielded ops a.tmps) = true) (ty : TypeId) (x : Operand) (ho : o.op = .load ty x)
    (ad : Addr) (hx : a.eval x = .pointer (some ad)) (cs : List Value) (d : TypeDesc) (hc : ∀ i v, cs[i]? = some v → w.cell? (ad.add i) = some v)
    (hu : P.underlying ty = some d) (hd : (match d with | .struct _ | .array _ _ => true | _ => false) = true) (hi : (P.info? ty).map (·.size) = some cs.length)
    (h : wpList P ops Q rest (a.put o.dst (.agg cs.toArray)) w) : wpList P ops Q (o :: rest) a w :=
  wpList_step fun _ hK => by
    rw [if_pos hw]
    unfold Oper.wp execOp
    simp only [ho, hx, Instr.loadAt, Instr.sureAddr, Sem.run_bind, Sem.run_pure, Result.andThen_ok, run_loadVar_at w ad ty cs d hc hu hd hi]
    exact hK _ _ h
theorem quiet_load_at {C : World → Prop} {o : Oper} {a : Act} {K : Act → Prop} (ty : TypeId) (x : Operand) (ho : o.op = .load ty x)
    (ad : Addr) (hx : a.eval x = .pointer (some ad)) (cs : List Value) (d : TypeDesc) (hc : ∀ w, C w → ∀ i v, cs[i]? = some v → w.cell? (ad.add i) = some v)
    (hu : P.underlying ty = some d) (hd : (match d with | .struct _ | .array _ _ => true | _ => false) = true) (hi : (P.info? ty).map (·.size) = some cs.length)
    (h : K (a.put o.dst (.agg cs.toArray))) : o.quiet P a C K := by
  refine ⟨.agg cs.toArray, fun w hw => ?_, h⟩
  unfold Oper.quietAt execOp
  simp only [ho, hx, Instr.loadAt, Instr.sureAddr, Sem.run_bind, Sem.run_pure, Result.andThen_ok, run_loadVar_at w ad ty cs d (hc w hw) hu hd hi]
  exact ⟨rfl, rfl⟩
end

/-- Cells set one by one, as a list. -/
def setL : List Value → Nat → List Value → List Value
  | cs, _, [] => cs
  | cs, o, v :: r => setL (cs.set o v) (o + 1) r
theorem setL_right (a : List Value) : ∀ (vs : List Value) (b : List Value) (o : Nat), setL (a ++ b) (a.length + o) vs = a ++ setL b o vs
  | [], b, o => rfl
  | v :: r, b, o => by
    simp only [setL]
    rw [List.set_append_right _ _ (by omega), show a.length + o - a.length = o by omega, show a.length + o + 1 = a.length + (o + 1) by omega, setL_right a r]
theorem setL_left (b : List Value) : ∀ (vs : List Value) (a : List Value) (o : Nat), o + vs.length ≤ a.length → setL (a ++ b) o vs = setL a o vs ++ b
  | [], a, o, _ => rfl
  | v :: r, a, o, h => by
    simp only [List.length_cons] at h
    simp only [setL]
    rw [List.set_append_left _ _ (by omega), setL_left b r _ _ (by rw [List.length_set]; omega)]
theorem setL_ports {i : Nat} {vs : List Value} {y : Po} (rest : List Value) (hi : i + vs.length ≤ 15) : ∀ (L : List Po) (k : Nat) (x : Po), L[k]? = some x → setL (lP x) i vs = lP y →
    setL (cellsOf lP L ++ rest) (k * 15 + i) vs = cellsOf lP (L.set k y) ++ rest
  | [], k, x, h, _ => by simp at h
  | q :: r, 0, x, h, hy => by
    simp at h; subst h
    simp only [cellsOf, Nat.zero_mul, Nat.zero_add, List.set_cons_zero, List.append_assoc]
    rw [setL_left _ _ _ _ (by rw [lP_len]; omega), hy]
  | q :: r, k + 1, x, h, hy => by
    simp only [cellsOf, List.set_cons_succ, List.append_assoc]
    rw [show (k + 1) * 15 + i = (lP q).length + (k * 15 + i) by rw [lP_len]; omega, setL_right, setL_ports rest hi r k x (by simpa using h) hy]
theorem Bk.setCells {g : Nat} {t : TypeId} : ∀ (vs : List Value) (o : Nat) (cs : List Value) (w : World), Bk w g t cs → Bk (w.setCells g o vs) g t (setL cs o vs)
  | [], o, cs, w, h => h
  | v :: r, o, cs, w, h => Bk.setCells r (o + 1) _ _ (h.set o v)
theorem setCells_other {g : Nat} : ∀ (vs : List Value) (o : Nat) (w : World) (k : Nat), k ≠ g → (w.setCells g o vs).heap[k]? = w.heap[k]?
  | [], o, w, k, h => rfl
  | v :: r, o, w, k, h => (setCells_other r (o + 1) _ k h).trans (Below.heap_setCell w ⟨g, o, none⟩ v k h)
theorem Below.setCells {B : Nat} {w0 : World} {g : Nat} (hg : B ≤ g) : ∀ (vs : List Value) (o : Nat) (w : World), Below B w0 w → Below B w0 (w.setCells g o vs)
  | [], o, w, h => h
  | v :: r, o, w, h => Below.setCells hg r (o + 1) _ (h.setCell (p := ⟨g, o, none⟩) hg v)

/-- Boxes of the call's own, and the ports L that the slice at D holds, in a row of the call's own. -/
def TS (w : World) (l : List (Nat × TypeId × List Value)) (D : Option Addr) (L : List Po) (wx : World) : Prop :=
  Hs w l wx ∧ (L = [] ∨ ∃ g rest, D = some ⟨g, 0, none⟩ ∧ Hs w (l ++ [(g, 42, cellsOf lP L ++ rest)]) wx)

section
variable {w wx wy : World} {l : List (Nat × TypeId × List Value)} {D : Option Addr} {L : List Po}
theorem TS.hs (h : TS w l D L wx) : Hs w l wx := h.1
theorem TS.old (h : TS w l D L wx) : Below w.heap.size w wx := h.1.old
theorem TS.below (h : TS w l D L wx) (b : Below wx.heap.size wx wy) : TS w l D L wy :=
  ⟨h.1.below b, h.2.imp id fun ⟨g, r, e, s⟩ => ⟨g, r, e, s.below b⟩⟩
theorem TS.al (h : TS w l D L wx) {g : Nat} (hg : wx.heap.size = g) (T : TypeId) (cs : List Value) : TS w ((g, T, cs) :: l) D L (wx.alloc (.cells cs.toArray T)) :=
  ⟨h.1.al hg T cs, h.2.imp id fun ⟨k, r, e, s⟩ => ⟨k, r, e, s.al hg T cs⟩⟩
theorem TS.set (h : TS w l D L wx) (i : Nat) {g : Nat} {T : TypeId} {cs : List Value} (hi : l[i]? = some (g, T, cs)) (j : Nat) (u : Value) : TS w (l.set i (g, T, cs.set j u)) D L (wx.setCell ⟨g, j, none⟩ u) := by
  have hl : i < l.length := (List.getElem?_eq_some_iff.1 hi).1
  refine ⟨h.1.set i hi j u, h.2.imp id fun ⟨k, r, e, s⟩ => ⟨k, r, e, ?_⟩⟩
  have := s.set i (show (l ++ _)[i]? = _ by rw [List.getElem?_append_left hl]; exact hi) j u
  rwa [List.set_append_left _ _ hl] at this
theorem TS.row (h : TS w l D L wx) (i : Nat) {g : Nat} {T : TypeId} {cs : List Value} (hi : l[i]? = some (g, T, cs)) (cs' : List Value) : TS w (l.set i (g, T, cs')) D L (wx.setRow g cs'.toArray) := by
  have hl : i < l.length := (List.getElem?_eq_some_iff.1 hi).1
  refine ⟨h.1.row i hi cs', h.2.imp id fun ⟨k, r, e, s⟩ => ⟨k, r, e, ?_⟩⟩
  have := s.row i (show (l ++ _)[i]? = _ by rw [List.getElem?_append_left hl]; exact hi) cs'
  rwa [List.set_append_left _ _ hl] at this
theorem TS.tail {e : Nat × TypeId × List Value} (h : TS w (e :: l) D L wx) : TS w l D L wx :=
  ⟨h.1.tail, h.2.imp id fun ⟨k, r, q, s⟩ => ⟨k, r, q, Hs.tail (l := l ++ _) s⟩⟩
theorem TS.nobox (h : TS w l D L wx) : TS w [] D L wx := by
  induction l with
  | nil => exact h
  | cons e r ih => exact ih h.tail
/-- The ports that a callee laid. -/
theorem TS.take (h : Hs w l wx) (k : TS wx [] D L wy) : TS w l D L wy := by
  refine ⟨h.below k.old, k.2.imp id fun ⟨g, r, e, s⟩ => ⟨g, r, e, ?_⟩⟩
  have hb := h.below k.old
  have hg := s.1 0 g _ _ rfl
  refine ⟨fun i b T cs hi => ?_, fun i j a b hn hi hj => ?_, hb.2.2⟩
  · rcases Nat.lt_or_ge i l.length with q | q
    · rw [List.getElem?_append_left q] at hi
      exact hb.1 i b T cs hi
    · rw [List.getElem?_append_right q] at hi
      have : i - l.length = 0 := by
        rcases Nat.eq_zero_or_pos (i - l.length) with z | z
        · exact z
        · rw [List.getElem?_eq_none (by simp; omega)] at hi; cases hi
      rw [this] at hi
      cases hi
      exact ⟨hg.1, Nat.le_trans h.2.2.size hg.2⟩
  · have lo : ∀ (i : Nat) (a : Nat × TypeId × List Value), l[i]? = some a → a.1 < wx.heap.size := fun i a hi => h.lt (g := a.1) (T := a.2.1) (cs := a.2.2) i hi
    rcases Nat.lt_or_ge i l.length with q | q <;> rcases Nat.lt_or_ge j l.length with q' | q'
    · rw [List.getElem?_append_left q] at hi
      rw [List.getElem?_append_left q'] at hj
      exact hb.2.1 i j a b hn hi hj
    · rw [List.getElem?_append_left q] at hi
      rw [List.getElem?_append_right q'] at hj
      have : j - l.length = 0 := by
        rcases Nat.eq_zero_or_pos (j - l.length) with z | z
        · exact z
        · rw [List.getElem?_eq_none (by simp; omega)] at hj; cases hj
      rw [this] at hj
      cases hj
      have := lo i a hi
      have := hg.2
      show a.1 ≠ g
      omega
    · rw [List.getElem?_append_left q'] at hj
      rw [List.getElem?_append_right q] at hi
      have : i - l.length = 0 := by
        rcases Nat.eq_zero_or_pos (i - l.length) with z | z
        · exact z
        · rw [List.getElem?_eq_none (by simp; omega)] at hi; cases hi
      rw [this] at hi
      cases hi
      have := lo j b hj
      have := hg.2
      show g ≠ b.1
      omega
    · rw [List.getElem?_append_right q] at hi
      rw [List.getElem?_append_right q'] at hj
      have e1 : i - l.length = 0 := by
        rcases Nat.eq_zero_or_pos (i - l.length) with z | z
        · exact z
        · rw [List.getElem?_eq_none (by simp; omega)] at hi; cases hi
      have e2 : j - l.length = 0 := by
        rcases Nat.eq_zero_or_pos (j - l.length) with z | z
        · exact z
        · rw [List.getElem?_eq_none (by simp; omega)] at hj; cases hj
      omega
/-- A port in the row. -/
theorem TS.at (h : TS w l D L wx) {k : Nat} {x : Po} (hx : L[k]? = some x) :
    ∃ g, D = some ⟨g, 0, none⟩ ∧ (w.heap.size ≤ g ∧ g < wx.heap.size) ∧ (∀ i v, (lP x)[i]? = some v → wx.cell? ⟨g, k * 15 + i, none⟩ = some v) ∧ (∀ i, wx.frozen? ⟨g, i, none⟩ = false) := by
  rcases h.2 with rfl | ⟨g, r, e, s⟩
  · simp at hx
  · have hk : (l ++ [(g, 42, cellsOf lP L ++ r)])[l.length]? = some (g, 42, cellsOf lP L ++ r) := by simp
    refine ⟨g, e, ⟨(s.1 _ _ _ _ hk).2, s.lt _ hk⟩, fun i v hv => ?_, fun i => s.thaw _ i hk⟩
    have hi : i < 15 := by
      rcases Nat.lt_or_ge i 15 with q | q
      · exact q
      · rw [List.getElem?_eq_none (by rw [lP_len]; exact q)] at hv; cases hv
    have hl : k < L.length := po_lt hx
    refine s.cell _ _ hk ?_
    rw [List.getElem?_append_left (by rw [cellsOf_len lP_len]; omega), cellsOf_get lP_len L k x i hx hi]
    exact hv
theorem TS.apart (h : TS w l D L wx) {k : Nat} {x : Po} (hx : L[k]? = some x) {ad : Addr} (hD : D = some ad) (i : Nat) {b : Nat} {T : TypeId} {cs : List Value} (hi : l[i]? = some (b, T, cs)) : b ≠ ad.block := by
  rcases h.2 with rfl | ⟨g, r, e, s⟩
  · simp at hx
  · rw [hD] at e
    cases e
    have hl : i < l.length := (List.getElem?_eq_some_iff.1 hi).1
    exact s.2.1 i l.length _ _ (by omega) (by rw [List.getElem?_append_left hl]; exact hi) (by simp; rfl)
theorem TS.there {g : Nat} (h : TS w l (some ⟨g, 0, none⟩) L wx) {k : Nat} {x : Po} (hx : L[k]? = some x) (y : Po) : wx.there g (k * 15) (lP y).toArray.size := fun j hj => by
  obtain ⟨g', e', -, hcl, hfz⟩ := h.at hx
  obtain rfl : g = g' := by injection Option.some.inj e'
  obtain ⟨v, hv⟩ : ∃ v, (lP x)[j]? = some v := ⟨_, List.getElem?_eq_getElem (by rw [lP_len]; exact hj)⟩
  exact ⟨by rw [hcl j v hv]; rfl, hfz _⟩
theorem TS.at_lt {g : Nat} (h : TS w l (some ⟨g, 0, none⟩) L wx) {k : Nat} {x : Po} (hx : L[k]? = some x) : g < wx.heap.size := by
  obtain ⟨g', e', h1, _⟩ := h.at hx
  obtain rfl : g = g' := by injection Option.some.inj e'
  exact h1.2
theorem TS.port_cell {g : Nat} (h : TS w l (some ⟨g, 0, none⟩) L wx) {k : Nat} {x : Po} (hx : L[k]? = some x) (i : Nat) {v : Value} (hv : (lP x)[i]? = some v) : wx.cell? ⟨g, k * 15 + i, none⟩ = some v := by
  obtain ⟨g', e', _, h1, _⟩ := h.at hx
  obtain rfl : g = g' := by injection Option.some.inj e'
  exact h1 i v hv
/-- A port of the row changed. -/
theorem TS.put {g : Nat} (h : TS w l (some ⟨g, 0, none⟩) L wx) {k : Nat} {x y : Po} (hx : L[k]? = some x) (i : Nat) (vs : List Value) (hi : i + vs.length ≤ 15) (hy : setL (lP x) i vs = lP y) :
    TS w l (some ⟨g, 0, none⟩) (L.set k y) (wx.setCells g (k * 15 + i) vs) := by
  rcases h.2 with rfl | ⟨g', r, e, s⟩
  · simp at hx
  cases e
  have hk : (l ++ [(g, 42, cellsOf lP L ++ r)])[l.length]? = some (g, 42, cellsOf lP L ++ r) := by simp
  have hb : Bk wx g 42 (cellsOf lP L ++ r) := (s.1 _ _ _ _ hk).1
  have hw := (s.1 _ _ _ _ hk).2
  have b' := Bk.setCells vs (k * 15 + i) _ _ hb
  rw [setL_ports r hi L k x hx hy] at b'
  have s' := s.put _ hk _ b' (fun j hj => setCells_other vs _ wx j hj) (Below.setCells hw vs _ _ s.2.2)
  rw [List.set_append_right _ _ (Nat.le_refl _), Nat.sub_self, List.set_cons_zero] at s'
  refine ⟨⟨fun j b T cs hj => ?_, h.1.2.1, s'.2.2⟩, .inr ⟨g, r, rfl, s'⟩⟩
  refine s'.1 j b T cs ?_
  rw [List.getElem?_append_left (List.getElem?_eq_some_iff.1 hj).1]
  exact hj
theorem TS.whole {g : Nat} (h : TS w l (some ⟨g, 0, none⟩) L wx) {k : Nat} {x : Po} (hx : L[k]? = some x) (y : Po) : TS w l (some ⟨g, 0, none⟩) (L.set k y) (wx.setCells g (k * 15) (lP y)) :=
  h.put hx 0 (lP y) (by rw [lP_len]; decide) rfl
theorem TS.ports (h : TS w l D L wx) : PoAt wx D wx.heap.size L := fun k x hx => by
  obtain ⟨g, rfl, ⟨_, h2⟩, h3, _⟩ := h.at hx
  refine ⟨_, rfl, h2, fun i v hv => ?_⟩
  rw [addr_add, addr_add, Nat.zero_add]
  exact h3 i v hv
end

/-- What a function hands out that lays ports of its own. -/
def TOut (w : World) (t : Th) (n : Nat) (L : List Po) (e : Ending) (w' : World) : Prop :=
  ∃ D cap, e = .returned (.agg (lT t D n cap).toArray) ∧ (D = none → cap = 0) ∧ TS w [] D L w'

theorem own_ts {w wx : World} {base cap n : Nat} {D : Option Addr} {L : List Po} (b : Below w.heap.size w wx) (hb : w.heap.size ≤ base) (h : OwnL lP 15 42 wx base (.slice D n cap) L) : TS w [] D L wx := by
  refine ⟨⟨fun k g T cs hk => by simp at hk, fun j k a b _ hj => by simp at hj, b⟩, ?_⟩
  rcases h.2 with ⟨_, hn⟩ | ⟨g, cap', cur, hv, hg, hh, _, _, _, hc⟩
  · exact .inl (List.length_eq_zero_iff.1 hn)
  · cases hv
    refine .inr ⟨g, cur.toList.drop (L.length * 15), rfl, fun k g' T cs hk => ?_, fun j k a b hn hj hk => ?_, b⟩
    · cases k with
      | zero =>
        cases hk
        refine ⟨?_, by omega⟩
        unfold Bk
        rw [hh, ← hc, List.take_append_drop]
      | succ k => simp at hk
    · cases j <;> cases k <;> simp_all

theorem Tryd.infoPo : (Tryd.prog.info? 42).map (fun i => (i.zero, i.size, i.bytes)) = some (some (.agg (lP ⟨0, 0, 0, 0, 0, 0, 0, false, false, false, 0, false, 0, false, 0⟩).toArray), 15, 112) := by kernel_rfl

end Go.Proofs.YtnmnihlhcokjpaaDoor

/- cmp.Compare of the numbers of a telling, and cmp.Or of two and of three. -/
namespace Go.Proofs.YtnmnihlhcokjpaaDoor
set_option maxRecDepth 100000
open Go.ChangeShapes Go.WideShapes Go.ChangeAt Go.RowKit
set_option linter.unusedVariables false

theorem isnanP (x : Int) (w : World) : Calls Tryd.prog 91 #[.int .u16 x] w fun e w' => e = .returned (.bool false) ∧ w = w' := by
  go_enter Tryd.func91, Tryd.ntmps91
  go_wp2
  go_ret
  exact ⟨by simp, rfl⟩

theorem cmpP_is (x y : Int) (w : World) : Calls Tryd.prog 87 #[.int .u16 x, .int .u16 y] w fun e w' => e = .returned (.int .i64 (cmpI x y)) ∧ w = w' := by
  rcases Int.lt_trichotomy x y with h | h | h
  · have hc : cmpI x y = -1 := cmpI_lt h
    rw [hc]; clear hc
    go_enter Tryd.func87, Tryd.ntmps87
    go_wp2_with (go_at_call 91; (with_reducible refine (isnanP _ _).mono ?_); rintro e w' ⟨rfl, rfl⟩)
    go_ret
    exact ⟨rfl, rfl⟩
  · subst h
    have hc : cmpI x x = 0 := cmpI_eq x
    rw [hc]; clear hc
    have h1 : decide (x < x) = false := by simp
    go_enter Tryd.func87, Tryd.ntmps87
    go_wp2_with (go_at_call 91; (with_reducible refine (isnanP _ _).mono ?_); rintro e w' ⟨rfl, rfl⟩)
    go_ret
    exact ⟨rfl, rfl⟩
  · have hc : cmpI x y = 1 := cmpI_gt h
    rw [hc]; clear hc
    have h1 : decide (x < y) = false := by simp; omega
    go_enter Tryd.func87, Tryd.ntmps87
    go_wp2_with (go_at_call 91; (with_reducible refine (isnanP _ _).mono ?_); rintro e w' ⟨rfl, rfl⟩)
    go_ret
    exact ⟨rfl, rfl⟩

theorem isnanB (x : Int) (w : World) : Calls Tryd.prog 92 #[.int .u64 x] w fun e w' => e = .returned (.bool false) ∧ w = w' := by
  go_enter Tryd.func92, Tryd.ntmps92
  go_wp2
  go_ret
  exact ⟨by simp, rfl⟩

theorem cmpB_is (x y : Int) (w : World) : Calls Tryd.prog 89 #[.int .u64 x, .int .u64 y] w fun e w' => e = .returned (.int .i64 (cmpI x y)) ∧ w = w' := by
  rcases Int.lt_trichotomy x y with h | h | h
  · have hc : cmpI x y = -1 := cmpI_lt h
    rw [hc]; clear hc
    go_enter Tryd.func89, Tryd.ntmps89
    go_wp2_with (go_at_call 92; (with_reducible refine (isnanB _ _).mono ?_); rintro e w' ⟨rfl, rfl⟩)
    go_ret
    exact ⟨rfl, rfl⟩
  · subst h
    have hc : cmpI x x = 0 := cmpI_eq x
    rw [hc]; clear hc
    have h1 : decide (x < x) = false := by simp
    go_enter Tryd.func89, Tryd.ntmps89
    go_wp2_with (go_at_call 92; (with_reducible refine (isnanB _ _).mono ?_); rintro e w' ⟨rfl, rfl⟩)
    go_ret
    exact ⟨rfl, rfl⟩
  · have hc : cmpI x y = 1 := cmpI_gt h
    rw [hc]; clear hc
    have h1 : decide (x < y) = false := by simp; omega
    go_enter Tryd.func89, Tryd.ntmps89
    go_wp2_with (go_at_call 92; (with_reducible refine (isnanB _ _).mono ?_); rintro e w' ⟨rfl, rfl⟩)
    go_ret
    exact ⟨rfl, rfl⟩

theorem isnanC (x : Int) (w : World) : Calls Tryd.prog 93 #[.int .u32 x] w fun e w' => e = .returned (.bool false) ∧ w = w' := by
  go_enter Tryd.func93, Tryd.ntmps93
  go_wp2
  go_ret
  exact ⟨by simp, rfl⟩

theorem cmpC_is (x y : Int) (w : World) : Calls Tryd.prog 90 #[.int .u32 x, .int .u32 y] w fun e w' => e = .returned (.int .i64 (cmpI x y)) ∧ w = w' := by
  rcases Int.lt_trichotomy x y with h | h | h
  · have hc : cmpI x y = -1 := cmpI_lt h
    rw [hc]; clear hc
    go_enter Tryd.func90, Tryd.ntmps90
    go_wp2_with (go_at_call 93; (with_reducible refine (isnanC _ _).mono ?_); rintro e w' ⟨rfl, rfl⟩)
    go_ret
    exact ⟨rfl, rfl⟩
  · subst h
    have hc : cmpI x x = 0 := cmpI_eq x
    rw [hc]; clear hc
    have h1 : decide (x < x) = false := by simp
    go_enter Tryd.func90, Tryd.ntmps90
    go_wp2_with (go_at_call 93; (with_reducible refine (isnanC _ _).mono ?_); rintro e w' ⟨rfl, rfl⟩)
    go_ret
    exact ⟨rfl, rfl⟩
  · have hc : cmpI x y = 1 := cmpI_gt h
    rw [hc]; clear hc
    have h1 : decide (x < y) = false := by simp; omega
    go_enter Tryd.func90, Tryd.ntmps90
    go_wp2_with (go_at_call 93; (with_reducible refine (isnanC _ _).mono ?_); rintro e w' ⟨rfl, rfl⟩)
    go_ret
    exact ⟨rfl, rfl⟩

theorem or2_is (B : Nat) (x y : Int) (w : World) (h0 : w.cell? ⟨B, 0, none⟩ = some (.int .i64 x)) (h1 : w.cell? ⟨B, 1, none⟩ = some (.int .i64 y)) :
    Calls Tryd.prog 85 #[.slice (some ⟨B, 0, none⟩) 2 2] w fun e w' => e = .returned (.int .i64 (orI x y)) ∧ w = w' := by
  by_cases hx : x = 0
  · by_cases hy : y = 0
    · have hc : orI x y = 0 := by unfold orI; rw [if_pos hx, hy]
      rw [hc]; clear hc
      go_enter Tryd.func85, Tryd.ntmps85
      go_wp2
      go_rounds 3
      go_ret
      exact ⟨rfl, rfl⟩
    · have hc : orI x y = y := by unfold orI; rw [if_pos hx]
      rw [hc]; clear hc
      go_enter Tryd.func85, Tryd.ntmps85
      go_wp2
      go_rounds 3
      go_ret
      exact ⟨rfl, rfl⟩
  · have hc : orI x y = x := by unfold orI; rw [if_neg hx]
    rw [hc]; clear hc
    go_enter Tryd.func85, Tryd.ntmps85
    go_wp2
    go_rounds 3
    go_ret
    exact ⟨rfl, rfl⟩

theorem or3_is (B : Nat) (x y z : Int) (w : World) (h0 : w.cell? ⟨B, 0, none⟩ = some (.int .i64 x)) (h1 : w.cell? ⟨B, 1, none⟩ = some (.int .i64 y)) (h2 : w.cell? ⟨B, 2, none⟩ = some (.int .i64 z)) :
    Calls Tryd.prog 85 #[.slice (some ⟨B, 0, none⟩) 3 3] w fun e w' => e = .returned (.int .i64 (orI x (orI y z))) ∧ w = w' := by
  by_cases hx : x = 0
  · by_cases hy : y = 0
    · by_cases hz : z = 0
      · have hc : orI x (orI y z) = 0 := by unfold orI; rw [if_pos hx, if_pos hy, hz]
        rw [hc]; clear hc
        go_enter Tryd.func85, Tryd.ntmps85
        go_wp2
        go_rounds 4
        go_ret
        exact ⟨rfl, rfl⟩
      · have hc : orI x (orI y z) = z := by unfold orI; rw [if_pos hx, if_pos hy]
        rw [hc]; clear hc
        go_enter Tryd.func85, Tryd.ntmps85
        go_wp2
        go_rounds 4
        go_ret
        exact ⟨rfl, rfl⟩
    · have hc : orI x (orI y z) = y := by unfold orI; rw [if_pos hx, if_neg hy]
      rw [hc]; clear hc
      go_enter Tryd.func85, Tryd.ntmps85
      go_wp2
      go_rounds 4
      go_ret
      exact ⟨rfl, rfl⟩
  · have hc : orI x (orI y z) = x := by unfold orI; rw [if_neg hx]
    rw [hc]; clear hc
    go_enter Tryd.func85, Tryd.ntmps85
    go_wp2
    go_rounds 4
    go_ret
    exact ⟨rfl, rfl⟩

end Go.Proofs.YtnmnihlhcokjpaaDoor
