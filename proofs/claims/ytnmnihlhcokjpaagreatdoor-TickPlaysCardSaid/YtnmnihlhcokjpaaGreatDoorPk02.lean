/- Several texts in one, one behind the other: PortRise, PortSays, PortBlock, Later, PortCells, OwnRows. -/
import Derived.Test.YtnmnihlhcokjpaaGreatDoorPk01
import Derived.Deep.DeepCutAuto
import Derived.Test.YtnmnihlhcokjpaaGreatDoorProg
import Derived.BigQuiet
import Derived.Below
import Derived.Laws.Rows
import Derived.Laws.Tables

/- Rise: contract. -/
namespace Go.Proofs.YtnmnihlhcokjpaaGreatDoor
set_option maxRecDepth 100000
open Go.ChangeShapes Go.WideShapes Go.ChangeAt Go.RowKit
set_option linter.unusedVariables false

theorem start0 (w : World) : Calls Tryz.prog 15 #[.int .i64 0] w (TEnd w true 0) := by
  have h := start_is 0 (by decide) (by decide) w
  rwa [show startI 0 = 0 from by decide] at h

theorem rise_stays (p : Po) (h : ¬ p.st = 1) (w : World) :
    Calls Tryz.prog 119 #[.agg #[.int .u16 p.id, .int .i64 p.st, .int .u32 p.co, .int .u64 p.hr, .int .u32 p.hc, .int .u64 p.hb, .int .u16 p.hp, .bool p.ak, .bool p.pe, .bool p.ao, .int .i64 p.av, .bool p.yo, .int .i64 p.yv, .bool p.ho, .int .i64 p.hv]] w fun e w' => e = .returned (.agg #[.int .u16 p.id, .int .i64 p.st, .int .u32 p.co, .int .u64 p.hr, .int .u32 p.hc, .int .u64 p.hb, .int .u16 p.hp, .bool p.ak, .bool p.pe, .bool p.ao, .int .i64 p.av, .bool p.yo, .int .i64 p.yv, .bool p.ho, .int .i64 p.hv]) ∧ Below w.heap.size w w' := by
  have hb : (p.st == 1) = false := by simpa using h
  obtain ⟨wb, hwb, S⟩ := hs_two w 63 63 [.int .u16 p.id, .int .i64 p.st, .int .u32 p.co, .int .u64 p.hr, .int .u32 p.hc, .int .u64 p.hb, .int .u16 p.hp, .bool p.ak, .bool p.pe, .bool p.ao, .int .i64 p.av, .bool p.yo, .int .i64 p.yv, .bool p.ho, .int .i64 p.hv] [.int .u16 0, .int .i64 0, .int .u32 0, .int .u64 0, .int .u32 0, .int .u64 0, .int .u16 0, .bool false, .bool false, .bool false, .int .i64 0, .bool false, .int .i64 0, .bool false, .int .i64 0]
  go_enter Tryz.func119, Tryz.ntmps119
  go_upto_region 1 with fail
  clear hwb
  obtain ⟨X, hX⟩ : ∃ X, w.heap.size = X := ⟨_, rfl⟩
  rw [hX] at S ⊢
  obtain ⟨Y, hY⟩ : ∃ Y, X + 1 = Y := ⟨_, rfl⟩
  rw [hY] at S ⊢
  have c1 := S.cell 1 1 rfl rfl
  have hx := S.bk 1 rfl
  have hy := S.bk 0 rfl
  go_wp2_with (first | (refine wpList_load_row rfl 63 _ rfl X rfl _ _ (0, 0) _ hx Tryz.underlying63 rfl (by kernel_rfl) ?_) | (refine wpList_store_row rfl 63 _ _ rfl Y _ rfl rfl _ _ hy (by kernel_rfl) (by kernel_rfl) (by kernel_rfl) ?_))
  exact bodyPost_ret (v := .agg #[.int .u16 p.id, .int .i64 p.st, .int .u32 p.co, .int .u64 p.hr, .int .u32 p.hc, .int .u64 p.hb, .int .u16 p.hp, .bool p.ak, .bool p.pe, .bool p.ao, .int .i64 p.av, .bool p.yo, .int .i64 p.yv, .bool p.ho, .int .i64 p.hv]) (results_cell_row rfl _ _ Y _ _ _ _ rfl (setRow_heap _ _ _ _ _ _ hy) Tryz.underlying63 rfl (by kernel_rfl)) rfl ⟨rfl, (S.row 0 rfl [.int .u16 p.id, .int .i64 p.st, .int .u32 p.co, .int .u64 p.hr, .int .u32 p.hc, .int .u64 p.hb, .int .u16 p.hp, .bool p.ak, .bool p.pe, .bool p.ao, .int .i64 p.av, .bool p.yo, .int .i64 p.yv, .bool p.ho, .int .i64 p.hv]).old⟩

theorem rise_up (p : Po) (w : World) :
    Calls Tryz.prog 119 #[.agg #[.int .u16 p.id, .int .i64 1, .int .u32 p.co, .int .u64 p.hr, .int .u32 p.hc, .int .u64 p.hb, .int .u16 p.hp, .bool p.ak, .bool p.pe, .bool p.ao, .int .i64 p.av, .bool p.yo, .int .i64 p.yv, .bool p.ho, .int .i64 p.hv]] w fun e w' => e = .returned (.agg #[.int .u16 p.id, .int .i64 2, .int .u32 p.co, .int .u64 p.hr, .int .u32 p.hc, .int .u64 p.hb, .int .u16 p.hp, .bool p.ak, .bool p.pe, .bool p.ao, .int .i64 p.av, .bool true, .int .i64 0, .bool p.ho, .int .i64 p.hv]) ∧ Below w.heap.size w w' := by
  obtain ⟨wb, hwb, S⟩ := hs_two w 63 63 [.int .u16 p.id, .int .i64 1, .int .u32 p.co, .int .u64 p.hr, .int .u32 p.hc, .int .u64 p.hb, .int .u16 p.hp, .bool p.ak, .bool p.pe, .bool p.ao, .int .i64 p.av, .bool p.yo, .int .i64 p.yv, .bool p.ho, .int .i64 p.hv] [.int .u16 0, .int .i64 0, .int .u32 0, .int .u64 0, .int .u32 0, .int .u64 0, .int .u16 0, .bool false, .bool false, .bool false, .int .i64 0, .bool false, .int .i64 0, .bool false, .int .i64 0]
  go_enter Tryz.func119, Tryz.ntmps119
  go_upto_region 1 with fail
  clear hwb
  obtain ⟨X, hX⟩ : ∃ X, w.heap.size = X := ⟨_, rfl⟩
  rw [hX] at S ⊢
  obtain ⟨Y, hY⟩ : ∃ Y, X + 1 = Y := ⟨_, rfl⟩
  rw [hY] at S ⊢
  have c1 := S.cell 1 1 rfl rfl
  have f1 := S.thaw 1 1 rfl
  go_wp2_with fail
  have S1 := S.set 1 rfl 1 (.int .i64 2)
  simp only [List.set] at S1
  (with_reducible refine (start0 _).mono ?_); rintro e w1 ⟨rfl, b1⟩
  have S2 := S1.below b1
  clear S S1 b1 c1 f1
  have d11 := S2.cell 1 11 rfl rfl
  have d12 := S2.cell 1 12 rfl rfl
  have f11 := S2.thaw 1 11 rfl
  have f12 := S2.thaw 1 12 rfl
  go_upto_region 4 with fail
  have S3 := (S2.set 1 rfl 11 (.bool true)).set 1 rfl 12 (.int .i64 0)
  simp only [List.set] at S3
  generalize (w1.setCell ⟨X, 11, none⟩ (.bool true)).setCell ⟨X, 12, none⟩ (.int .i64 0) = w2 at S3 ⊢
  clear S2 d11 d12 f11 f12
  have hx := S3.bk 1 rfl
  have hy := S3.bk 0 rfl
  go_wp2_with (first | (refine wpList_load_row rfl 63 _ rfl X rfl _ _ (0, 0) _ hx Tryz.underlying63 rfl (by kernel_rfl) ?_) | (refine wpList_store_row rfl 63 _ _ rfl Y _ rfl rfl _ _ hy (by kernel_rfl) (by kernel_rfl) (by kernel_rfl) ?_))
  exact bodyPost_ret (v := .agg #[.int .u16 p.id, .int .i64 2, .int .u32 p.co, .int .u64 p.hr, .int .u32 p.hc, .int .u64 p.hb, .int .u16 p.hp, .bool p.ak, .bool p.pe, .bool p.ao, .int .i64 p.av, .bool true, .int .i64 0, .bool p.ho, .int .i64 p.hv]) (results_cell_row rfl _ _ Y _ _ _ _ rfl (setRow_heap _ _ _ _ _ _ hy) Tryz.underlying63 rfl (by kernel_rfl)) rfl ⟨rfl, (S3.row 0 rfl [.int .u16 p.id, .int .i64 2, .int .u32 p.co, .int .u64 p.hr, .int .u32 p.hc, .int .u64 p.hb, .int .u16 p.hp, .bool p.ak, .bool p.pe, .bool p.ao, .int .i64 p.av, .bool true, .int .i64 0, .bool p.ho, .int .i64 p.hv]).old⟩

theorem rise_is (p q : Po) (h : Hid (riseP p = q)) (w : World) :
    Calls Tryz.prog 119 #[.agg #[.int .u16 p.id, .int .i64 p.st, .int .u32 p.co, .int .u64 p.hr, .int .u32 p.hc, .int .u64 p.hb, .int .u16 p.hp, .bool p.ak, .bool p.pe, .bool p.ao, .int .i64 p.av, .bool p.yo, .int .i64 p.yv, .bool p.ho, .int .i64 p.hv]] w fun e w' => e = .returned (.agg #[.int .u16 q.id, .int .i64 q.st, .int .u32 q.co, .int .u64 q.hr, .int .u32 q.hc, .int .u64 q.hb, .int .u16 q.hp, .bool q.ak, .bool q.pe, .bool q.ao, .int .i64 q.av, .bool q.yo, .int .i64 q.yv, .bool q.ho, .int .i64 q.hv]) ∧ Below w.heap.size w w' := by
  have h := h.out
  unfold riseP at h
  by_cases c : p.st = 1
  · rw [if_pos c] at h
    subst h
    have := rise_up p w
    rwa [← c] at this
  · rw [if_neg c] at h
    subst h
    exact rise_stays p c w

end Go.Proofs.YtnmnihlhcokjpaaGreatDoor

/- Forwards, Learns, Designated: contracts. -/
namespace Go.Proofs.YtnmnihlhcokjpaaGreatDoor
set_option maxRecDepth 100000
open Go.ChangeShapes Go.WideShapes Go.ChangeAt Go.RowKit
set_option linter.unusedVariables false

theorem fwd_is (s : Int) (w : World) :
    Calls Tryz.prog 133 #[.int .i64 s] w fun e w' => e = .returned (.bool (decide (s = 4))) ∧ w = w' := by
  go_enter Tryz.func133, Tryz.ntmps133
  go_wp2
  go_ret
  exact ⟨ret_bool (by rw [Bool.eq_iff_iff]; simp), rfl⟩

theorem learns_is (s : Int) (q : Bool) (hq : Hid (learnsB s = q)) (w : World) :
    Calls Tryz.prog 129 #[.int .i64 s] w fun e w' => e = .returned (.bool q) ∧ w = w' := by
  have hq := hq.out
  unfold learnsB at hq
  by_cases h : s = 3
  · subst h
    simp at hq
    subst hq
    go_enter Tryz.func129, Tryz.ntmps129
    go_wp2
    go_ret
    exact ⟨rfl, rfl⟩
  · have hb : (s == 3) = false := by simpa using h
    rw [decide_eq_false h, Bool.false_or] at hq
    have HF := fun W => Lib.hid (fwd_is s W)
    rw [hq] at HF
    clear hq
    go_enter Tryz.func129, Tryz.ntmps129
    go_wp2_with (go_at_call 133; (with_reducible refine (HF _).out.mono ?_); rintro e w' ⟨rfl, rfl⟩)
    go_ret
    exact ⟨rfl, rfl⟩

theorem desig_is (p : Po) (o : Int) (q : Bool) (hq : Hid ((decide (p.hb = o) && decide (p.hp = p.id)) = q)) (w : World) :
    Calls Tryz.prog 31 #[.agg #[.int .u16 p.id, .int .i64 p.st, .int .u32 p.co, .int .u64 p.hr, .int .u32 p.hc, .int .u64 p.hb, .int .u16 p.hp, .bool p.ak, .bool p.pe, .bool p.ao, .int .i64 p.av, .bool p.yo, .int .i64 p.yv, .bool p.ho, .int .i64 p.hv], .int .u64 o] w fun e w' => e = .returned (.bool q) ∧ Below w.heap.size w w' := by
  have hq := hq.out
  obtain ⟨wb, hwb, S⟩ := hs_one w 63 [.int .u16 p.id, .int .i64 p.st, .int .u32 p.co, .int .u64 p.hr, .int .u32 p.hc, .int .u64 p.hb, .int .u16 p.hp, .bool p.ak, .bool p.pe, .bool p.ao, .int .i64 p.av, .bool p.yo, .int .i64 p.yv, .bool p.ho, .int .i64 p.hv]
  by_cases h : p.hb = o
  · rw [decide_eq_true h, Bool.true_and] at hq
    have hb : (p.hb == o) = true := by simpa using h
    clear h
    by_cases k : p.hp = p.id
    · have kb : (p.hp == p.id) = true := by simpa using k
      rw [decide_eq_true k] at hq
      subst hq
      clear k
      go_enter Tryz.func31, Tryz.ntmps31
      go_upto_region 1 with fail
      clear hwb
      have c0 := S.cell 0 0 rfl rfl
      have c5 := S.cell 0 5 rfl rfl
      have c6 := S.cell 0 6 rfl rfl
      go_wp2
      go_ret
      exact ⟨rfl, S.old⟩
    · have kb : (p.hp == p.id) = false := by simpa using k
      rw [decide_eq_false k] at hq
      subst hq
      clear k
      go_enter Tryz.func31, Tryz.ntmps31
      go_upto_region 1 with fail
      clear hwb
      have c0 := S.cell 0 0 rfl rfl
      have c5 := S.cell 0 5 rfl rfl
      have c6 := S.cell 0 6 rfl rfl
      go_wp2
      go_ret
      exact ⟨rfl, S.old⟩
  · rw [decide_eq_false h, Bool.false_and] at hq
    have hb : (p.hb == o) = false := by simpa using h
    clear h
    subst hq
    go_enter Tryz.func31, Tryz.ntmps31
    go_upto_region 1 with fail
    clear hwb
    have c5 := S.cell 0 5 rfl rfl
    go_wp2
    go_ret
    exact ⟨rfl, S.old⟩

end Go.Proofs.YtnmnihlhcokjpaaGreatDoor

/- Block, Become, New: contracts. -/
namespace Go.Proofs.YtnmnihlhcokjpaaGreatDoor
set_option maxRecDepth 100000
open Go.ChangeShapes Go.WideShapes Go.ChangeAt Go.RowKit
set_option linter.unusedVariables false

theorem block_0 (p : Po) (w : World) :
    Calls Tryz.prog 121 #[.agg #[.int .u16 p.id, .int .i64 0, .int .u32 p.co, .int .u64 p.hr, .int .u32 p.hc, .int .u64 p.hb, .int .u16 p.hp, .bool p.ak, .bool p.pe, .bool p.ao, .int .i64 p.av, .bool p.yo, .int .i64 p.yv, .bool p.ho, .int .i64 p.hv]] w fun e w' => e = .returned (.tuple #[.agg #[.int .u16 p.id, .int .i64 0, .int .u32 p.co, .int .u64 p.hr, .int .u32 p.hc, .int .u64 p.hb, .int .u16 p.hp, .bool p.ak, .bool p.pe, .bool p.ao, .int .i64 p.av, .bool p.yo, .int .i64 p.yv, .bool p.ho, .int .i64 p.hv], .bool false]) ∧ Below w.heap.size w w' := by
  obtain ⟨wb, hwb, S⟩ := hs_two w 63 63 [.int .u16 p.id, .int .i64 0, .int .u32 p.co, .int .u64 p.hr, .int .u32 p.hc, .int .u64 p.hb, .int .u16 p.hp, .bool p.ak, .bool p.pe, .bool p.ao, .int .i64 p.av, .bool p.yo, .int .i64 p.yv, .bool p.ho, .int .i64 p.hv] [.int .u16 0, .int .i64 0, .int .u32 0, .int .u64 0, .int .u32 0, .int .u64 0, .int .u16 0, .bool false, .bool false, .bool false, .int .i64 0, .bool false, .int .i64 0, .bool false, .int .i64 0]
  go_enter Tryz.func121, Tryz.ntmps121
  go_upto_region 1 with fail
  clear hwb
  obtain ⟨X, hX⟩ : ∃ X, w.heap.size = X := ⟨_, rfl⟩
  rw [hX] at S ⊢
  obtain ⟨Y, hY⟩ : ∃ Y, X + 1 = Y := ⟨_, rfl⟩
  rw [hY] at S ⊢
  have c1 := S.cell 1 1 rfl rfl
  have hx := S.bk 1 rfl
  have hy := S.bk 0 rfl
  go_wp2_with (first | (refine wpList_load_row rfl 63 _ rfl X rfl _ _ (0, 0) _ hx Tryz.underlying63 rfl (by kernel_rfl) ?_) | (refine wpList_store_row rfl 63 _ _ rfl Y _ rfl rfl _ _ hy (by kernel_rfl) (by kernel_rfl) (by kernel_rfl) ?_))
  exact bodyPost_ret (v := .tuple #[.agg #[.int .u16 p.id, .int .i64 0, .int .u32 p.co, .int .u64 p.hr, .int .u32 p.hc, .int .u64 p.hb, .int .u16 p.hp, .bool p.ak, .bool p.pe, .bool p.ao, .int .i64 p.av, .bool p.yo, .int .i64 p.yv, .bool p.ho, .int .i64 p.hv], .bool false]) (results_two rfl _ _ Y _ _ _ _ rfl _ rfl (setRow_heap _ _ _ _ _ _ hy) Tryz.underlying63 rfl (by kernel_rfl)) rfl ⟨rfl, (S.row 0 rfl [.int .u16 p.id, .int .i64 0, .int .u32 p.co, .int .u64 p.hr, .int .u32 p.hc, .int .u64 p.hb, .int .u16 p.hp, .bool p.ak, .bool p.pe, .bool p.ao, .int .i64 p.av, .bool p.yo, .int .i64 p.yv, .bool p.ho, .int .i64 p.hv]).old⟩

theorem block_1 (p : Po) (w : World) :
    Calls Tryz.prog 121 #[.agg #[.int .u16 p.id, .int .i64 1, .int .u32 p.co, .int .u64 p.hr, .int .u32 p.hc, .int .u64 p.hb, .int .u16 p.hp, .bool p.ak, .bool p.pe, .bool p.ao, .int .i64 p.av, .bool p.yo, .int .i64 p.yv, .bool p.ho, .int .i64 p.hv]] w fun e w' => e = .returned (.tuple #[.agg #[.int .u16 p.id, .int .i64 1, .int .u32 p.co, .int .u64 p.hr, .int .u32 p.hc, .int .u64 p.hb, .int .u16 p.hp, .bool p.ak, .bool p.pe, .bool p.ao, .int .i64 p.av, .bool p.yo, .int .i64 p.yv, .bool p.ho, .int .i64 p.hv], .bool false]) ∧ Below w.heap.size w w' := by
  obtain ⟨wb, hwb, S⟩ := hs_two w 63 63 [.int .u16 p.id, .int .i64 1, .int .u32 p.co, .int .u64 p.hr, .int .u32 p.hc, .int .u64 p.hb, .int .u16 p.hp, .bool p.ak, .bool p.pe, .bool p.ao, .int .i64 p.av, .bool p.yo, .int .i64 p.yv, .bool p.ho, .int .i64 p.hv] [.int .u16 0, .int .i64 0, .int .u32 0, .int .u64 0, .int .u32 0, .int .u64 0, .int .u16 0, .bool false, .bool false, .bool false, .int .i64 0, .bool false, .int .i64 0, .bool false, .int .i64 0]
  go_enter Tryz.func121, Tryz.ntmps121
  go_upto_region 1 with fail
  clear hwb
  obtain ⟨X, hX⟩ : ∃ X, w.heap.size = X := ⟨_, rfl⟩
  rw [hX] at S ⊢
  obtain ⟨Y, hY⟩ : ∃ Y, X + 1 = Y := ⟨_, rfl⟩
  rw [hY] at S ⊢
  have c1 := S.cell 1 1 rfl rfl
  have hx := S.bk 1 rfl
  have hy := S.bk 0 rfl
  go_wp2_with (first | (refine wpList_load_row rfl 63 _ rfl X rfl _ _ (0, 0) _ hx Tryz.underlying63 rfl (by kernel_rfl) ?_) | (refine wpList_store_row rfl 63 _ _ rfl Y _ rfl rfl _ _ hy (by kernel_rfl) (by kernel_rfl) (by kernel_rfl) ?_))
  exact bodyPost_ret (v := .tuple #[.agg #[.int .u16 p.id, .int .i64 1, .int .u32 p.co, .int .u64 p.hr, .int .u32 p.hc, .int .u64 p.hb, .int .u16 p.hp, .bool p.ak, .bool p.pe, .bool p.ao, .int .i64 p.av, .bool p.yo, .int .i64 p.yv, .bool p.ho, .int .i64 p.hv], .bool false]) (results_two rfl _ _ Y _ _ _ _ rfl _ rfl (setRow_heap _ _ _ _ _ _ hy) Tryz.underlying63 rfl (by kernel_rfl)) rfl ⟨rfl, (S.row 0 rfl [.int .u16 p.id, .int .i64 1, .int .u32 p.co, .int .u64 p.hr, .int .u32 p.hc, .int .u64 p.hb, .int .u16 p.hp, .bool p.ak, .bool p.pe, .bool p.ao, .int .i64 p.av, .bool p.yo, .int .i64 p.yv, .bool p.ho, .int .i64 p.hv]).old⟩

theorem block_off (p : Po) (h0 : ¬ p.st = 0) (h1 : ¬ p.st = 1) (w : World) :
    Calls Tryz.prog 121 #[.agg #[.int .u16 p.id, .int .i64 p.st, .int .u32 p.co, .int .u64 p.hr, .int .u32 p.hc, .int .u64 p.hb, .int .u16 p.hp, .bool p.ak, .bool p.pe, .bool p.ao, .int .i64 p.av, .bool p.yo, .int .i64 p.yv, .bool p.ho, .int .i64 p.hv]] w fun e w' => e = .returned (.tuple #[.agg #[.int .u16 p.id, .int .i64 1, .int .u32 p.co, .int .u64 p.hr, .int .u32 p.hc, .int .u64 p.hb, .int .u16 p.hp, .bool p.ak, .bool p.pe, .bool p.ao, .int .i64 p.av, .bool false, .int .i64 0, .bool p.ho, .int .i64 p.hv], .bool (learnsB p.st)]) ∧ Below w.heap.size w w' := by
  have b0 : (p.st == 0) = false := by simpa using h0
  have b1 : (p.st == 1) = false := by simpa using h1
  obtain ⟨q, hq⟩ : ∃ q, learnsB p.st = q := ⟨_, rfl⟩
  have HL := fun W => Lib.hid (learns_is p.st q (Lib.hid hq) W)
  rw [hq]
  clear hq
  obtain ⟨wb, hwb, S⟩ := hs_two w 63 63 [.int .u16 p.id, .int .i64 p.st, .int .u32 p.co, .int .u64 p.hr, .int .u32 p.hc, .int .u64 p.hb, .int .u16 p.hp, .bool p.ak, .bool p.pe, .bool p.ao, .int .i64 p.av, .bool p.yo, .int .i64 p.yv, .bool p.ho, .int .i64 p.hv] [.int .u16 0, .int .i64 0, .int .u32 0, .int .u64 0, .int .u32 0, .int .u64 0, .int .u16 0, .bool false, .bool false, .bool false, .int .i64 0, .bool false, .int .i64 0, .bool false, .int .i64 0]
  go_enter Tryz.func121, Tryz.ntmps121
  go_upto_region 1 with fail
  clear hwb
  obtain ⟨X, hX⟩ : ∃ X, w.heap.size = X := ⟨_, rfl⟩
  rw [hX] at S ⊢
  obtain ⟨Y, hY⟩ : ∃ Y, X + 1 = Y := ⟨_, rfl⟩
  rw [hY] at S ⊢
  have c1 := S.cell 1 1 rfl rfl
  have f1 := S.thaw 1 1 rfl
  go_wp2_with fail
  (with_reducible refine (HL _).out.mono ?_); rintro e w1 ⟨rfl, rfl⟩
  go_wp2_with fail
  have S1 := S.set 1 rfl 1 (.int .i64 1)
  simp only [List.set] at S1
  (with_reducible refine (stop_is _).mono ?_); rintro e w1 ⟨rfl, b1⟩
  have S2 := S1.below b1
  clear S S1 b1 c1 f1
  have d11 := S2.cell 1 11 rfl rfl
  have d12 := S2.cell 1 12 rfl rfl
  have f11 := S2.thaw 1 11 rfl
  have f12 := S2.thaw 1 12 rfl
  go_upto_region 8 with fail
  have S3 := (S2.set 1 rfl 11 (.bool false)).set 1 rfl 12 (.int .i64 0)
  simp only [List.set] at S3
  generalize (w1.setCell ⟨X, 11, none⟩ (.bool false)).setCell ⟨X, 12, none⟩ (.int .i64 0) = w2 at S3 ⊢
  clear S2 d11 d12 f11 f12
  have hx := S3.bk 1 rfl
  have hy := S3.bk 0 rfl
  go_wp2_with (first | (refine wpList_load_row rfl 63 _ rfl X rfl _ _ (0, 0) _ hx Tryz.underlying63 rfl (by kernel_rfl) ?_) | (refine wpList_store_row rfl 63 _ _ rfl Y _ rfl rfl _ _ hy (by kernel_rfl) (by kernel_rfl) (by kernel_rfl) ?_))
  exact bodyPost_ret (v := .tuple #[.agg #[.int .u16 p.id, .int .i64 1, .int .u32 p.co, .int .u64 p.hr, .int .u32 p.hc, .int .u64 p.hb, .int .u16 p.hp, .bool p.ak, .bool p.pe, .bool p.ao, .int .i64 p.av, .bool false, .int .i64 0, .bool p.ho, .int .i64 p.hv], .bool q]) (results_two rfl _ _ Y _ _ _ _ rfl _ rfl (setRow_heap _ _ _ _ _ _ hy) Tryz.underlying63 rfl (by kernel_rfl)) rfl ⟨rfl, (S3.row 0 rfl [.int .u16 p.id, .int .i64 1, .int .u32 p.co, .int .u64 p.hr, .int .u32 p.hc, .int .u64 p.hb, .int .u16 p.hp, .bool p.ak, .bool p.pe, .bool p.ao, .int .i64 p.av, .bool false, .int .i64 0, .bool p.ho, .int .i64 p.hv]).old⟩

theorem block_is (p q : Po) (x : Bool) (h : Hid (blockP p = (q, x))) (w : World) :
    Calls Tryz.prog 121 #[.agg #[.int .u16 p.id, .int .i64 p.st, .int .u32 p.co, .int .u64 p.hr, .int .u32 p.hc, .int .u64 p.hb, .int .u16 p.hp, .bool p.ak, .bool p.pe, .bool p.ao, .int .i64 p.av, .bool p.yo, .int .i64 p.yv, .bool p.ho, .int .i64 p.hv]] w fun e w' => e = .returned (.tuple #[.agg #[.int .u16 q.id, .int .i64 q.st, .int .u32 q.co, .int .u64 q.hr, .int .u32 q.hc, .int .u64 q.hb, .int .u16 q.hp, .bool q.ak, .bool q.pe, .bool q.ao, .int .i64 q.av, .bool q.yo, .int .i64 q.yv, .bool q.ho, .int .i64 q.hv], .bool x]) ∧ Below w.heap.size w w' := by
  have h := h.out
  unfold blockP at h
  by_cases c : p.st = 0
  · rw [if_pos (.inl c)] at h
    cases h
    have := block_0 p w
    rwa [← c] at this
  · by_cases d : p.st = 1
    · rw [if_pos (.inr d)] at h
      cases h
      have := block_1 p w
      rwa [← d] at this
    · rw [if_neg (fun e => e.elim c d)] at h
      cases h
      exact block_off p c d w

theorem become_is (p : Po) (v : Vec) (w : World) :
    Calls Tryz.prog 80 #[.agg #[.int .u16 p.id, .int .i64 p.st, .int .u32 p.co, .int .u64 p.hr, .int .u32 p.hc, .int .u64 p.hb, .int .u16 p.hp, .bool p.ak, .bool p.pe, .bool p.ao, .int .i64 p.av, .bool p.yo, .int .i64 p.yv, .bool p.ho, .int .i64 p.hv], .agg #[.int .u64 v.r, .int .u32 v.c, .int .u64 v.b, .int .u16 v.p]] w fun e w' => e = .returned (.agg #[.int .u16 p.id, .int .i64 p.st, .int .u32 p.co, .int .u64 v.r, .int .u32 v.c, .int .u64 v.b, .int .u16 p.id, .bool p.ak, .bool p.pe, .bool p.ao, .int .i64 p.av, .bool p.yo, .int .i64 p.yv, .bool p.ho, .int .i64 p.hv]) ∧ Below w.heap.size w w' := by
  obtain ⟨wb, hwb, S⟩ := hs_three w 63 61 63 [.int .u16 p.id, .int .i64 p.st, .int .u32 p.co, .int .u64 p.hr, .int .u32 p.hc, .int .u64 p.hb, .int .u16 p.hp, .bool p.ak, .bool p.pe, .bool p.ao, .int .i64 p.av, .bool p.yo, .int .i64 p.yv, .bool p.ho, .int .i64 p.hv] [.int .u64 v.r, .int .u32 v.c, .int .u64 v.b, .int .u16 v.p] [.int .u16 0, .int .i64 0, .int .u32 0, .int .u64 0, .int .u32 0, .int .u64 0, .int .u16 0, .bool false, .bool false, .bool false, .int .i64 0, .bool false, .int .i64 0, .bool false, .int .i64 0]
  go_enter Tryz.func80, Tryz.ntmps80
  go_upto_region 1 with fail
  clear hwb
  obtain ⟨X, hX⟩ : ∃ X, w.heap.size = X := ⟨_, rfl⟩
  rw [hX] at S ⊢
  obtain ⟨V, hV⟩ : ∃ V, X + 1 = V := ⟨_, rfl⟩
  rw [hV] at S ⊢
  obtain ⟨Y, hY⟩ : ∃ Y, V + 1 = Y := ⟨_, rfl⟩
  rw [hY] at S ⊢
  have v0 := S.cell 1 0 rfl rfl
  have v1 := S.cell 1 1 rfl rfl
  have v2 := S.cell 1 2 rfl rfl
  have v3 := S.cell 1 3 rfl rfl
  have c0 := S.cell 2 0 rfl rfl
  have c3 := S.cell 2 3 rfl rfl
  have c4 := S.cell 2 4 rfl rfl
  have c5 := S.cell 2 5 rfl rfl
  have c6 := S.cell 2 6 rfl rfl
  have f3 := S.thaw 2 3 rfl
  have f4 := S.thaw 2 4 rfl
  have f5 := S.thaw 2 5 rfl
  have f6 := S.thaw 2 6 rfl
  go_upto_region 3 with fail
  have S3 := ((((S.set 2 rfl 3 (.int .u64 v.r)).set 2 rfl 4 (.int .u32 v.c)).set 2 rfl 5 (.int .u64 v.b)).set 2 rfl 6 (.int .u16 v.p)).set 2 rfl 6 (.int .u16 p.id)
  simp only [List.set] at S3
  generalize ((((wb.setCell ⟨X, 3, none⟩ (.int .u64 v.r)).setCell ⟨X, 4, none⟩ (.int .u32 v.c)).setCell ⟨X, 5, none⟩ (.int .u64 v.b)).setCell ⟨X, 6, none⟩ (.int .u16 v.p)).setCell ⟨X, 6, none⟩ (.int .u16 p.id) = w2 at S3 ⊢
  clear S v0 v1 v2 v3 c0 c3 c4 c5 c6 f3 f4 f5 f6
  have hx := S3.bk 2 rfl
  have hy := S3.bk 0 rfl
  go_wp2_with (first | (refine wpList_load_row rfl 63 _ rfl X rfl _ _ (0, 0) _ hx Tryz.underlying63 rfl (by kernel_rfl) ?_) | (refine wpList_store_row rfl 63 _ _ rfl Y _ rfl rfl _ _ hy (by kernel_rfl) (by kernel_rfl) (by kernel_rfl) ?_))
  exact bodyPost_ret (v := .agg #[.int .u16 p.id, .int .i64 p.st, .int .u32 p.co, .int .u64 v.r, .int .u32 v.c, .int .u64 v.b, .int .u16 p.id, .bool p.ak, .bool p.pe, .bool p.ao, .int .i64 p.av, .bool p.yo, .int .i64 p.yv, .bool p.ho, .int .i64 p.hv]) (results_cell_row rfl _ _ Y _ _ _ _ rfl (setRow_heap _ _ _ _ _ _ hy) Tryz.underlying63 rfl (by kernel_rfl)) rfl ⟨rfl, (S3.row 0 rfl [.int .u16 p.id, .int .i64 p.st, .int .u32 p.co, .int .u64 v.r, .int .u32 v.c, .int .u64 v.b, .int .u16 p.id, .bool p.ak, .bool p.pe, .bool p.ao, .int .i64 p.av, .bool p.yo, .int .i64 p.yv, .bool p.ho, .int .i64 p.hv]).old⟩

set_option maxHeartbeats 1000000 in
theorem new_is (i k : Int) (on : Bool) (v : Vec) (s : Int) (hs : Hid ((if on then (1 : Int) else 0) = s)) (w : World) :
    Calls Tryz.prog 42 #[.int .u16 i, .int .u32 k, .bool on, .agg #[.int .u64 v.r, .int .u32 v.c, .int .u64 v.b, .int .u16 v.p]] w fun e w' => e = .returned (.agg #[.int .u16 i, .int .i64 s, .int .u32 k, .int .u64 v.r, .int .u32 v.c, .int .u64 v.b, .int .u16 i, .bool false, .bool false, .bool false, .int .i64 0, .bool false, .int .i64 0, .bool false, .int .i64 0]) ∧ Below w.heap.size w w' := by
  have HB := fun W => Lib.hid (become_is ⟨i, s, k, 0, 0, 0, 0, false, false, false, 0, false, 0, false, 0⟩ v W)
  dsimp only at HB
  obtain ⟨wb, hwb, S⟩ := hs_two w 61 63 [.int .u64 v.r, .int .u32 v.c, .int .u64 v.b, .int .u16 v.p] [.int .u16 0, .int .i64 0, .int .u32 0, .int .u64 0, .int .u32 0, .int .u64 0, .int .u16 0, .bool false, .bool false, .bool false, .int .i64 0, .bool false, .int .i64 0, .bool false, .int .i64 0]
  go_enter Tryz.func42, Tryz.ntmps42
  go_upto_region 1 with fail
  clear hwb
  obtain ⟨V, hV⟩ : ∃ V, w.heap.size = V := ⟨_, rfl⟩
  rw [hV] at S ⊢
  obtain ⟨Y, hY⟩ : ∃ Y, V + 1 = Y := ⟨_, rfl⟩
  rw [hY] at S ⊢
  go_wp2_with fail
  (with_reducible refine (stop_is _).mono ?_); rintro e w1 ⟨rfl, b1⟩
  have S1 := S.below b1
  clear S b1
  go_wp2_with fail
  (with_reducible refine (stop_is _).mono ?_); rintro e w2 ⟨rfl, b2⟩
  have S2 := S1.below b2
  clear S1 b2
  go_wp2_with fail
  (with_reducible refine (stop_is _).mono ?_); rintro e w3 ⟨rfl, b3⟩
  have S3 := S2.below b3
  clear S2 b3
  go_upto_if 16 with (refine wpList_store_row rfl 63 _ _ rfl _ _ rfl rfl _ _ (heap_alloc_new _ _) (by kernel_rfl) (by kernel_rfl) (by kernel_rfl) ?_)
  rw [alloc_row]
  have S4 := S3.al rfl 63 [.int .u16 i, .int .i64 0, .int .u32 k, .int .u64 0, .int .u32 0, .int .u64 0, .int .u16 0, .bool false, .bool false, .bool false, .int .i64 0, .bool false, .int .i64 0, .bool false, .int .i64 0]
  obtain ⟨Z, hZ⟩ : ∃ Z, w3.heap.size = Z := ⟨_, rfl⟩
  rw [hZ] at S4 ⊢
  generalize w3.alloc (.cells #[.int .u16 i, .int .i64 0, .int .u32 k, .int .u64 0, .int .u32 0, .int .u64 0, .int .u16 0, .bool false, .bool false, .bool false, .int .i64 0, .bool false, .int .i64 0, .bool false, .int .i64 0] 63) = w4 at S4 ⊢
  clear S3 hZ
  cases on with
  | false =>
    obtain rfl : s = 0 := by simpa using hs.out.symm
    have S5 := S4
    clear S4
    have z0 := S5.cell 2 0 rfl rfl
    have z1 := S5.cell 2 1 rfl rfl
    have z2 := S5.cell 2 2 rfl rfl
    have z3 := S5.cell 2 3 rfl rfl
    have hz := S5.bk 0 rfl
    go_upto_region 4 with fail
    go_wp2_with (first | (refine wpList_load_row rfl 63 _ rfl Z rfl _ _ (0, 0) _ hz Tryz.underlying63 rfl (by kernel_rfl) ?_) | fail)
    (with_reducible refine (HB _).out.mono ?_); rintro e w6 ⟨rfl, b6⟩
    have S6 := S5.below b6
    have hy := S6.bk 1 rfl
    go_wp2_with (refine wpList_store_row rfl 63 _ _ rfl Y _ rfl rfl _ _ hy (by kernel_rfl) (by kernel_rfl) (by kernel_rfl) ?_)
    exact bodyPost_ret (v := .agg #[.int .u16 i, .int .i64 0, .int .u32 k, .int .u64 v.r, .int .u32 v.c, .int .u64 v.b, .int .u16 i, .bool false, .bool false, .bool false, .int .i64 0, .bool false, .int .i64 0, .bool false, .int .i64 0]) (results_cell_row rfl _ _ Y _ _ _ _ rfl (setRow_heap _ _ _ _ _ _ hy) Tryz.underlying63 rfl (by kernel_rfl)) rfl ⟨rfl, (S6.row 1 rfl [.int .u16 i, .int .i64 0, .int .u32 k, .int .u64 v.r, .int .u32 v.c, .int .u64 v.b, .int .u16 i, .bool false, .bool false, .bool false, .int .i64 0, .bool false, .int .i64 0, .bool false, .int .i64 0]).old⟩
  | true =>
    obtain rfl : s = 1 := by simpa using hs.out.symm
    have y1 := S4.cell 0 1 rfl rfl
    have g1 := S4.thaw 0 1 rfl
    go_upto_region 4 with fail
    have S5 := S4.set 0 rfl 1 (.int .i64 1)
    simp only [List.set] at S5
    generalize w4.setCell ⟨Z, 1, none⟩ (.int .i64 1) = w5 at S5 ⊢
    clear S4 y1 g1
    have z0 := S5.cell 2 0 rfl rfl
    have z1 := S5.cell 2 1 rfl rfl
    have z2 := S5.cell 2 2 rfl rfl
    have z3 := S5.cell 2 3 rfl rfl
    have hz := S5.bk 0 rfl
    go_wp2_with (first | (refine wpList_load_row rfl 63 _ rfl Z rfl _ _ (0, 0) _ hz Tryz.underlying63 rfl (by kernel_rfl) ?_) | fail)
    (with_reducible refine (HB _).out.mono ?_); rintro e w6 ⟨rfl, b6⟩
    have S6 := S5.below b6
    have hy := S6.bk 1 rfl
    go_wp2_with (refine wpList_store_row rfl 63 _ _ rfl Y _ rfl rfl _ _ hy (by kernel_rfl) (by kernel_rfl) (by kernel_rfl) ?_)
    exact bodyPost_ret (v := .agg #[.int .u16 i, .int .i64 1, .int .u32 k, .int .u64 v.r, .int .u32 v.c, .int .u64 v.b, .int .u16 i, .bool false, .bool false, .bool false, .int .i64 0, .bool false, .int .i64 0, .bool false, .int .i64 0]) (results_cell_row rfl _ _ Y _ _ _ _ rfl (setRow_heap _ _ _ _ _ _ hy) Tryz.underlying63 rfl (by kernel_rfl)) rfl ⟨rfl, (S6.row 1 rfl [.int .u16 i, .int .i64 1, .int .u32 k, .int .u64 v.r, .int .u32 v.c, .int .u64 v.b, .int .u16 i, .bool false, .bool false, .bool false, .int .i64 0, .bool false, .int .i64 0, .bool false, .int .i64 0]).old⟩

end Go.Proofs.YtnmnihlhcokjpaaGreatDoor

/- A region that draws its order, whose operations only read, and whose callees leave all that is older as it lay (they may draw, and lay blocks of their own, and write there): walked once, in the order of the text. The how-to's theorem on quiet regions, at the class 'the worlds that agree with w below its end'. -/
namespace Go.Proofs.YtnmnihlhcokjpaaGreatDoor
set_option maxRecDepth 100000
open Go.RowKit
set_option linter.unusedVariables false

/-- A world that agrees with w on all blocks that w has. -/
structure LaterW (w : World) where
  w' : World
  h : Below w.heap.size w w'

instance (w : World) : Inhabited (LaterW w) := ⟨⟨w, Below.refl _ _⟩⟩

theorem region_later {P : Program} {id : Nat} {Q : Exit → Act → World → Prop} {a : Act} {w : World} {l : List Oper} (hm : P.follows .mixedOrders = true) (hB : Region.lexB .any l.toArray = true)
    (h : wpQuiet P l.toArray (fun v => ∃ p : LaterW w, v = p.w') (fun a' => ∀ v, (∃ p : LaterW w, v = p.w') → Q .normal a' v) l a) : (Code.region id l.toArray true).wp P Q a w :=
  wp_region_quiet (C := fun v => ∃ p : LaterW w, v = p.w') hm hB ⟨⟨w.drew, (Below.refl _ _).drew⟩, rfl⟩ (by simpa using h)

/-- A callee's contract, met in a world of the class. -/
theorem Calls.later {P : Program} {f : FuncId} {args : Array Value} {w : World} {q : LaterW w} {v : Value}
    (h : Calls P f args q.w' fun e v' => e = .returned v ∧ Below q.w'.heap.size q.w' v') : Calls P f args q.w' fun e v' => e = .returned v ∧ ∃ p : LaterW w, v' = p.w' :=
  h.mono fun _ v' ⟨he, hb⟩ => ⟨he, ⟨v', q.h.trans (hb.mono q.h.size)⟩, rfl⟩
theorem mixedL : Tryz.prog.follows .mixedOrders = true := by kernel_rfl

end Go.Proofs.YtnmnihlhcokjpaaGreatDoor

/- A port's row under a name, so that a walk's slots stay small; a whole row loaded and stored, as the walk's simp meets it. -/
namespace Go.Proofs.YtnmnihlhcokjpaaGreatDoor
set_option maxRecDepth 100000
open Go.ChangeShapes Go.WideShapes Go.ChangeAt Go.RowKit
set_option linter.unusedVariables false

section
variable {P : Program}
end

/-- A whole block in every later world. -/
theorem Hs.bkq {w wx : World} {l : List (Nat × TypeId × List Value)} (h : Hs w l wx) (k : Nat) {g : Nat} {T : TypeId} {cs : List Value} (hk : l[k]? = some (g, T, cs)) (v : World) (hv : ∃ q : LaterW wx, v = q.w') :
    v.heap[g]? = some (.cells cs.toArray T (0, 0)) := by
  obtain ⟨q, rfl⟩ := hv
  exact (h.below q.h).bk k hk
/-- A whole load in a region that draws its order. -/
theorem quiet_load_row {P : Program} {C : World → Prop} {o : Oper} {a : Act} {K : Act → Prop} (ty : TypeId) (x : Operand) (ho : o.op = .load ty x)
    (g : Nat) (hx : a.eval x = .pointer (some ⟨g, 0, none⟩)) (t : TypeId) (cs : Array Value) (fr : Nat × Nat) (d : TypeDesc) (hg : ∀ w, C w → w.heap[g]? = some (.cells cs t fr))
    (hu : P.underlying ty = some d) (hd : (match d with | .struct _ | .array _ _ => true | _ => false) = true) (hi : (P.info? ty).map (·.size) = some cs.size)
    (h : K (a.put o.dst (.agg cs))) : o.quiet P a C K := by
  refine ⟨.agg cs, fun w hw => ?_, h⟩
  unfold Oper.quietAt execOp
  simp only [ho, hx, Instr.loadAt, Instr.sureAddr, Sem.run_bind, Sem.run_pure, Result.andThen_ok, run_loadVar_row w g t ty cs fr d (hg w hw) hu hd hi]
  exact ⟨rfl, rfl⟩

/-- A port's cells. -/
def lP (p : Po) : List Value := [.int .u16 p.id, .int .i64 p.st, .int .u32 p.co, .int .u64 p.hr, .int .u32 p.hc, .int .u64 p.hb, .int .u16 p.hp, .bool p.ak, .bool p.pe, .bool p.ao, .int .i64 p.av, .bool p.yo, .int .i64 p.yv, .bool p.ho, .int .i64 p.hv]
theorem lP_len (p : Po) : (lP p).length = 15 := rfl
theorem lP_one (p : Po) : (lP p).all (·.oneCell') = true := rfl

theorem rise_row (p q : Po) (h : Hid (riseP p = q)) (w : World) :
    Calls Tryz.prog 119 #[.agg (lP p).toArray] w fun e w' => e = .returned (.agg (lP q).toArray) ∧ Below w.heap.size w w' := rise_is p q h w
theorem block_row (p q : Po) (x : Bool) (h : Hid (blockP p = (q, x))) (w : World) :
    Calls Tryz.prog 121 #[.agg (lP p).toArray] w fun e w' => e = .returned (.tuple #[.agg (lP q).toArray, .bool x]) ∧ Below w.heap.size w w' := block_is p q x h w
theorem same_row (p : Po) (w : World) : (Op.equalIn 10000 63 (.agg (lP p).toArray) (.agg (lP p).toArray)).run Tryz.prog w = .ok true w := port_same p w
end Go.Proofs.YtnmnihlhcokjpaaGreatDoor

/- Rows of elements of so many cells each that a call itself made: words of this work's own, over any program. -/
namespace Go.Proofs.YtnmnihlhcokjpaaGreatDoor
set_option maxRecDepth 100000
open Go Go.RowKit

theorem new_below (w : World) (o : Obj) : Below w.heap.size w (w.alloc o) := (Below.refl _ _).alloc (Nat.le_refl _) _
section
variable {α : Type} {enc : α → List Value} {s : Nat}

/-- All elements' cells, one behind the other. -/
def cellsOf (enc : α → List Value) : List α → List Value
  | [] => []
  | p :: r => enc p ++ cellsOf enc r

theorem cellsOf_len (he : ∀ p, (enc p).length = s) : ∀ l : List α, (cellsOf enc l).length = l.length * s
  | [] => by simp [cellsOf]
  | p :: r => by simp [cellsOf, he, cellsOf_len he r, Nat.add_mul]; omega

theorem cellsOf_get (he : ∀ p, (enc p).length = s) : ∀ (l : List α) (i : Nat) (p : α) (c : Nat), l[i]? = some p → c < s → (cellsOf enc l)[i * s + c]? = (enc p)[c]?
  | [], i, p, c, h, _ => by simp at h
  | q :: r, 0, p, c, h, hc => by
    simp at h; subst h
    simp only [cellsOf, Nat.zero_mul, Nat.zero_add]
    rw [List.getElem?_append_left (by rw [he]; exact hc)]
  | q :: r, i + 1, p, c, h, hc => by
    simp only [cellsOf]
    have e : (i + 1) * s = i * s + s := Nat.succ_mul i s
    rw [List.getElem?_append_right (by rw [he]; omega), he, ← cellsOf_get he r i p c (by simpa using h) hc]
    congr 1
    omega

theorem cellsOf_append : ∀ (a b : List α), cellsOf enc (a ++ b) = cellsOf enc a ++ cellsOf enc b
  | [], _ => rfl
  | p :: r, b => by simp only [List.cons_append, cellsOf, cellsOf_append r b, List.append_assoc]

theorem cellsOf_snoc (a : List α) (p : α) : cellsOf enc (a ++ [p]) = cellsOf enc a ++ enc p := by
  rw [cellsOf_append]; simp [cellsOf]

/-- The slice v, of l's elements, is a row of the call's own. -/
def OwnL (enc : α → List Value) (s : Nat) (e : TypeId) (w : World) (base : Nat) (v : Value) (l : List α) : Prop := w.ownsRow base e s v l.length (cellsOf enc l)

theorem OwnL.nil (e : TypeId) (w : World) (base : Nat) : OwnL enc s e w base (.slice none 0 0) [] := World.ownsRow_nil w base e s

theorem OwnL.mono {e : TypeId} {w : World} {base base' : Nat} {v : Value} {l : List α} (h : OwnL enc s e w base v l) (hb : base' ≤ base) : OwnL enc s e w base' v l := by
  refine ⟨h.1, ?_⟩
  rcases h.2 with h2 | ⟨g, cap, cur, hv, hg, r⟩
  · exact .inl h2
  · exact .inr ⟨g, cap, cur, hv, by omega, r⟩

theorem OwnL.drew {e : TypeId} {w : World} {base : Nat} {v : Value} {l : List α} (h : OwnL enc s e w base v l) : OwnL enc s e w.drew base v l := h

theorem OwnL.below {e : TypeId} {w w' : World} {base : Nat} {v : Value} {l : List α} (h : OwnL enc s e w base v l) (hb : Below w.heap.size w w') : OwnL enc s e w' base v l :=
  World.ownsRow.kept (row := none) h ⟨hb.os, hb.tape, hb.output, hb.size, fun k hk _ => hb.block k hk⟩ (by cases v.ownBlock <;> simp)

theorem OwnL.but {e : TypeId} {w w' : World} {base g : Nat} {v : Value} {l : List α} (h : OwnL enc s e w base v l) (hb : w.grownBy w' (some g)) (hg : g < base) : OwnL enc s e w' base v l :=
  World.ownsRow.kept h hb (.inr fun e => by have := World.ownsRow.lt h g e; omega)

theorem OwnL.shape {e : TypeId} {w : World} {base : Nat} {v : Value} {l : List α} (h : OwnL enc s e w base v l) : ∃ A cap, v = .slice A l.length cap := by
  rcases h.2 with ⟨hv, hn⟩ | ⟨g, cap, _, hv, _⟩
  · exact ⟨none, 0, by rw [hv, hn]⟩
  · exact ⟨_, cap, hv⟩

theorem OwnL.at {e : TypeId} {w : World} {base cap n : Nat} {A : Option Addr} {l : List α} (h : OwnL enc s e w base (.slice A n cap) l) (he : ∀ p, (enc p).length = s) {k : Nat} {p : α} (hk : l[k]? = some p) :
    ∃ g, A = some ⟨g, 0, none⟩ ∧ base ≤ g ∧ g < w.heap.size ∧ ∀ c, c < s → w.cell? ⟨g, k * s + c, none⟩ = (enc p)[c]? := by
  have hkl : k < l.length := by
    rcases Nat.lt_or_ge k l.length with q | q
    · exact q
    · rw [List.getElem?_eq_none q] at hk; cases hk
  have hlt := World.ownsRow.lt h
  rcases h.2 with ⟨_, hn⟩ | ⟨g, cap', cur, hv, hb, hr⟩
  · omega
  · cases hv
    have h' : w.ownsRow base e s (.slice (some ⟨g, 0, none⟩) l.length cap) l.length (cellsOf enc l) := h
    refine ⟨g, rfl, hb, (hlt g rfl).2, fun c hc => ?_⟩
    have hb2 : k * s + c < l.length * s := by
      have := Nat.mul_le_mul_right s (show k + 1 ≤ l.length from hkl)
      rw [Nat.add_mul, Nat.one_mul] at this
      omega
    rw [h'.cellAt _ hb2, cellsOf_get he l k p c hk hc]

theorem grow_trans {w a b : World} {r : Option Nat} (h : w.grownBy a r) (k : a.grownBy b r) : w.grownBy b r :=
  ⟨k.os.trans h.os, k.tape.trans h.tape, k.output.trans h.output, Nat.le_trans h.size k.size, fun i hi hn => (k.block i (Nat.lt_of_lt_of_le hi h.size) hn).trans (h.block i hi hn)⟩

theorem owns_row_some {w : World} {base e n sz : Nat} {v : Value} {xs : List Value} (h : w.ownsRow base e sz v n xs) (hn : 0 < n) : ∃ g cap, v = .slice (some ⟨g, 0, none⟩) n cap ∧ base ≤ g := by
  rcases h.2 with ⟨_, h0⟩ | ⟨g, cap, cur, hv, hb, _⟩
  · omega
  · exact ⟨g, cap, hv, hb⟩

/-- One element appended to such a row. -/
theorem append_elem {P : Program} (wr : World) {ops : Array Oper} {rest : List Oper} {o : Oper} {a : Act} {Q : Exit → Act → World → Prop}
    (hg : o.guard = none) (sl x : Operand) (t : TypeId) (hop : o.op = Op.call { callee := Callee.builtin Builtin.append, args := #[sl, x], argTypes := #[t, t] })
    (base : Nat) (e : TypeId) (i : TypeInfo) (z : Value) (bytes : Nat) (h1 : P.underlying t = some (.slice e)) (h2 : P.info? e = some i) (hz : i.zero = some z) (hsz : i.size = s) (hby : i.bytes = bytes) (hzs : z.cells.size = s) (hs0 : 0 < s)
    (he : ∀ p, (enc p).length = s) (hone : ∀ p, ∀ u ∈ enc p, u.oneCell' = true)
    (v : Value) (l : List α) (p : α) (hs : a.eval sl = v) (hown : OwnL enc s e wr base v l) (N : Nat) (hx : a.eval x = .slice (some ⟨N, 0, none⟩) 1 1) (hN : N = wr.heap.size)
    (hle : l.length ≤ 100000) (hby2 : bytes ≤ 1000) (B : Nat) (w0 : World) (hnx : Below B w0 wr) (hB : B ≤ base) (hbase : base ≤ wr.heap.size)
    (hK : ∀ g cap w', base ≤ g → OwnL enc s e w' base (.slice (some ⟨g, 0, none⟩) (l.length + 1) cap) (l ++ [p]) → Below B w0 w' → wr.grownBy w' v.ownBlock → wpList P ops Q rest (a.put o.dst (.slice (some ⟨g, 0, none⟩) (l.length + 1) cap)) w') :
    wpList P ops Q (o :: rest) a (wr.alloc (.cells (enc p).toArray e)) := by
  subst hN
  refine wpList_append_own _ hg sl x t hop base e i z s bytes h1 h2 hz hsz hby hzs hs0 v l.length (cellsOf enc l) hs (World.ownsRow.alloc hown _) ⟨wr.heap.size, 0, none⟩ 1 1 (enc p) hx (by rw [he, Nat.one_mul]) ?_ (hone p) ?_ ?_ (by simp; omega) ?_
  · intro j u hj
    rw [addr_add, Nat.zero_add, World.cell?_alloc_at _ _ _ _ rfl]
    simpa using hj
  · unfold maxLen; omega
  · have : (l.length + 1) * bytes ≤ 100001 * 1000 := Nat.mul_le_mul (by omega) hby2
    omega
  · intro v' w' ho hgr _
    obtain ⟨g, cap, rfl, hgb⟩ := owns_row_some ho (by omega)
    refine hK g cap w' hgb ?_ ?_ ?_
    · unfold OwnL
      rw [List.length_append, cellsOf_snoc]
      exact ho
    · exact (hnx.alloc (by omega) _).grown hgr (by simp; omega) (fun k hk => by have := World.ownsRow.lt hown k hk; omega)
    · exact grow_trans (World.grownBy_alloc wr _ _) hgr

end

end Go.Proofs.YtnmnihlhcokjpaaGreatDoor
