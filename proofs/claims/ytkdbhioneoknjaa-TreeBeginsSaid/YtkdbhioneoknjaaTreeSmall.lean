/- IsRoot, Telling, through, mayLead, owesNothing: contracts. -/
import Derived.Test.YtkdbhioneoknjaaTreeMem
import Derived.Test.YtkdbhioneoknjaaRankVia
import Derived.Test.YtkdbhioneoknjaaPortIn
namespace Go.Proofs.Ytkdbhioneoknjaa
open Go.ChangeShapes Go.WideShapes Go.ChangeAt Go.RowKit
set_option linter.unusedVariables false

theorem desig_row (p : Po) (o : Int) (q : Bool) (hq : Hid ((decide (p.hb = o) && decide (p.hp = p.id)) = q)) (w : World) :
    Calls Try.prog 23 #[.agg (lP p).toArray, .int .u64 o] w fun e w' => e = .returned (.bool q) ∧ Below w.heap.size w w' := desig_is p o q hq w

theorem isroot_is (t : Th) (A : Option Addr) (n cap : Nat) (q : Bool) (hq : Hid (decide (t.ro = t.ow) = q)) (w : World) :
    Calls Try.prog 16 #[.agg (lT t A n cap).toArray] w fun e w' => e = .returned (.bool q) ∧ Below w.heap.size w w' := by
  obtain ⟨wb, hwb, S⟩ := hs_one w 31 (lT t A n cap)
  go_enter Try.func16, Try.ntmps16
  go_upto_region 1 with fail
  clear hwb
  have c0 := S.cell 0 0 rfl rfl
  have c1 := S.cell 0 1 rfl rfl
  go_wp2
  go_ret
  exact ⟨ret_bool (by rw [← hq.out]; exact (Bool.eq_iff_iff.2 (by simp))), S.old⟩

theorem telling_is (t : Th) (A : Option Addr) (n cap : Nat) (w : World) :
    Calls Try.prog 17 #[.agg (lT t A n cap).toArray] w fun e w' => e = .returned (.agg #[.int .u64 t.ro, .int .u32 t.co, .int .u64 t.ow, .int .u16 0]) ∧ Below w.heap.size w w' := by
  obtain ⟨wb, hwb, S⟩ := hs_two w 31 39 (lT t A n cap) [.int .u64 0, .int .u32 0, .int .u64 0, .int .u16 0]
  go_enter Try.func17, Try.ntmps17
  go_upto_region 1 with fail
  clear hwb
  obtain ⟨X, hX⟩ : ∃ X, w.heap.size = X := ⟨_, rfl⟩
  rw [hX] at S ⊢
  obtain ⟨Y, hY⟩ : ∃ Y, X + 1 = Y := ⟨_, rfl⟩
  rw [hY] at S ⊢
  have c0 := S.cell 1 0 rfl rfl
  have c1 := S.cell 1 1 rfl rfl
  have c2 := S.cell 1 2 rfl rfl
  have hy := S.bk 0 rfl
  go_wp2_with (refine wpList_store_row rfl 39 _ _ rfl Y _ rfl rfl _ _ hy (by kernel_rfl) (by kernel_rfl) (by kernel_rfl) ?_)
  exact bodyPost_ret (v := .agg #[.int .u64 t.ro, .int .u32 t.co, .int .u64 t.ow, .int .u16 0]) (results_cell_row rfl _ _ Y _ _ _ _ rfl (setRow_heap _ _ _ _ _ _ hy) Try.underlying39 rfl (by kernel_rfl)) rfl ⟨rfl, (S.row 0 rfl [.int .u64 t.ro, .int .u32 t.co, .int .u64 t.ow, .int .u16 0]).old⟩

/-- What its LAN tells, through a port. -/
def thruV (p : Po) : Vec := ⟨p.hr, farI p.hc p.co, p.hb, p.hp⟩

theorem through_is (p : Po) (hb : PoB p) (w : World) :
    Calls Try.prog 28 #[.agg (lP p).toArray] w fun e w' => e = .returned (.agg #[.int .u64 (thruV p).r, .int .u32 (thruV p).c, .int .u64 (thruV p).b, .int .u16 (thruV p).p]) ∧ Below w.heap.size w w' := by
  have HV := fun W => Lib.hid (via_is ⟨p.hr, p.hc, p.hb, p.hp⟩ p.co (by unfold PoB at hb; unfold VB; dsimp only; omega) (by unfold PoB at hb; omega) (by unfold PoB at hb; omega) W)
  dsimp only at HV
  clear hb
  obtain ⟨wb, hwb, S⟩ := hs_two w 49 39 (lP p) [.int .u64 0, .int .u32 0, .int .u64 0, .int .u16 0]
  go_enter Try.func28, Try.ntmps28
  go_upto_region 1 with fail
  clear hwb
  obtain ⟨X, hX⟩ : ∃ X, w.heap.size = X := ⟨_, rfl⟩
  rw [hX] at S ⊢
  obtain ⟨Y, hY⟩ : ∃ Y, X + 1 = Y := ⟨_, rfl⟩
  rw [hY] at S ⊢
  have c2 := S.cell 1 2 rfl rfl
  have c3 := S.cell 1 3 rfl rfl
  have c4 := S.cell 1 4 rfl rfl
  have c5 := S.cell 1 5 rfl rfl
  have c6 := S.cell 1 6 rfl rfl
  go_wp2_with fail
  (with_reducible refine (HV _).out.mono ?_); rintro e w1 ⟨rfl, b1⟩
  have S1 := S.below b1
  have hy := S1.bk 0 rfl
  clear S HV c2 c3 c4 c5 c6
  go_wp2_with (refine wpList_store_row rfl 39 _ _ rfl Y _ rfl rfl _ _ hy (by kernel_rfl) (by kernel_rfl) (by kernel_rfl) ?_)
  exact bodyPost_ret (v := .agg #[.int .u64 (thruV p).r, .int .u32 (thruV p).c, .int .u64 (thruV p).b, .int .u16 (thruV p).p]) (results_cell_row rfl _ _ Y _ _ _ _ rfl (setRow_heap _ _ _ _ _ _ hy) Try.underlying39 rfl (by kernel_rfl)) rfl ⟨rfl, (S1.row 0 rfl [.int .u64 (thruV p).r, .int .u32 (thruV p).c, .int .u64 (thruV p).b, .int .u16 (thruV p).p]).old⟩

/-- May a port lead to the root? -/
def desB (p : Po) (o : Int) : Bool := decide (p.hb = o) && decide (p.hp = p.id)
def mayB (p : Po) (o : Int) : Bool := !desB p o && (decide (p.st ≠ 0) && decide (p.hr < o))

theorem may_is (p : Po) (o : Int) (q : Bool) (hq : Hid (mayB p o = q)) (w : World) :
    Calls Try.prog 51 #[.agg (lP p).toArray, .int .u64 o] w fun e w' => e = .returned (.bool q) ∧ Below w.heap.size w w' := by
  obtain ⟨d, hd⟩ : ∃ d, desB p o = d := ⟨_, rfl⟩
  have HD := fun W => Lib.hid (desig_row p o d (Lib.hid hd) W)
  have HQ := Lib.hid hq.out
  unfold mayB at HQ
  rw [hd] at HQ
  clear hq hd
  obtain ⟨wb, hwb, S⟩ := hs_one w 49 (lP p)
  go_enter Try.func51, Try.ntmps51
  go_upto_region 1 with fail
  clear hwb
  obtain ⟨X, hX⟩ : ∃ X, w.heap.size = X := ⟨_, rfl⟩
  rw [hX] at S ⊢
  have hx := S.bk 0 rfl
  go_wp2_with (refine wpList_load_row rfl 49 _ rfl X rfl _ _ (0, 0) _ hx Try.underlying49 rfl (by kernel_rfl) ?_)
  (with_reducible refine (HD _).out.mono ?_); rintro e w1 ⟨rfl, b1⟩
  have S1 := S.below b1
  clear S HD hx
  have c1 := S1.cell 0 1 rfl rfl
  have c3 := S1.cell 0 3 rfl rfl
  cases d with
  | true =>
    go_wp2
    go_ret
    exact ⟨ret_bool (by rw [← HQ.out]; rfl), S1.old⟩
  | false =>
    by_cases h1 : p.st = 0
    · have e := HQ.out
      rw [show decide (p.st ≠ 0) = false from decide_eq_false (fun k => k h1)] at e
      have HQ := Lib.hid e
      rw [h1] at c1
      clear h1
      go_wp2
      go_ret
      exact ⟨ret_bool (by rw [← HQ.out]; rfl), S1.old⟩
    · have hb : (p.st == 0) = false := by simpa using h1
      have hb' : (p.st != 0) = true := by simp [bne, hb]
      have e := HQ.out
      rw [show decide (p.st ≠ 0) = true from decide_eq_true h1] at e
      have HQ := Lib.hid e
      clear h1 e
      go_wp2
      go_ret
      exact ⟨ret_bool (by rw [← HQ.out]; simp), S1.old⟩

/-- A port without what its LAN waits for. -/
def owesP (p : Po) : Po := { p with ak := false, pe := false }
theorem owes_is (p : Po) (w : World) :
    Calls Try.prog 49 #[.agg (lP p).toArray] w fun e w' => e = .returned (.agg (lP (owesP p)).toArray) ∧ Below w.heap.size w w' := by
  obtain ⟨wb, hwb, S⟩ := hs_two w 49 49 (lP p) [.int .u16 0, .int .i64 0, .int .u32 0, .int .u64 0, .int .u32 0, .int .u64 0, .int .u16 0, .bool false, .bool false, .bool false, .int .i64 0, .bool false, .int .i64 0, .bool false, .int .i64 0]
  go_enter Try.func49, Try.ntmps49
  go_upto_region 1 with fail
  clear hwb
  obtain ⟨X, hX⟩ : ∃ X, w.heap.size = X := ⟨_, rfl⟩
  rw [hX] at S ⊢
  obtain ⟨Y, hY⟩ : ∃ Y, X + 1 = Y := ⟨_, rfl⟩
  rw [hY] at S ⊢
  have c7 := S.cell 1 7 rfl rfl
  have c8 := S.cell 1 8 rfl rfl
  have f7 := S.thaw 1 7 rfl
  have f8 := S.thaw 1 8 rfl
  go_upto_region 2 with fail
  have S3 : Hs w [(Y, 49, [.int .u16 0, .int .i64 0, .int .u32 0, .int .u64 0, .int .u32 0, .int .u64 0, .int .u16 0, .bool false, .bool false, .bool false, .int .i64 0, .bool false, .int .i64 0, .bool false, .int .i64 0]), (X, 49, lP (owesP p))] _ := (S.set 1 rfl 8 (.bool false)).set 1 rfl 7 (.bool false)
  generalize (wb.setCell ⟨X, 8, none⟩ (.bool false)).setCell ⟨X, 7, none⟩ (.bool false) = w2 at S3 ⊢
  clear S c7 c8 f7 f8
  have hx := S3.bk 1 rfl
  have hy := S3.bk 0 rfl
  go_wp2_with (first | (refine wpList_load_row rfl 49 _ rfl X rfl _ _ (0, 0) _ hx Try.underlying49 rfl (by kernel_rfl) ?_) | (refine wpList_store_row rfl 49 _ _ rfl Y _ rfl rfl _ _ hy (by kernel_rfl) (by kernel_rfl) (by kernel_rfl) ?_))
  exact bodyPost_ret (v := .agg (lP (owesP p)).toArray) (results_cell_row rfl _ _ Y _ _ _ _ rfl (setRow_heap _ _ _ _ _ _ hy) Try.underlying49 rfl (by kernel_rfl)) rfl ⟨rfl, (S3.row 0 rfl (lP (owesP p))).old⟩

end Go.Proofs.Ytkdbhioneoknjaa
