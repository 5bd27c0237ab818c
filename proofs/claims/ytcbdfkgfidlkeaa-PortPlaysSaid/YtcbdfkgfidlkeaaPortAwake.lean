/- The law's example; '==' of ports that are alike; the document's Rise, Block and Next. -/
import Derived.Test.YtcbdfkgfidlkeaaPortBlock
import Derived.Laws.StructEq
namespace Go.Proofs.Ytcbdfkgfidlkeaa
open Go.ChangeShapes Go.WideShapes Go.ChangeAt Go.RowKit
set_option linter.unusedVariables false

/-- '==' of ports that are alike. -/
theorem port_same (p : Po) (w : World) : (Op.equalIn 10000 32 (.agg #[.int .u16 p.id, .int .i64 p.st, .int .u32 p.co, .int .u64 p.hr, .int .u32 p.hc, .int .u64 p.hb, .int .u16 p.hp, .bool p.ak, .bool p.pe, .bool p.ao, .int .i64 p.av, .bool p.yo, .int .i64 p.yv, .bool p.ho, .int .i64 p.hv]) (.agg #[.int .u16 p.id, .int .i64 p.st, .int .u32 p.co, .int .u64 p.hr, .int .u32 p.hc, .int .u64 p.hb, .int .u16 p.hp, .bool p.ak, .bool p.pe, .bool p.ao, .int .i64 p.av, .bool p.yo, .int .i64 p.yv, .bool p.ho, .int .i64 p.hv])).run Try.prog w = .ok true w := by
  have ev : ∀ w, (Op.equalIn 9999 28 (.agg #[.int .u64 p.hr, .int .u32 p.hc, .int .u64 p.hb, .int .u16 p.hp]) (.agg #[.int .u64 p.hr, .int .u32 p.hc, .int .u64 p.hb, .int .u16 p.hp])).run Try.prog w = .ok true w := by
    intro w
    rw [show (9999 : Nat) = 9998 + 1 from rfl, run_equalIn_struct w 9998 28 _ _ (by kernel_rfl) (by kernel_rfl)]
    simp only [Program.fieldsOf, Try.underlying28]
    go_simp
  have et : ∀ (o : Bool) (v : Int) w, (Op.equalIn 9999 30 (.agg #[.bool o, .int .i64 v]) (.agg #[.bool o, .int .i64 v])).run Try.prog w = .ok true w := by
    intro o v w
    rw [show (9999 : Nat) = 9998 + 1 from rfl, run_equalIn_struct w 9998 30 _ _ (by kernel_rfl) (by kernel_rfl)]
    simp only [Program.fieldsOf, Try.underlying30]
    cases o <;> go_simp
  rw [show (10000 : Nat) = 9999 + 1 from rfl, run_equalIn_struct w 9999 32 _ _ (by kernel_rfl) (by kernel_rfl)]
  simp only [Program.fieldsOf, Try.underlying32]
  go_simp

/-- The document's answers, of a state. -/
def rriseI (s : Int) : Int × Int := if s = 1 then (2, 1) else (s, 0)
def rblockI (s : Int) : Int × Int × Int := if s = 0 ∨ s = 1 then (s, 0, 0) else if s = 3 ∨ s = 4 then (1, 1, 1) else (1, 1, 0)
def rnextI (s : Int) : Int × Int × Int := if s = 2 then (3, 1, 0) else if s = 3 then (4, 0, 1) else (s, 0, 0)

theorem rrise_is (s a b : Int) (h : Hid (rriseI s = (a, b))) (w : World) :
    Calls Try.prog 9 #[.int .i64 s] w fun e w' => e = .returned (.tuple #[.int .i64 a, .int .i64 b]) ∧ w = w' := by
  have h := h.out
  unfold rriseI at h
  by_cases c : s = 1
  · rw [if_pos c] at h
    cases h
    subst c
    go_enter Try.func9, Try.ntmps9
    go_wp2
    exact bodyPost_ret (v := .tuple #[.int .i64 2, .int .i64 1]) (by simp [results, Try.results9, go_sem]) rfl ⟨rfl, rfl⟩
  · rw [if_neg c] at h
    cases h
    have hb : (s == 1) = false := by simpa using c
    go_enter Try.func9, Try.ntmps9
    go_wp2
    exact bodyPost_ret (v := .tuple #[.int .i64 s, .int .i64 0]) (by simp [results, Try.results9, go_sem]) rfl ⟨rfl, rfl⟩

theorem rnext_is (s a b d : Int) (h : Hid (rnextI s = (a, b, d))) (w : World) :
    Calls Try.prog 13 #[.int .i64 s] w fun e w' => e = .returned (.tuple #[.int .i64 a, .int .i64 b, .int .i64 d]) ∧ w = w' := by
  have h := h.out
  unfold rnextI at h
  by_cases c : s = 2
  · rw [if_pos c] at h
    cases h
    subst c
    go_enter Try.func13, Try.ntmps13
    go_wp2
    exact bodyPost_ret (v := .tuple #[.int .i64 3, .int .i64 1, .int .i64 0]) (by simp [results, Try.results13, go_sem]) rfl ⟨rfl, rfl⟩
  · rw [if_neg c] at h
    have hb : (s == 2) = false := by simpa using c
    by_cases k : s = 3
    · rw [if_pos k] at h
      cases h
      subst k
      go_enter Try.func13, Try.ntmps13
      go_wp2
      exact bodyPost_ret (v := .tuple #[.int .i64 4, .int .i64 0, .int .i64 1]) (by simp [results, Try.results13, go_sem]) rfl ⟨rfl, rfl⟩
    · rw [if_neg k] at h
      cases h
      have hk : (s == 3) = false := by simpa using k
      go_enter Try.func13, Try.ntmps13
      go_wp2
      exact bodyPost_ret (v := .tuple #[.int .i64 s, .int .i64 0, .int .i64 0]) (by simp [results, Try.results13, go_sem]) rfl ⟨rfl, rfl⟩

theorem rblock_is (s a b d : Int) (h : Hid (rblockI s = (a, b, d))) (w : World) :
    Calls Try.prog 11 #[.int .i64 s] w fun e w' => e = .returned (.tuple #[.int .i64 a, .int .i64 b, .int .i64 d]) ∧ w = w' := by
  have h := h.out
  unfold rblockI at h
  by_cases c0 : s = 0
  · subst c0
    cases h
    go_enter Try.func11, Try.ntmps11
    go_wp2
    exact bodyPost_ret (v := .tuple #[.int .i64 0, .int .i64 0, .int .i64 0]) (by simp [results, Try.results11, go_sem]) rfl ⟨rfl, rfl⟩
  by_cases c1 : s = 1
  · subst c1
    cases h
    go_enter Try.func11, Try.ntmps11
    go_wp2
    exact bodyPost_ret (v := .tuple #[.int .i64 1, .int .i64 0, .int .i64 0]) (by simp [results, Try.results11, go_sem]) rfl ⟨rfl, rfl⟩
  by_cases c3 : s = 3
  · subst c3
    cases h
    go_enter Try.func11, Try.ntmps11
    go_wp2
    exact bodyPost_ret (v := .tuple #[.int .i64 1, .int .i64 1, .int .i64 1]) (by simp [results, Try.results11, go_sem]) rfl ⟨rfl, rfl⟩
  by_cases c4 : s = 4
  · subst c4
    cases h
    go_enter Try.func11, Try.ntmps11
    go_wp2
    exact bodyPost_ret (v := .tuple #[.int .i64 1, .int .i64 1, .int .i64 1]) (by simp [results, Try.results11, go_sem]) rfl ⟨rfl, rfl⟩
  rw [if_neg (fun e => e.elim c0 c1), if_neg (fun e => e.elim c3 c4)] at h
  cases h
  have b0 : (s == 0) = false := by simpa using c0
  have b1 : (s == 1) = false := by simpa using c1
  have b3 : (s == 3) = false := by simpa using c3
  have b4 : (s == 4) = false := by simpa using c4
  go_enter Try.func11, Try.ntmps11
  go_wp2
  exact bodyPost_ret (v := .tuple #[.int .i64 1, .int .i64 1, .int .i64 0]) (by simp [results, Try.results11, go_sem]) rfl ⟨rfl, rfl⟩

theorem awake_port (w : World) : Calls Try.prog 7 #[] w fun e w' => e = .returned (.bool true) ∧ Below w.heap.size w w' := by
  have HN := fun W => Lib.hid (new_is 1 19 true ⟨0, 0, 0, 0⟩ 1 (Lib.hid rfl) W)
  have HR := fun W => Lib.hid (rise_is ⟨1, 1, 19, 0, 0, 0, 1, false, false, false, 0, false, 0, false, 0⟩ ⟨1, 2, 19, 0, 0, 0, 1, false, false, false, 0, true, 0, false, 0⟩ (Lib.hid rfl) W)
  have H2 := fun W => Lib.hid (next_is ⟨1, 2, 19, 0, 0, 0, 1, false, false, false, 0, true, 0, false, 0⟩ ⟨1, 3, 19, 0, 0, 0, 1, false, false, false, 0, true, 0, false, 0⟩ false (Lib.hid rfl) W)
  have H3 := fun W => Lib.hid (next_is ⟨1, 3, 19, 0, 0, 0, 1, false, false, false, 0, true, 0, false, 0⟩ ⟨1, 4, 19, 0, 0, 0, 1, false, false, false, 0, true, 0, false, 0⟩ true (Lib.hid rfl) W)
  dsimp only at HN HR H2 H3
  have S := Hs.nil w
  go_enter Try.func7, Try.ntmps7
  go_wp2_with fail
  (with_reducible refine (HN _).out.mono ?_); rintro e w1 ⟨rfl, b1⟩
  have S1 := S.below b1
  clear S b1 HN
  go_upto_region 2 with (refine wpList_store_row rfl 32 _ _ rfl _ _ rfl rfl _ _ (heap_alloc_new _ _) (by kernel_rfl) (by kernel_rfl) (by kernel_rfl) ?_)
  rw [alloc_row]
  have S2 := S1.al rfl 32 [.int .u16 1, .int .i64 1, .int .u32 19, .int .u64 0, .int .u32 0, .int .u64 0, .int .u16 1, .bool false, .bool false, .bool false, .int .i64 0, .bool false, .int .i64 0, .bool false, .int .i64 0]
  obtain ⟨A, hA⟩ : ∃ A, w1.heap.size = A := ⟨_, rfl⟩
  rw [hA] at S2 ⊢
  generalize w1.alloc (.cells #[.int .u16 1, .int .i64 1, .int .u32 19, .int .u64 0, .int .u32 0, .int .u64 0, .int .u16 1, .bool false, .bool false, .bool false, .int .i64 0, .bool false, .int .i64 0, .bool false, .int .i64 0] 32) = wa at S2 ⊢
  clear S1 hA
  have hA := S2.bk 0 rfl
  go_wp2_with (first | (refine wpList_load_row rfl 32 _ rfl A rfl _ _ (0, 0) _ hA Try.underlying32 rfl (by kernel_rfl) ?_) | fail)
  (with_reducible refine (HR _).out.mono ?_); rintro e w2 ⟨rfl, b2⟩
  have S3 := S2.below b2
  clear S2 b2 HR hA
  go_upto_region 3 with (refine wpList_store_row rfl 32 _ _ rfl _ _ rfl rfl _ _ (heap_alloc_new _ _) (by kernel_rfl) (by kernel_rfl) (by kernel_rfl) ?_)
  rw [alloc_row]
  have S4 := S3.al rfl 32 [.int .u16 1, .int .i64 2, .int .u32 19, .int .u64 0, .int .u32 0, .int .u64 0, .int .u16 1, .bool false, .bool false, .bool false, .int .i64 0, .bool true, .int .i64 0, .bool false, .int .i64 0]
  obtain ⟨B, hB⟩ : ∃ B, w2.heap.size = B := ⟨_, rfl⟩
  rw [hB] at S4 ⊢
  generalize w2.alloc (.cells #[.int .u16 1, .int .i64 2, .int .u32 19, .int .u64 0, .int .u32 0, .int .u64 0, .int .u16 1, .bool false, .bool false, .bool false, .int .i64 0, .bool true, .int .i64 0, .bool false, .int .i64 0] 32) = wb at S4 ⊢
  clear S3 hB
  have hB := S4.bk 0 rfl
  go_wp2_with (first | (refine wpList_load_row rfl 32 _ rfl B rfl _ _ (0, 0) _ hB Try.underlying32 rfl (by kernel_rfl) ?_) | fail)
  (with_reducible refine (H2 _).out.mono ?_); rintro e w3 ⟨rfl, b3⟩
  have S5 := S4.below b3
  clear S4 b3 H2 hB
  go_upto_region 4 with (refine wpList_store_row rfl 32 _ _ rfl _ _ rfl rfl _ _ (heap_alloc_new _ _) (by kernel_rfl) (by kernel_rfl) (by kernel_rfl) ?_)
  rw [alloc_row]
  have S6 := S5.al rfl 32 [.int .u16 1, .int .i64 3, .int .u32 19, .int .u64 0, .int .u32 0, .int .u64 0, .int .u16 1, .bool false, .bool false, .bool false, .int .i64 0, .bool true, .int .i64 0, .bool false, .int .i64 0]
  obtain ⟨C, hC⟩ : ∃ C, w3.heap.size = C := ⟨_, rfl⟩
  rw [hC] at S6 ⊢
  generalize w3.alloc (.cells #[.int .u16 1, .int .i64 3, .int .u32 19, .int .u64 0, .int .u32 0, .int .u64 0, .int .u16 1, .bool false, .bool false, .bool false, .int .i64 0, .bool true, .int .i64 0, .bool false, .int .i64 0] 32) = wc at S6 ⊢
  clear S5 hC
  have hC := S6.bk 0 rfl
  go_wp2_with (first | (refine wpList_load_row rfl 32 _ rfl C rfl _ _ (0, 0) _ hC Try.underlying32 rfl (by kernel_rfl) ?_) | fail)
  (with_reducible refine (H3 _).out.mono ?_); rintro e w4 ⟨rfl, b4⟩
  have S7 := S6.below b4
  clear S6 b4 H3 hC
  go_upto_region 5 with (refine wpList_store_row rfl 32 _ _ rfl _ _ rfl rfl _ _ (heap_alloc_new _ _) (by kernel_rfl) (by kernel_rfl) (by kernel_rfl) ?_)
  rw [alloc_row]
  have S8 := S7.al rfl 32 [.int .u16 1, .int .i64 4, .int .u32 19, .int .u64 0, .int .u32 0, .int .u64 0, .int .u16 1, .bool false, .bool false, .bool false, .int .i64 0, .bool true, .int .i64 0, .bool false, .int .i64 0]
  obtain ⟨D, hD⟩ : ∃ D, w4.heap.size = D := ⟨_, rfl⟩
  rw [hD] at S8 ⊢
  generalize w4.alloc (.cells #[.int .u16 1, .int .i64 4, .int .u32 19, .int .u64 0, .int .u32 0, .int .u64 0, .int .u16 1, .bool false, .bool false, .bool false, .int .i64 0, .bool true, .int .i64 0, .bool false, .int .i64 0] 32) = wd at S8 ⊢
  clear S7 hD
  have a1 := S8.cell 3 1 rfl rfl
  have b1 := S8.cell 2 1 rfl rfl
  have d1 := S8.cell 0 1 rfl rfl
  go_wp2
  go_ret
  exact ⟨rfl, S8.old⟩

end Go.Proofs.Ytcbdfkgfidlkeaa
