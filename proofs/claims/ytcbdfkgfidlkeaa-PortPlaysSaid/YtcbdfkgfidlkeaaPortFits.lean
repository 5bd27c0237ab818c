/- Are a port's timers such as there are: contract. -/
import Derived.Test.YtcbdfkgfidlkeaaPortAwake
import Derived.LoopTactic
namespace Go.Proofs.Ytcbdfkgfidlkeaa
open Go.ChangeShapes Go.WideShapes Go.ChangeAt Go.RowKit
set_option linter.unusedVariables false

/-- Is a number one that a timer's may be? -/
def fitI (v : Int) : Bool := decide (0 ≤ v) && decide (v ≤ 1073741824)
def fitsB (p : Po) : Bool := fitI p.av && (fitI p.yv && fitI p.hv)

theorem fitI_t {v : Int} (h : fitI v = true) : ¬ v < 0 ∧ ¬ 1073741824 < v := by unfold fitI at h; simp at h; omega
theorem fitI_f {v : Int} (h : fitI v = false) : v < 0 ∨ (¬ v < 0 ∧ 1073741824 < v) := by unfold fitI at h; simp at h; omega

theorem fits_t (p : Po) (n0 : ¬ p.av < 0) (g0 : ¬ 1073741824 < p.av) (n1 : ¬ p.yv < 0) (g1 : ¬ 1073741824 < p.yv) (n2 : ¬ p.hv < 0) (g2 : ¬ 1073741824 < p.hv) (w : World) :
    Calls Try.prog 8 #[.agg #[.int .u16 p.id, .int .i64 p.st, .int .u32 p.co, .int .u64 p.hr, .int .u32 p.hc, .int .u64 p.hb, .int .u16 p.hp, .bool p.ak, .bool p.pe, .bool p.ao, .int .i64 p.av, .bool p.yo, .int .i64 p.yv, .bool p.ho, .int .i64 p.hv]] w fun e w' => e = .returned (.bool true) ∧ Below w.heap.size w w' := by
  obtain ⟨wb, hwb, S⟩ := hs_one w 32 [.int .u16 p.id, .int .i64 p.st, .int .u32 p.co, .int .u64 p.hr, .int .u32 p.hc, .int .u64 p.hb, .int .u16 p.hp, .bool p.ak, .bool p.pe, .bool p.ao, .int .i64 p.av, .bool p.yo, .int .i64 p.yv, .bool p.ho, .int .i64 p.hv]
  go_enter Try.func8, Try.ntmps8
  go_upto_region 1 with fail
  clear hwb
  have c9 := S.cell 0 9 rfl rfl
  have c10 := S.cell 0 10 rfl rfl
  have c11 := S.cell 0 11 rfl rfl
  have c12 := S.cell 0 12 rfl rfl
  have c13 := S.cell 0 13 rfl rfl
  have c14 := S.cell 0 14 rfl rfl
  go_wp2
  go_rounds 4
  go_ret
  exact ⟨rfl, (((S.old.alloc S.old.size _).alloc (by have := S.old.size; simp; omega) _).alloc (by have := S.old.size; simp; omega) _).alloc (by have := S.old.size; simp; omega) _⟩

theorem fits_l0 (p : Po) (n0 : p.av < 0) (w : World) :
    Calls Try.prog 8 #[.agg #[.int .u16 p.id, .int .i64 p.st, .int .u32 p.co, .int .u64 p.hr, .int .u32 p.hc, .int .u64 p.hb, .int .u16 p.hp, .bool p.ak, .bool p.pe, .bool p.ao, .int .i64 p.av, .bool p.yo, .int .i64 p.yv, .bool p.ho, .int .i64 p.hv]] w fun e w' => e = .returned (.bool false) ∧ Below w.heap.size w w' := by
  obtain ⟨wb, hwb, S⟩ := hs_one w 32 [.int .u16 p.id, .int .i64 p.st, .int .u32 p.co, .int .u64 p.hr, .int .u32 p.hc, .int .u64 p.hb, .int .u16 p.hp, .bool p.ak, .bool p.pe, .bool p.ao, .int .i64 p.av, .bool p.yo, .int .i64 p.yv, .bool p.ho, .int .i64 p.hv]
  go_enter Try.func8, Try.ntmps8
  go_upto_region 1 with fail
  clear hwb
  have c9 := S.cell 0 9 rfl rfl
  have c10 := S.cell 0 10 rfl rfl
  have c11 := S.cell 0 11 rfl rfl
  have c12 := S.cell 0 12 rfl rfl
  have c13 := S.cell 0 13 rfl rfl
  have c14 := S.cell 0 14 rfl rfl
  go_wp2
  go_rounds 1
  go_ret
  exact ⟨rfl, (S.old.alloc S.old.size _).alloc (by have := S.old.size; simp; omega) _⟩

theorem fits_g0 (p : Po) (n0 : ¬ p.av < 0) (g0 : 1073741824 < p.av) (w : World) :
    Calls Try.prog 8 #[.agg #[.int .u16 p.id, .int .i64 p.st, .int .u32 p.co, .int .u64 p.hr, .int .u32 p.hc, .int .u64 p.hb, .int .u16 p.hp, .bool p.ak, .bool p.pe, .bool p.ao, .int .i64 p.av, .bool p.yo, .int .i64 p.yv, .bool p.ho, .int .i64 p.hv]] w fun e w' => e = .returned (.bool false) ∧ Below w.heap.size w w' := by
  obtain ⟨wb, hwb, S⟩ := hs_one w 32 [.int .u16 p.id, .int .i64 p.st, .int .u32 p.co, .int .u64 p.hr, .int .u32 p.hc, .int .u64 p.hb, .int .u16 p.hp, .bool p.ak, .bool p.pe, .bool p.ao, .int .i64 p.av, .bool p.yo, .int .i64 p.yv, .bool p.ho, .int .i64 p.hv]
  go_enter Try.func8, Try.ntmps8
  go_upto_region 1 with fail
  clear hwb
  have c9 := S.cell 0 9 rfl rfl
  have c10 := S.cell 0 10 rfl rfl
  have c11 := S.cell 0 11 rfl rfl
  have c12 := S.cell 0 12 rfl rfl
  have c13 := S.cell 0 13 rfl rfl
  have c14 := S.cell 0 14 rfl rfl
  go_wp2
  go_rounds 1
  go_ret
  exact ⟨rfl, (S.old.alloc S.old.size _).alloc (by have := S.old.size; simp; omega) _⟩

theorem fits_l1 (p : Po) (n0 : ¬ p.av < 0) (g0 : ¬ 1073741824 < p.av) (n1 : p.yv < 0) (w : World) :
    Calls Try.prog 8 #[.agg #[.int .u16 p.id, .int .i64 p.st, .int .u32 p.co, .int .u64 p.hr, .int .u32 p.hc, .int .u64 p.hb, .int .u16 p.hp, .bool p.ak, .bool p.pe, .bool p.ao, .int .i64 p.av, .bool p.yo, .int .i64 p.yv, .bool p.ho, .int .i64 p.hv]] w fun e w' => e = .returned (.bool false) ∧ Below w.heap.size w w' := by
  obtain ⟨wb, hwb, S⟩ := hs_one w 32 [.int .u16 p.id, .int .i64 p.st, .int .u32 p.co, .int .u64 p.hr, .int .u32 p.hc, .int .u64 p.hb, .int .u16 p.hp, .bool p.ak, .bool p.pe, .bool p.ao, .int .i64 p.av, .bool p.yo, .int .i64 p.yv, .bool p.ho, .int .i64 p.hv]
  go_enter Try.func8, Try.ntmps8
  go_upto_region 1 with fail
  clear hwb
  have c9 := S.cell 0 9 rfl rfl
  have c10 := S.cell 0 10 rfl rfl
  have c11 := S.cell 0 11 rfl rfl
  have c12 := S.cell 0 12 rfl rfl
  have c13 := S.cell 0 13 rfl rfl
  have c14 := S.cell 0 14 rfl rfl
  go_wp2
  go_rounds 2
  go_ret
  exact ⟨rfl, ((S.old.alloc S.old.size _).alloc (by have := S.old.size; simp; omega) _).alloc (by have := S.old.size; simp; omega) _⟩

theorem fits_g1 (p : Po) (n0 : ¬ p.av < 0) (g0 : ¬ 1073741824 < p.av) (n1 : ¬ p.yv < 0) (g1 : 1073741824 < p.yv) (w : World) :
    Calls Try.prog 8 #[.agg #[.int .u16 p.id, .int .i64 p.st, .int .u32 p.co, .int .u64 p.hr, .int .u32 p.hc, .int .u64 p.hb, .int .u16 p.hp, .bool p.ak, .bool p.pe, .bool p.ao, .int .i64 p.av, .bool p.yo, .int .i64 p.yv, .bool p.ho, .int .i64 p.hv]] w fun e w' => e = .returned (.bool false) ∧ Below w.heap.size w w' := by
  obtain ⟨wb, hwb, S⟩ := hs_one w 32 [.int .u16 p.id, .int .i64 p.st, .int .u32 p.co, .int .u64 p.hr, .int .u32 p.hc, .int .u64 p.hb, .int .u16 p.hp, .bool p.ak, .bool p.pe, .bool p.ao, .int .i64 p.av, .bool p.yo, .int .i64 p.yv, .bool p.ho, .int .i64 p.hv]
  go_enter Try.func8, Try.ntmps8
  go_upto_region 1 with fail
  clear hwb
  have c9 := S.cell 0 9 rfl rfl
  have c10 := S.cell 0 10 rfl rfl
  have c11 := S.cell 0 11 rfl rfl
  have c12 := S.cell 0 12 rfl rfl
  have c13 := S.cell 0 13 rfl rfl
  have c14 := S.cell 0 14 rfl rfl
  go_wp2
  go_rounds 2
  go_ret
  exact ⟨rfl, ((S.old.alloc S.old.size _).alloc (by have := S.old.size; simp; omega) _).alloc (by have := S.old.size; simp; omega) _⟩

theorem fits_l2 (p : Po) (n0 : ¬ p.av < 0) (g0 : ¬ 1073741824 < p.av) (n1 : ¬ p.yv < 0) (g1 : ¬ 1073741824 < p.yv) (n2 : p.hv < 0) (w : World) :
    Calls Try.prog 8 #[.agg #[.int .u16 p.id, .int .i64 p.st, .int .u32 p.co, .int .u64 p.hr, .int .u32 p.hc, .int .u64 p.hb, .int .u16 p.hp, .bool p.ak, .bool p.pe, .bool p.ao, .int .i64 p.av, .bool p.yo, .int .i64 p.yv, .bool p.ho, .int .i64 p.hv]] w fun e w' => e = .returned (.bool false) ∧ Below w.heap.size w w' := by
  obtain ⟨wb, hwb, S⟩ := hs_one w 32 [.int .u16 p.id, .int .i64 p.st, .int .u32 p.co, .int .u64 p.hr, .int .u32 p.hc, .int .u64 p.hb, .int .u16 p.hp, .bool p.ak, .bool p.pe, .bool p.ao, .int .i64 p.av, .bool p.yo, .int .i64 p.yv, .bool p.ho, .int .i64 p.hv]
  go_enter Try.func8, Try.ntmps8
  go_upto_region 1 with fail
  clear hwb
  have c9 := S.cell 0 9 rfl rfl
  have c10 := S.cell 0 10 rfl rfl
  have c11 := S.cell 0 11 rfl rfl
  have c12 := S.cell 0 12 rfl rfl
  have c13 := S.cell 0 13 rfl rfl
  have c14 := S.cell 0 14 rfl rfl
  go_wp2
  go_rounds 3
  go_ret
  exact ⟨rfl, (((S.old.alloc S.old.size _).alloc (by have := S.old.size; simp; omega) _).alloc (by have := S.old.size; simp; omega) _).alloc (by have := S.old.size; simp; omega) _⟩

theorem fits_g2 (p : Po) (n0 : ¬ p.av < 0) (g0 : ¬ 1073741824 < p.av) (n1 : ¬ p.yv < 0) (g1 : ¬ 1073741824 < p.yv) (n2 : ¬ p.hv < 0) (g2 : 1073741824 < p.hv) (w : World) :
    Calls Try.prog 8 #[.agg #[.int .u16 p.id, .int .i64 p.st, .int .u32 p.co, .int .u64 p.hr, .int .u32 p.hc, .int .u64 p.hb, .int .u16 p.hp, .bool p.ak, .bool p.pe, .bool p.ao, .int .i64 p.av, .bool p.yo, .int .i64 p.yv, .bool p.ho, .int .i64 p.hv]] w fun e w' => e = .returned (.bool false) ∧ Below w.heap.size w w' := by
  obtain ⟨wb, hwb, S⟩ := hs_one w 32 [.int .u16 p.id, .int .i64 p.st, .int .u32 p.co, .int .u64 p.hr, .int .u32 p.hc, .int .u64 p.hb, .int .u16 p.hp, .bool p.ak, .bool p.pe, .bool p.ao, .int .i64 p.av, .bool p.yo, .int .i64 p.yv, .bool p.ho, .int .i64 p.hv]
  go_enter Try.func8, Try.ntmps8
  go_upto_region 1 with fail
  clear hwb
  have c9 := S.cell 0 9 rfl rfl
  have c10 := S.cell 0 10 rfl rfl
  have c11 := S.cell 0 11 rfl rfl
  have c12 := S.cell 0 12 rfl rfl
  have c13 := S.cell 0 13 rfl rfl
  have c14 := S.cell 0 14 rfl rfl
  go_wp2
  go_rounds 3
  go_ret
  exact ⟨rfl, (((S.old.alloc S.old.size _).alloc (by have := S.old.size; simp; omega) _).alloc (by have := S.old.size; simp; omega) _).alloc (by have := S.old.size; simp; omega) _⟩

theorem fits_is (p : Po) (q : Bool) (hq : Hid (fitsB p = q)) (w : World) :
    Calls Try.prog 8 #[.agg #[.int .u16 p.id, .int .i64 p.st, .int .u32 p.co, .int .u64 p.hr, .int .u32 p.hc, .int .u64 p.hb, .int .u16 p.hp, .bool p.ak, .bool p.pe, .bool p.ao, .int .i64 p.av, .bool p.yo, .int .i64 p.yv, .bool p.ho, .int .i64 p.hv]] w fun e w' => e = .returned (.bool q) ∧ Below w.heap.size w w' := by
  have h := hq.out
  unfold fitsB at h
  rcases a : fitI p.av with _ | _
  · rw [a, Bool.false_and] at h
    subst h
    rcases fitI_f a with l | ⟨n, g⟩
    · exact fits_l0 p l w
    · exact fits_g0 p n g w
  obtain ⟨a0, a1⟩ := fitI_t a
  rcases b : fitI p.yv with _ | _
  · rw [a, b, Bool.false_and, Bool.and_false] at h
    subst h
    rcases fitI_f b with l | ⟨n, g⟩
    · exact fits_l1 p a0 a1 l w
    · exact fits_g1 p a0 a1 n g w
  obtain ⟨b0, b1⟩ := fitI_t b
  rcases c : fitI p.hv with _ | _
  · rw [a, b, c] at h
    subst h
    rcases fitI_f c with l | ⟨n, g⟩
    · exact fits_l2 p a0 a1 b0 b1 l w
    · exact fits_g2 p a0 a1 b0 b1 n g w
  obtain ⟨c0, c1⟩ := fitI_t c
  rw [a, b, c] at h
  subst h
  exact fits_t p a0 a1 b0 b1 c0 c1 w

end Go.Proofs.Ytcbdfkgfidlkeaa
