/- Forwards, Learns, Designated: contracts. -/
import Derived.Test.YtkdbhioneoknjaaPortRise
import Derived.Deep.DeepCutAuto
namespace Go.Proofs.Ytkdbhioneoknjaa
open Go.ChangeShapes Go.WideShapes Go.ChangeAt Go.RowKit
set_option linter.unusedVariables false

theorem fwd_is (s : Int) (w : World) :
    Calls Try.prog 65 #[.int .i64 s] w fun e w' => e = .returned (.bool (decide (s = 4))) ∧ w = w' := by
  go_enter Try.func65, Try.ntmps65
  go_wp2
  go_ret
  exact ⟨ret_bool (by rw [Bool.eq_iff_iff]; simp), rfl⟩

theorem learns_is (s : Int) (q : Bool) (hq : Hid (learnsB s = q)) (w : World) :
    Calls Try.prog 60 #[.int .i64 s] w fun e w' => e = .returned (.bool q) ∧ w = w' := by
  have hq := hq.out
  unfold learnsB at hq
  by_cases h : s = 3
  · subst h
    simp at hq
    subst hq
    go_enter Try.func60, Try.ntmps60
    go_wp2
    go_ret
    exact ⟨rfl, rfl⟩
  · have hb : (s == 3) = false := by simpa using h
    rw [decide_eq_false h, Bool.false_or] at hq
    have HF := fun W => Lib.hid (fwd_is s W)
    rw [hq] at HF
    clear hq
    go_enter Try.func60, Try.ntmps60
    go_wp2_with (go_at_call 65; (with_reducible refine (HF _).out.mono ?_); rintro e w' ⟨rfl, rfl⟩)
    go_ret
    exact ⟨rfl, rfl⟩

theorem desig_is (p : Po) (o : Int) (q : Bool) (hq : Hid ((decide (p.hb = o) && decide (p.hp = p.id)) = q)) (w : World) :
    Calls Try.prog 23 #[.agg #[.int .u16 p.id, .int .i64 p.st, .int .u32 p.co, .int .u64 p.hr, .int .u32 p.hc, .int .u64 p.hb, .int .u16 p.hp, .bool p.ak, .bool p.pe, .bool p.ao, .int .i64 p.av, .bool p.yo, .int .i64 p.yv, .bool p.ho, .int .i64 p.hv], .int .u64 o] w fun e w' => e = .returned (.bool q) ∧ Below w.heap.size w w' := by
  have hq := hq.out
  obtain ⟨wb, hwb, S⟩ := hs_one w 49 [.int .u16 p.id, .int .i64 p.st, .int .u32 p.co, .int .u64 p.hr, .int .u32 p.hc, .int .u64 p.hb, .int .u16 p.hp, .bool p.ak, .bool p.pe, .bool p.ao, .int .i64 p.av, .bool p.yo, .int .i64 p.yv, .bool p.ho, .int .i64 p.hv]
  by_cases h : p.hb = o
  · rw [decide_eq_true h, Bool.true_and] at hq
    have hb : (p.hb == o) = true := by simpa using h
    clear h
    by_cases k : p.hp = p.id
    · have kb : (p.hp == p.id) = true := by simpa using k
      rw [decide_eq_true k] at hq
      subst hq
      clear k
      go_enter Try.func23, Try.ntmps23
      go_upto_region 1 with fail
      clear hwb
      have c0 := S.cell 0 0 rfl rfl
      have c5 := S.cell 0 5 rfl rfl
      have c6 := S.cell 0 6 rfl rfl
      go_wp2
      go_ret
      exact ⟨rfl, S.old⟩
    · have kb : (p.hp == p.id) = false := by simpa using k
      rw [decide_eq_false k] at hq
      subst hq
      clear k
      go_enter Try.func23, Try.ntmps23
      go_upto_region 1 with fail
      clear hwb
      have c0 := S.cell 0 0 rfl rfl
      have c5 := S.cell 0 5 rfl rfl
      have c6 := S.cell 0 6 rfl rfl
      go_wp2
      go_ret
      exact ⟨rfl, S.old⟩
  · rw [decide_eq_false h, Bool.false_and] at hq
    have hb : (p.hb == o) = false := by simpa using h
    clear h
    subst hq
    go_enter Try.func23, Try.ntmps23
    go_upto_region 1 with fail
    clear hwb
    have c5 := S.cell 0 5 rfl rfl
    go_wp2
    go_ret
    exact ⟨rfl, S.old⟩

end Go.Proofs.Ytkdbhioneoknjaa
