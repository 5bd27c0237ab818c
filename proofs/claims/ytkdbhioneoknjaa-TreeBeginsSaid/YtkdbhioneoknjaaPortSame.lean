/- '==' of ports that are alike. -/
import Derived.Test.YtkdbhioneoknjaaPortMem
import Derived.Laws.StructEq
namespace Go.Proofs.Ytkdbhioneoknjaa
open Go.ChangeShapes Go.WideShapes Go.ChangeAt Go.RowKit
set_option linter.unusedVariables false

/-- '==' of ports that are alike. -/
theorem port_same (p : Po) (w : World) : (Op.equalIn 10000 49 (.agg #[.int .u16 p.id, .int .i64 p.st, .int .u32 p.co, .int .u64 p.hr, .int .u32 p.hc, .int .u64 p.hb, .int .u16 p.hp, .bool p.ak, .bool p.pe, .bool p.ao, .int .i64 p.av, .bool p.yo, .int .i64 p.yv, .bool p.ho, .int .i64 p.hv]) (.agg #[.int .u16 p.id, .int .i64 p.st, .int .u32 p.co, .int .u64 p.hr, .int .u32 p.hc, .int .u64 p.hb, .int .u16 p.hp, .bool p.ak, .bool p.pe, .bool p.ao, .int .i64 p.av, .bool p.yo, .int .i64 p.yv, .bool p.ho, .int .i64 p.hv])).run Try.prog w = .ok true w := by
  have ev : ∀ w, (Op.equalIn 9999 39 (.agg #[.int .u64 p.hr, .int .u32 p.hc, .int .u64 p.hb, .int .u16 p.hp]) (.agg #[.int .u64 p.hr, .int .u32 p.hc, .int .u64 p.hb, .int .u16 p.hp])).run Try.prog w = .ok true w := by
    intro w
    rw [show (9999 : Nat) = 9998 + 1 from rfl, run_equalIn_struct w 9998 39 _ _ (by kernel_rfl) (by kernel_rfl)]
    simp only [Program.fieldsOf, Try.underlying39]
    go_simp
  have et : ∀ (o : Bool) (v : Int) w, (Op.equalIn 9999 28 (.agg #[.bool o, .int .i64 v]) (.agg #[.bool o, .int .i64 v])).run Try.prog w = .ok true w := by
    intro o v w
    rw [show (9999 : Nat) = 9998 + 1 from rfl, run_equalIn_struct w 9998 28 _ _ (by kernel_rfl) (by kernel_rfl)]
    simp only [Program.fieldsOf, Try.underlying28]
    cases o <;> go_simp
  rw [show (10000 : Nat) = 9999 + 1 from rfl, run_equalIn_struct w 9999 49 _ _ (by kernel_rfl) (by kernel_rfl)]
  simp only [Program.fieldsOf, Try.underlying49]
  go_simp

end Go.Proofs.Ytkdbhioneoknjaa
