/- A port's row under a name, so that a walk's slots stay small; a whole row loaded and stored, as the walk's simp meets it. -/
import Derived.Test.YtkdbhioneoknjaaPortSame
import Derived.Test.YtkdbhioneoknjaaPortBlock
import Derived.Test.YtkdbhioneoknjaaLater
import Derived.Laws.Rows
import Derived.Laws.Tables
namespace Go.Proofs.Ytkdbhioneoknjaa
open Go.ChangeShapes Go.WideShapes Go.ChangeAt Go.RowKit
set_option linter.unusedVariables false

section
variable {P : Program}
/-- A whole block, loaded: the walk's simp opens the load down to its cells. -/
theorem Hs.ldc {w wx : World} {l : List (Nat × TypeId × List Value)} (h : Hs w l wx) (k : Nat) {g : Nat} {T : TypeId} {cs : List Value} (n : Nat) (hk : l[k]? = some (g, T, cs)) (hn : cs.length = n) :
    (loadCellsFrom ⟨g, 0, none⟩ 0 n #[]).run P wx = .ok cs.toArray wx := by
  subst hn
  have := run_loadCells_list (P := P) wx ⟨g, 0, none⟩ cs (fun j v hv => by
    have hadd : (⟨g, 0, none⟩ : Addr).add j = ⟨g, j, none⟩ := by unfold Addr.add; split <;> simp_all
    rw [hadd]
    exact h.cell k j hk hv)
  simpa [loadCells] using this
/-- A whole block, stored. -/
theorem Hs.stc {w wx : World} {l : List (Nat × TypeId × List Value)} (h : Hs w l wx) (k : Nat) {g : Nat} {T : TypeId} {cs : List Value} (cs' : List Value) (hk : l[k]? = some (g, T, cs)) (hn : cs.length = cs'.length) (ho : cs'.all (·.oneCell') = true) :
    (storeCells ⟨g, 0, none⟩ cs' 0).run P wx = .ok () (wx.setRow g cs'.toArray) := by
  have := run_storeCells_from (P := P) g T cs' 0 cs.toArray wx (h.bk k hk) (by simp; omega) (fun v hv => (List.all_eq_true.1 ho) v hv)
  simpa using this
/-- A whole row into a block just made. -/
theorem new_row (W : World) (T : TypeId) (old cs : List Value) (hn : old.length = cs.length) (ho : cs.all (·.oneCell') = true) :
    (storeCells ⟨W.heap.size, 0, none⟩ cs 0).run P (W.alloc (.cells old.toArray T)) = .ok () (W.alloc (.cells cs.toArray T)) := by
  have h := ((Hs.nil W).al rfl T old).stc (P := P) 0 cs rfl hn ho
  rwa [alloc_row] at h
end

/-- A whole block in every later world. -/
theorem Hs.bkq {w wx : World} {l : List (Nat × TypeId × List Value)} (h : Hs w l wx) (k : Nat) {g : Nat} {T : TypeId} {cs : List Value} (hk : l[k]? = some (g, T, cs)) (v : World) (hv : ∃ q : LaterW wx, v = q.w') :
    v.heap[g]? = some (.cells cs.toArray T (0, 0)) := by
  obtain ⟨q, rfl⟩ := hv
  exact (h.below q.h).bk k hk
/-- A whole load in a region that draws its order. -/
theorem quiet_load_row {P : Program} {C : World → Prop} {o : Oper} {a : Act} {K : Act → Prop} (ty : TypeId) (x : Operand) (ho : o.op = .load ty x)
    (g : Nat) (hx : a.eval x = .pointer (some ⟨g, 0, none⟩)) (t : TypeId) (cs : Array Value) (fr : Nat × Nat) (d : TypeDesc) (hg : ∀ w, C w → w.heap[g]? = some (.cells cs t fr))
    (hu : P.underlying ty = some d) (hd : (match d with | .struct _ | .array _ _ => true | _ => false) = true) (hi : (P.info? ty).map (·.size) = some cs.size)
    (h : K (a.put o.dst (.agg cs))) : o.quiet P a C K := by
  refine ⟨.agg cs, fun w hw => ?_, h⟩
  unfold Oper.quietAt execOp
  simp only [ho, hx, Instr.loadAt, Instr.sureAddr, Sem.run_bind, Sem.run_pure, Result.andThen_ok, run_loadVar_row w g t ty cs fr d (hg w hw) hu hd hi]
  exact ⟨rfl, rfl⟩

/-- A port's cells. -/
def lP (p : Po) : List Value := [.int .u16 p.id, .int .i64 p.st, .int .u32 p.co, .int .u64 p.hr, .int .u32 p.hc, .int .u64 p.hb, .int .u16 p.hp, .bool p.ak, .bool p.pe, .bool p.ao, .int .i64 p.av, .bool p.yo, .int .i64 p.yv, .bool p.ho, .int .i64 p.hv]
theorem lP_len (p : Po) : (lP p).length = 15 := rfl
theorem lP_one (p : Po) : (lP p).all (·.oneCell') = true := rfl

theorem rise_row (p q : Po) (h : Hid (riseP p = q)) (w : World) :
    Calls Try.prog 48 #[.agg (lP p).toArray] w fun e w' => e = .returned (.agg (lP q).toArray) ∧ Below w.heap.size w w' := rise_is p q h w
theorem block_row (p q : Po) (x : Bool) (h : Hid (blockP p = (q, x))) (w : World) :
    Calls Try.prog 50 #[.agg (lP p).toArray] w fun e w' => e = .returned (.tuple #[.agg (lP q).toArray, .bool x]) ∧ Below w.heap.size w w' := block_is p q x h w
theorem same_row (p : Po) (w : World) : (Op.equalIn 10000 49 (.agg (lP p).toArray) (.agg (lP p).toArray)).run Try.prog w = .ok true w := port_same p w
/-- The zero port's row, made anew. -/
theorem new_port (W : World) (q : Po) : (storeCells ⟨W.heap.size, 0, none⟩ (lP q) 0).run Try.prog (W.alloc (.cells #[.int .u16 0, .int .i64 0, .int .u32 0, .int .u64 0, .int .u32 0, .int .u64 0, .int .u16 0, .bool false, .bool false, .bool false, .int .i64 0, .bool false, .int .i64 0, .bool false, .int .i64 0] 49)) = .ok () (W.alloc (.cells (lP q).toArray 49)) :=
  new_row W 49 [.int .u16 0, .int .i64 0, .int .u32 0, .int .u64 0, .int .u32 0, .int .u64 0, .int .u16 0, .bool false, .bool false, .bool false, .int .i64 0, .bool false, .int .i64 0, .bool false, .int .i64 0] (lP q) rfl rfl

end Go.Proofs.Ytkdbhioneoknjaa
