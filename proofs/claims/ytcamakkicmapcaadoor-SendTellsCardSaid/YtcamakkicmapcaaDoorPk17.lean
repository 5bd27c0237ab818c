/- Several texts in one, one behind the other: SendRefCopy, SpanRefOlder. -/
import Derived.Test.YtcamakkicmapcaaDoorPk04
import Derived.Test.YtcamakkicmapcaaDoorPk07

/- The document's copied, of stage 14: contract. -/
namespace Go.Proofs.YtcamakkicmapcaaDoor
set_option maxRecDepth 100000
open Go.ChangeShapes Go.WideShapes Go.ChangeAt Go.RowKit
set_option linter.unusedVariables false

set_option maxHeartbeats 1000000 in
theorem rcopied14_is (t : Th) (A : Option Addr) (n cap : Nat) (L : List Po) (hL : Hid (L.length = n)) (hf : n ≤ 200) (hc : Hid (A = none → cap = 0)) (w : World) (hp : Hid (PoAt w A w.heap.size L)) :
    Calls Tryd.prog 33 #[.agg (lT t A n cap).toArray] w (TOut w t n L) := by
  obtain ⟨wb, hwb, S⟩ := hs_two w 31 31 (lT t A n cap) [.int .u64 0, .int .u64 0, .int .u32 0, .int .i64 0, .int .i64 0, .int .i64 0, .int .i64 0, .int .i64 0, .int .i64 0, .int .i64 0, .bool false, .bool false, .bool false, .int .i64 0, .bool false, .int .i64 0, .bool false, .int .i64 0, .slice none 0 0]
  go_enter Tryd.func33, Tryd.ntmps33
  go_upto_region 1 with fail
  clear hwb
  obtain ⟨X, hX⟩ : ∃ X, w.heap.size = X := ⟨_, rfl⟩
  rw [hX] at S
  obtain ⟨Y, hY⟩ : ∃ Y, X + 1 = Y := ⟨_, rfl⟩
  rw [hY] at S
  have hsX := hX
  rw [hX]
  rw [hY]
  have HX := Lib.hid hX
  clear hX hY hsX
  have S2 := S.al rfl 48 []
  have c18 := S2.cell 2 18 rfl rfl
  have hp1 := Lib.hid ((hp.out.below S.old (Nat.le_refl _)).below ((Below.refl wb.heap.size wb).alloc (Nat.le_refl _) (.cells #[] 48)) S.old.size)
  go_upto_region 2 with (at_builtin; refine append_po _ rfl (.tmp 3) (.tmp 5) rfl (.slice (some ⟨wb.heap.size, 0, none⟩) 0 0) rfl wb.heap.size ⟨rfl, .inr ⟨wb.heap.size, 0, #[], rfl, Nat.le_refl _, (MapKept.heap_alloc wb _).1, Nat.le_refl _, Nat.zero_le _, rfl, rfl⟩⟩ A n cap L rfl w.heap.size hp1.out hL hc hf (by simp) wb ((Below.refl _ _).alloc (Nat.le_refl _) _) ?_; intro D cap' w3 hown hb3 hz; have HZ := Lib.hid hz; have S3 := TS.take S (own_ts hb3 (Nat.le_refl _) hown); clear hown hb3 hz S S2 c18 hp1; have c18 := S3.hs.cell 1 18 rfl rfl; have f18 := S3.hs.thaw 1 18 rfl)
  have S4 := S3.set 1 rfl 18 (.slice D n cap')
  generalize w3.setCell ⟨X, 18, none⟩ (.slice D n cap') = w4 at S4 ⊢
  clear S3 c18 f18
  have hx : w4.heap[X]? = some (.cells (lT t D n cap').toArray 31 (0, 0)) := S4.hs.bk 1 rfl
  have hy := S4.hs.bk 0 rfl
  go_wp2_with (first | (refine wpList_load_row rfl 31 _ rfl X rfl _ _ (0, 0) _ hx Tryd.underlying31 rfl (by kernel_rfl) ?_) | (refine wpList_store_row rfl 31 _ _ rfl Y _ rfl rfl _ _ hy (by kernel_rfl) (by kernel_rfl) (by kernel_rfl) ?_))
  exact bodyPost_ret (v := .agg (lT t D n cap').toArray) (results_cell_row rfl _ _ Y _ _ _ _ rfl (setRow_heap _ _ _ _ _ _ hy) Tryd.underlying31 rfl (by kernel_rfl)) rfl ⟨D, cap', rfl, HZ.out, (S4.row 0 rfl (lT t D n cap')).nobox⟩

end Go.Proofs.YtcamakkicmapcaaDoor

/- The document's Older: contract. -/
namespace Go.Proofs.YtcamakkicmapcaaDoor
set_option maxRecDepth 100000
open Go.ChangeShapes Go.WideShapes Go.ChangeAt Go.RowKit
set_option linter.unusedVariables false

theorem refolder_any (t : Int) (h0 : -9223372036854775808 ≤ t) (h1 : t ≤ 9223372036854775807) (w : World) :
    Calls Tryd.prog 34 #[.int .i64 t] w fun e w' => e = .returned (.int .i64 (olderI t)) ∧ w = w' := by
  obtain ⟨b0, b1⟩ := cutI_bd t
  go_enter Tryd.func34, Tryd.ntmps34
  go_wp2_with (go_at_call 35; (with_reducible refine (refcut_any _ (by omega) (by omega) _).mono ?_); rintro e w' ⟨rfl, rfl⟩)
  go_ret
  exact ⟨rfl, rfl⟩

end Go.Proofs.YtcamakkicmapcaaDoor
