/- Copy, and the document's: one like it, its ports in memory of the call's own. -/
import Derived.Test.YtkdbhioneoknjaaTreeMem
namespace Go.Proofs.Ytkdbhioneoknjaa
open Go.ChangeShapes Go.WideShapes Go.ChangeAt Go.RowKit
set_option linter.unusedVariables false

theorem po_cells_one : ∀ (L : List Po), ∀ u ∈ cellsOf lP L, u.oneCell' = true
  | [], u, hu => by simp [cellsOf] at hu
  | p :: r, u, hu => by
    simp only [cellsOf, List.mem_append] at hu
    rcases hu with h | h
    · exact (List.all_eq_true.1 (lP_one p)) u h
    · exact po_cells_one r u h

theorem append_po (w : World) {ops : Array Oper} {rest : List Oper} {o : Oper} {a : Act} {Q : Exit → Act → World → Prop} (hgd : o.guard = none) (s x : Operand)
    (ho : o.op = .call { callee := .builtin .append, args := #[s, x], argTypes := #[29, 29] })
    (sv : Value) (hs : a.eval s = sv) (base : Nat) (hown : w.ownsRow base 49 15 sv 0 []) (A : Option Addr) (m c : Nat) (L : List Po) (hx : a.eval x = .slice A m c) (K : Nat) (hp : PoAt w A K L) (hl : Hid (L.length = m)) (hc : Hid (A = none → c = 0)) (hm : m ≤ 200)
    (hbase : base ≤ w.heap.size) (w0 : World) (hb : Below base w0 w)
    (h : ∀ D cap w', OwnL lP 15 49 w' base (.slice D m cap) L → Below base w0 w' → (D = none → cap = 0) → wpList Try.prog ops Q rest (a.put o.dst (.slice D m cap)) w') :
    wpList Try.prog ops Q (o :: rest) a w := by
  obtain ⟨i0, hi0, hz0, hz1, hz2⟩ := info_parts Try.infoPo
  cases A with
  | none =>
    have h0 := hp.nil
    subst h0
    have hm0 := hl.out
    subst hm0
    have hc0 := hc.out rfl
    subst hc0
    refine wpList_append_own_none hgd s x 29 ho base 49 i0 15 Try.underlying29 hi0 _ 0 [] hs hown hx ?_
    have hown' : OwnL lP 15 49 w base sv ([] : List Po) := hown
    rcases hown.2 with ⟨rfl, -⟩ | ⟨g, cap, cur, rfl, -⟩
    · exact h none 0 w hown' hb (fun _ => rfl)
    · exact h _ cap w hown' hb (fun e => by cases e)
  | some ad =>
    have hm0 := hl.out
    subst hm0
    refine wpList_append_own w hgd s x 29 ho base 49 i0 _ 15 112 Try.underlying29 hi0 hz0 hz1 hz2 rfl (by decide) _ 0 [] hs hown ad L.length c (cellsOf lP L) hx (cellsOf_len lP_len L) hp.src (po_cells_one L) (by unfold maxLen; omega) (by omega) hbase ?_
    intro v' w' hown2 hgrow hv
    rw [Nat.zero_add, List.nil_append] at hown2
    have hown' : OwnL lP 15 49 w' base v' L := hown2
    obtain ⟨D, cap, rfl⟩ := hown'.shape
    have hbw : Below base w0 w' := hb.grown hgrow hbase (fun k hk => (World.ownsRow.lt hown k hk).1)
    refine h D cap w' hown' hbw fun e => ?_
    subst e
    rcases hown'.2 with ⟨h2, _⟩ | ⟨g, cap', cur, h2, _⟩
    · injection h2
    · injection h2 with e1
      cases e1

set_option maxHeartbeats 1000000 in
theorem tcopy_is (t : Th) (A : Option Addr) (n cap : Nat) (L : List Po) (hL : Hid (L.length = n)) (hf : n ≤ 200) (hc : Hid (A = none → cap = 0)) (w : World) (hp : Hid (PoAt w A w.heap.size L)) :
    Calls Try.prog 25 #[.agg (lT t A n cap).toArray] w (TOut w t n L) := by
  obtain ⟨wb, hwb, S⟩ := hs_two w 31 31 (lT t A n cap) [.int .u64 0, .int .u64 0, .int .u32 0, .int .i64 0, .int .i64 0, .int .i64 0, .int .i64 0, .int .i64 0, .int .i64 0, .int .i64 0, .bool false, .bool false, .bool false, .int .i64 0, .bool false, .int .i64 0, .bool false, .int .i64 0, .slice none 0 0]
  go_enter Try.func25, Try.ntmps25
  go_upto_region 1 with fail
  clear hwb
  obtain ⟨X, hX⟩ : ∃ X, w.heap.size = X := ⟨_, rfl⟩
  rw [hX] at S
  obtain ⟨Y, hY⟩ : ∃ Y, X + 1 = Y := ⟨_, rfl⟩
  rw [hY] at S
  have hsX := hX
  rw [hX]
  rw [hY]
  have HX := Lib.hid hX
  clear hX hY hsX
  have c18 := S.cell 1 18 rfl rfl
  have hp1 := Lib.hid (hp.out.below S.old (Nat.le_refl _))
  go_upto_region 2 with (at_builtin; refine append_po _ rfl (.const (.slice none 0 0)) (.tmp 4) rfl (.slice none 0 0) rfl wb.heap.size (World.ownsRow_nil wb _ _ 15) A n cap L rfl w.heap.size hp1.out hL hc hf (Nat.le_refl _) wb (Below.refl _ _) ?_; intro D cap' w3 hown hb3 hz; have HZ := Lib.hid hz; have S3 := TS.take S (own_ts hb3 (Nat.le_refl _) hown); clear hown hb3 hz S c18 hp1; have c18 := S3.hs.cell 1 18 rfl rfl; have f18 := S3.hs.thaw 1 18 rfl)
  have S4 := S3.set 1 rfl 18 (.slice D n cap')
  generalize w3.setCell ⟨X, 18, none⟩ (.slice D n cap') = w4 at S4 ⊢
  clear S3 c18 f18
  have hx : w4.heap[X]? = some (.cells (lT t D n cap').toArray 31 (0, 0)) := S4.hs.bk 1 rfl
  have hy := S4.hs.bk 0 rfl
  go_wp2_with (first | (refine wpList_load_row rfl 31 _ rfl X rfl _ _ (0, 0) _ hx Try.underlying31 rfl (by kernel_rfl) ?_) | (refine wpList_store_row rfl 31 _ _ rfl Y _ rfl rfl _ _ hy (by kernel_rfl) (by kernel_rfl) (by kernel_rfl) ?_))
  exact bodyPost_ret (v := .agg (lT t D n cap').toArray) (results_cell_row rfl _ _ Y _ _ _ _ rfl (setRow_heap _ _ _ _ _ _ hy) Try.underlying31 rfl (by kernel_rfl)) rfl ⟨D, cap', rfl, HZ.out, (S4.row 0 rfl (lT t D n cap')).nobox⟩

set_option maxHeartbeats 1000000 in
theorem rcopied_is (t : Th) (A : Option Addr) (n cap : Nat) (L : List Po) (hL : Hid (L.length = n)) (hf : n ≤ 200) (hc : Hid (A = none → cap = 0)) (w : World) (hp : Hid (PoAt w A w.heap.size L)) :
    Calls Try.prog 31 #[.agg (lT t A n cap).toArray] w (TOut w t n L) := by
  obtain ⟨wb, hwb, S⟩ := hs_two w 31 31 (lT t A n cap) [.int .u64 0, .int .u64 0, .int .u32 0, .int .i64 0, .int .i64 0, .int .i64 0, .int .i64 0, .int .i64 0, .int .i64 0, .int .i64 0, .bool false, .bool false, .bool false, .int .i64 0, .bool false, .int .i64 0, .bool false, .int .i64 0, .slice none 0 0]
  go_enter Try.func31, Try.ntmps31
  go_upto_region 1 with fail
  clear hwb
  obtain ⟨X, hX⟩ : ∃ X, w.heap.size = X := ⟨_, rfl⟩
  rw [hX] at S
  obtain ⟨Y, hY⟩ : ∃ Y, X + 1 = Y := ⟨_, rfl⟩
  rw [hY] at S
  have hsX := hX
  rw [hX]
  rw [hY]
  have HX := Lib.hid hX
  clear hX hY hsX
  have S2 := S.al rfl 49 []
  have c18 := S2.cell 2 18 rfl rfl
  have hp1 := Lib.hid ((hp.out.below S.old (Nat.le_refl _)).below ((Below.refl wb.heap.size wb).alloc (Nat.le_refl _) (.cells #[] 49)) S.old.size)
  go_upto_region 2 with (at_builtin; refine append_po _ rfl (.tmp 3) (.tmp 5) rfl (.slice (some ⟨wb.heap.size, 0, none⟩) 0 0) rfl wb.heap.size ⟨rfl, .inr ⟨wb.heap.size, 0, #[], rfl, Nat.le_refl _, (MapKept.heap_alloc wb _).1, Nat.le_refl _, Nat.zero_le _, rfl, rfl⟩⟩ A n cap L rfl w.heap.size hp1.out hL hc hf (by simp) wb ((Below.refl _ _).alloc (Nat.le_refl _) _) ?_; intro D cap' w3 hown hb3 hz; have HZ := Lib.hid hz; have S3 := TS.take S (own_ts hb3 (Nat.le_refl _) hown); clear hown hb3 hz S S2 c18 hp1; have c18 := S3.hs.cell 1 18 rfl rfl; have f18 := S3.hs.thaw 1 18 rfl)
  have S4 := S3.set 1 rfl 18 (.slice D n cap')
  generalize w3.setCell ⟨X, 18, none⟩ (.slice D n cap') = w4 at S4 ⊢
  clear S3 c18 f18
  have hx : w4.heap[X]? = some (.cells (lT t D n cap').toArray 31 (0, 0)) := S4.hs.bk 1 rfl
  have hy := S4.hs.bk 0 rfl
  go_wp2_with (first | (refine wpList_load_row rfl 31 _ rfl X rfl _ _ (0, 0) _ hx Try.underlying31 rfl (by kernel_rfl) ?_) | (refine wpList_store_row rfl 31 _ _ rfl Y _ rfl rfl _ _ hy (by kernel_rfl) (by kernel_rfl) (by kernel_rfl) ?_))
  exact bodyPost_ret (v := .agg (lT t D n cap').toArray) (results_cell_row rfl _ _ Y _ _ _ _ rfl (setRow_heap _ _ _ _ _ _ hy) Try.underlying31 rfl (by kernel_rfl)) rfl ⟨D, cap', rfl, HZ.out, (S4.row 0 rfl (lT t D n cap')).nobox⟩

end Go.Proofs.Ytkdbhioneoknjaa
