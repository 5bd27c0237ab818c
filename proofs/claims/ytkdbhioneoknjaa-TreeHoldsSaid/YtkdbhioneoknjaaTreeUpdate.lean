/- Update: contract. -/
import Derived.Test.YtkdbhioneoknjaaTreeDesig
namespace Go.Proofs.Ytkdbhioneoknjaa
open Go.ChangeShapes Go.WideShapes Go.ChangeAt Go.RowKit
set_option linter.unusedVariables false

def updT (t : Th) (L : List Po) : Th := selectT t L
def updL (t : Th) (L : List Po) : List Po := desL (selectT t L) L
theorem desL_len (t : Th) (L : List Po) : (desL t L).length = L.length := allL_len _ _

set_option maxHeartbeats 1000000 in
theorem update_is (t : Th) (A : Option Addr) (n cap : Nat) (L : List Po) (hL : Hid (L.length = n)) (hf : n ≤ 200) (hb : Hid (∀ x ∈ L, PoB x)) (hc : Hid (A = none → cap = 0)) (w : World) (hp : Hid (PoAt w A w.heap.size L)) :
    Calls Try.prog 12 #[.agg (lT t A n cap).toArray] w (TOut w (updT t L) n (updL t L)) := by
  obtain ⟨wb, hwb, S⟩ := hs_two w 31 31 (lT t A n cap) [.int .u64 0, .int .u64 0, .int .u32 0, .int .i64 0, .int .i64 0, .int .i64 0, .int .i64 0, .int .i64 0, .int .i64 0, .int .i64 0, .bool false, .bool false, .bool false, .int .i64 0, .bool false, .int .i64 0, .bool false, .int .i64 0, .slice none 0 0]
  go_enter Try.func12, Try.ntmps12
  go_upto_region 1 with fail
  clear hwb
  obtain ⟨X, hX⟩ : ∃ X, w.heap.size = X := ⟨_, rfl⟩
  rw [hX] at S
  obtain ⟨Y, hY⟩ : ∃ Y, X + 1 = Y := ⟨_, rfl⟩
  rw [hY] at S
  rw [hX]
  rw [hY]
  clear hX hY
  have hp1 := Lib.hid ((hp.out.below S.old (Nat.le_refl _)).wide S.old.size)
  have HC := Lib.hid (select_is t A n cap L hL hf hb hc wb hp1)
  have hx := S.bk 1 rfl
  go_wp2_with (refine wpList_load_row rfl 31 _ rfl X rfl _ _ (0, 0) _ hx Try.underlying31 rfl (by kernel_rfl) ?_)
  (with_reducible refine HC.out.mono ?_); rintro e w1 ⟨D, cap', rfl, hz, k1⟩
  have S1 := TS.take S k1
  have HZ := Lib.hid hz
  clear S hx HC hp1 k1 hz
  have HD := Lib.hid (desig_all (selectT t L) D n cap' L hL hf HZ w1 (Lib.hid S1.ports))
  go_wp2_with fail
  (with_reducible refine HD.out.mono ?_); rintro e w2 ⟨D2, cap2, rfl, hz2, k2⟩
  have S2 := TS.take S1.hs k2
  have HZ2 := Lib.hid hz2
  clear HD S1 k2 hz2
  have hy := S2.hs.bk 0 rfl
  go_wp2_with (refine wpList_store_row rfl 31 _ _ rfl Y _ rfl rfl _ _ hy (by kernel_rfl) (by kernel_rfl) (by kernel_rfl) ?_)
  exact bodyPost_ret (v := .agg (lT (updT t L) D2 n cap2).toArray) (results_cell_row rfl _ _ Y _ _ _ _ rfl (setRow_heap _ _ _ _ _ _ hy) Try.underlying31 rfl (by kernel_rfl)) rfl ⟨D2, cap2, rfl, HZ2.out, (S2.row 0 rfl (lT (updT t L) D2 n cap2)).nobox⟩

end Go.Proofs.Ytkdbhioneoknjaa
