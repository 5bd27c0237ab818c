/- Several texts in one, one behind the other: TickRefFire, SendRefCopy, SpanRefOlder. -/
import Derived.Test.YtnmnihlhcokjpaaGreatDoorPk12
import Derived.Test.YtnmnihlhcokjpaaGreatDoorPk01
import Derived.Deep.DeepCutAuto
import Derived.Test.YtnmnihlhcokjpaaGreatDoorPk04
import Derived.Test.YtnmnihlhcokjpaaGreatDoorPk08

/- The document's fire of stage 16: contract. -/
namespace Go.Proofs.YtnmnihlhcokjpaaGreatDoor
set_option maxRecDepth 100000
open Go.ChangeShapes Go.WideShapes Go.ChangeAt Go.RowKit
set_option linter.unusedVariables false
set_option linter.unusedSimpArgs false

/-- What one calls that answers a timer, and whether it ran out, as a number. -/
def FEndI (W : World) (r : (Bool × Int) × Bool) (e : Ending) (W' : World) : Prop := e = .returned (.tuple #[.agg #[.bool r.1.1, .int .i64 r.1.2], .int .i64 (if r.2 = true then 1 else 0)]) ∧ Below W.heap.size W W'
set_option maxHeartbeats 1000000 in
theorem rfire16_is (o : Bool) (v l : Int) (hf : TmFit o v) (k0 : -9223372036854775808 ≤ l) (k1 : l ≤ 9223372036854775807) (w : World) :
    Calls Tryz.prog 21 #[.agg #[.bool o, .int .i64 v], .int .i64 l] w (FEndI w (firO o v l)) := by
  obtain ⟨h0, h1, h2⟩ := hf
  have lb := laterI_bd v h0
  have hsz : ∀ cs, (w.alloc (.cells cs 28)).heap.size = w.heap.size + 1 := fun cs => by simp
  obtain ⟨n, hn⟩ : ∃ n, (if o = true then v else -1) = n := ⟨_, rfl⟩
  have hn1 : -1 ≤ n := by rw [← hn]; split <;> omega
  have hn2 : n ≤ 1073741824 := by rw [← hn]; split <;> omega
  obtain ⟨m, x, hmx⟩ : ∃ m x, rfire n l = (m, x) := ⟨_, _, rfl⟩
  have HR := fun W => Lib.hid (rfire_is n l hn1 hn2 k0 k1 m x (Lib.hid hmx) W)
  have hk : (m < 0 ∧ firO o v l = ((false, 0), decide (x = 1)) ∧ (x = 0 ∨ x = 1)) ∨ (0 ≤ m ∧ firO o v l = ((true, m), false) ∧ x = 0) := by
    unfold rfire at hmx
    cases o with
    | false =>
      obtain rfl : -1 = n := hn
      obtain rfl : v = 0 := by simpa using h2
      have e : rtick (-1) = -1 := rfl
      rw [e, if_neg (by omega)] at hmx
      cases hmx
      exact .inl ⟨by decide, rfl, .inl rfl⟩
    | true =>
      obtain rfl : v = n := hn
      have e : rtick v = laterI v := by
        unfold rtick
        rw [if_neg (by omega), laterI_is v h0]
      rw [e] at hmx
      by_cases hl : l ≤ laterI v
      · rw [if_pos ⟨by omega, hl⟩] at hmx
        cases hmx
        exact .inl ⟨by decide, by unfold firO; simp [hl], .inr rfl⟩
      · rw [if_neg (by omega)] at hmx
        cases hmx
        exact .inr ⟨by omega, by unfold firO; simp [hl], rfl⟩
  have HK := Lib.hid hk
  have HN := Lib.hid hn
  clear hk hmx hn h2 lb hsz
  obtain ⟨wb, hwb, S⟩ := hs_two w 28 28 [.bool o, .int .i64 v] [.bool false, .int .i64 0]
  go_enter Tryz.func21, Tryz.ntmps21
  go_upto_region 1 with fail
  clear hwb
  obtain ⟨X, hX⟩ : ∃ X, w.heap.size = X := ⟨_, rfl⟩
  rw [hX] at S
  obtain ⟨Y, hY⟩ : ∃ Y, X + 1 = Y := ⟨_, rfl⟩
  rw [hY] at S
  rw [hX]
  rw [hY]
  clear hX hY
  have c0 := S.cell 1 0 rfl rfl
  have c1 := S.cell 1 1 rfl rfl
  go_upto_if 10 with fail
  go_cut [6] (fun u wx => u = .int .i64 n ∧ wx = wb)
  case first =>
    cases o with
    | false =>
      have hn := HN.out
      obtain rfl : -1 = n := hn
      go_wp2_with fail
      go_meet
      exact ⟨rfl, rfl⟩
    | true =>
      have hn := HN.out
      obtain rfl : v = n := hn
      go_wp2_with fail
      go_meet
      exact ⟨rfl, rfl⟩
  case rest =>
    obtain ⟨rfl, rfl⟩ := hcut
    rename World => wc1
    clear c0 c1
    have y0 := S.cell 0 0 rfl rfl
    have y1 := S.cell 0 1 rfl rfl
    have f0 := S.thaw 0 0 rfl
    have f1 := S.thaw 0 1 rfl
    go_wp2_with fail
    (with_reducible refine (HR _).out.mono ?_); rintro e w2 ⟨rfl, rfl⟩
    clear HR
    have hk := HK.out
    rcases hk with ⟨hm, hfo, hx⟩ | ⟨hm, hfo, hx⟩
    · have HFO := Lib.hid hfo
      have hm2 : ¬ 0 ≤ m := by omega
      clear hfo
      have S2 := (S.set 0 rfl 0 (.bool false)).set 0 rfl 1 (.int .i64 0)
      have hyF := S2.bk 0 rfl
      have HB := Lib.hid S2.old
      clear S S2
      go_wp2
      refine bodyPost_ret (v := .tuple #[.agg #[.bool false, .int .i64 0], .int .i64 x]) (results_two rfl _ _ Y _ _ _ _ rfl _ rfl hyF Tryz.underlying28 rfl (by kernel_rfl)) rfl ⟨?_, HB.out⟩
      rw [HFO.out]
      rcases hx with rfl | rfl <;> rfl
    · have HFO := Lib.hid hfo
      have hm2 : ¬ m < 0 := by omega
      subst hx
      clear hfo
      have S2 := (S.set 0 rfl 0 (.bool true)).set 0 rfl 1 (.int .i64 m)
      have hyF := S2.bk 0 rfl
      have HB := Lib.hid S2.old
      clear S S2
      go_wp2
      refine bodyPost_ret (v := .tuple #[.agg #[.bool true, .int .i64 m], .int .i64 0]) (results_two rfl _ _ Y _ _ _ _ rfl _ rfl hyF Tryz.underlying28 rfl (by kernel_rfl)) rfl ⟨?_, HB.out⟩
      rw [HFO.out]
      rfl

end Go.Proofs.YtnmnihlhcokjpaaGreatDoor

/- The document's copied, of stage 14: contract. -/
namespace Go.Proofs.YtnmnihlhcokjpaaGreatDoor
set_option maxRecDepth 100000
open Go.ChangeShapes Go.WideShapes Go.ChangeAt Go.RowKit
set_option linter.unusedVariables false

set_option maxHeartbeats 1000000 in
theorem rcopied14_is (t : Th) (A : Option Addr) (n cap : Nat) (L : List Po) (hL : Hid (L.length = n)) (hf : n ≤ 200) (hc : Hid (A = none → cap = 0)) (w : World) (hp : Hid (PoAt w A w.heap.size L)) :
    Calls Tryz.prog 62 #[.agg (lT t A n cap).toArray] w (TOut w t n L) := by
  obtain ⟨wb, hwb, S⟩ := hs_two w 31 31 (lT t A n cap) [.int .u64 0, .int .u64 0, .int .u32 0, .int .i64 0, .int .i64 0, .int .i64 0, .int .i64 0, .int .i64 0, .int .i64 0, .int .i64 0, .bool false, .bool false, .bool false, .int .i64 0, .bool false, .int .i64 0, .bool false, .int .i64 0, .slice none 0 0]
  go_enter Tryz.func62, Tryz.ntmps62
  go_upto_region 1 with fail
  clear hwb
  obtain ⟨X, hX⟩ : ∃ X, w.heap.size = X := ⟨_, rfl⟩
  rw [hX] at S
  obtain ⟨Y, hY⟩ : ∃ Y, X + 1 = Y := ⟨_, rfl⟩
  rw [hY] at S
  have hsX := hX
  rw [hX]
  rw [hY]
  have HX := Lib.hid hX
  clear hX hY hsX
  have S2 := S.al rfl 63 []
  have c18 := S2.cell 2 18 rfl rfl
  have hp1 := Lib.hid ((hp.out.below S.old (Nat.le_refl _)).below ((Below.refl wb.heap.size wb).alloc (Nat.le_refl _) (.cells #[] 63)) S.old.size)
  go_upto_region 2 with (at_builtin; refine append_po _ rfl (.tmp 3) (.tmp 5) rfl (.slice (some ⟨wb.heap.size, 0, none⟩) 0 0) rfl wb.heap.size ⟨rfl, .inr ⟨wb.heap.size, 0, #[], rfl, Nat.le_refl _, (MapKept.heap_alloc wb _).1, Nat.le_refl _, Nat.zero_le _, rfl, rfl⟩⟩ A n cap L rfl w.heap.size hp1.out hL hc hf (by simp) wb ((Below.refl _ _).alloc (Nat.le_refl _) _) ?_; intro D cap' w3 hown hb3 hz; have HZ := Lib.hid hz; have S3 := TS.take S (own_ts hb3 (Nat.le_refl _) hown); clear hown hb3 hz S S2 c18 hp1; have c18 := S3.hs.cell 1 18 rfl rfl; have f18 := S3.hs.thaw 1 18 rfl)
  have S4 := S3.set 1 rfl 18 (.slice D n cap')
  generalize w3.setCell ⟨X, 18, none⟩ (.slice D n cap') = w4 at S4 ⊢
  clear S3 c18 f18
  have hx : w4.heap[X]? = some (.cells (lT t D n cap').toArray 31 (0, 0)) := S4.hs.bk 1 rfl
  have hy := S4.hs.bk 0 rfl
  go_wp2_with (first | (refine wpList_load_row rfl 31 _ rfl X rfl _ _ (0, 0) _ hx Tryz.underlying31 rfl (by kernel_rfl) ?_) | (refine wpList_store_row rfl 31 _ _ rfl Y _ rfl rfl _ _ hy (by kernel_rfl) (by kernel_rfl) (by kernel_rfl) ?_))
  exact bodyPost_ret (v := .agg (lT t D n cap').toArray) (results_cell_row rfl _ _ Y _ _ _ _ rfl (setRow_heap _ _ _ _ _ _ hy) Tryz.underlying31 rfl (by kernel_rfl)) rfl ⟨D, cap', rfl, HZ.out, (S4.row 0 rfl (lT t D n cap')).nobox⟩

end Go.Proofs.YtnmnihlhcokjpaaGreatDoor

/- The document's Older: contract. -/
namespace Go.Proofs.YtnmnihlhcokjpaaGreatDoor
set_option maxRecDepth 100000
open Go.ChangeShapes Go.WideShapes Go.ChangeAt Go.RowKit
set_option linter.unusedVariables false

theorem refolder_any (t : Int) (h0 : -9223372036854775808 ≤ t) (h1 : t ≤ 9223372036854775807) (w : World) :
    Calls Tryz.prog 63 #[.int .i64 t] w fun e w' => e = .returned (.int .i64 (olderI t)) ∧ w = w' := by
  obtain ⟨b0, b1⟩ := cutI_bd t
  go_enter Tryz.func63, Tryz.ntmps63
  go_wp2_with (go_at_call 64; (with_reducible refine (refcut_any _ (by omega) (by omega) _).mono ?_); rintro e w' ⟨rfl, rfl⟩)
  go_ret
  exact ⟨rfl, rfl⟩

end Go.Proofs.YtnmnihlhcokjpaaGreatDoor
