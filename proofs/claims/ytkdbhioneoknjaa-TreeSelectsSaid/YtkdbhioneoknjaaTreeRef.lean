/- The document's plain, via, designated, may: contracts. -/
import Derived.Test.YtkdbhioneoknjaaTreeMath
namespace Go.Proofs.Ytkdbhioneoknjaa
open Go.ChangeShapes Go.WideShapes Go.ChangeAt Go.RowKit
set_option linter.unusedVariables false

theorem plain_v (x : Vec) (w : World) :
    Calls Try.prog 37 #[.agg #[.int .u64 x.r, .int .u32 x.c, .int .u64 x.b, .int .u16 x.p]] w fun e w' => e = .returned (.agg #[.int .u64 x.r, .int .u32 x.c, .int .u64 x.b, .int .u16 x.p]) ∧ Below w.heap.size w w' := by
  go_enter Try.func37, Try.ntmps37
  go_wp2
  exact bodyPost_ret (v := .agg #[.int .u64 x.r, .int .u32 x.c, .int .u64 x.b, .int .u16 x.p]) (by simp [results, Try.results37, go_sem]) rfl ⟨rfl, ((Below.refl _ _).alloc (Nat.le_refl _) _).alloc (by simp) _⟩

set_option maxHeartbeats 1000000 in
theorem via_r (p : Po) (hb : PoB p) (w : World) :
    Calls Try.prog 33 #[.agg (lP p).toArray] w fun e w' => e = .returned (.agg #[.int .u64 (thruV p).r, .int .u32 (thruV p).c, .int .u64 (thruV p).b, .int .u16 (thruV p).p]) ∧ Below w.heap.size w w' := by
  have HP := fun W => Lib.hid (plain_v ⟨p.hr, p.hc, p.hb, p.hp⟩ W)
  dsimp only at HP
  have HF := fun W => Lib.hid (rfar_is p.hc p.co (by unfold PoB at hb; omega) (by unfold PoB at hb; omega) (by unfold PoB at hb; omega) (by unfold PoB at hb; omega) W)
  clear hb
  obtain ⟨wb, hwb, S⟩ := hs_two w 49 62 (lP p) [.int .u64 0, .int .u32 0, .int .u64 0, .int .u16 0]
  go_enter Try.func33, Try.ntmps33
  go_upto_region 1 with fail
  clear hwb
  obtain ⟨X, hX⟩ : ∃ X, w.heap.size = X := ⟨_, rfl⟩
  rw [hX] at S ⊢
  obtain ⟨Y, hY⟩ : ∃ Y, X + 1 = Y := ⟨_, rfl⟩
  rw [hY] at S ⊢
  have c3 := S.cell 1 3 rfl rfl
  have c4 := S.cell 1 4 rfl rfl
  have c5 := S.cell 1 5 rfl rfl
  have c6 := S.cell 1 6 rfl rfl
  go_wp2_with fail
  (with_reducible refine (HP _).out.mono ?_); rintro e w1 ⟨rfl, b1⟩
  have S1 := S.below b1
  clear S HP c3 c4 c5 c6 b1
  go_upto_region 2 with (refine wpList_store_row rfl 62 _ _ rfl _ _ rfl rfl _ _ (heap_alloc_new _ _) (by kernel_rfl) (by kernel_rfl) (by kernel_rfl) ?_)
  rw [alloc_row]
  have S2 := S1.al rfl 62 [.int .u64 p.hr, .int .u32 p.hc, .int .u64 p.hb, .int .u16 p.hp]
  obtain ⟨V, hV⟩ : ∃ V, w1.heap.size = V := ⟨_, rfl⟩
  rw [hV] at S2 ⊢
  generalize w1.alloc (.cells #[.int .u64 p.hr, .int .u32 p.hc, .int .u64 p.hb, .int .u16 p.hp] 62) = w2 at S2 ⊢
  clear S1 hV
  have v1 := S2.cell 0 1 rfl rfl
  have c2 := S2.cell 2 2 rfl rfl
  have f1 := S2.thaw 0 1 rfl
  go_wp2_with fail
  (with_reducible refine (HF _).out.mono ?_); rintro e w3 ⟨rfl, rfl⟩
  go_upto_region 3 with fail
  have S3 := S2.set 0 rfl 1 (.int .u32 (farI p.hc p.co))
  simp only [List.set] at S3
  generalize w2.setCell ⟨V, 1, none⟩ (.int .u32 (farI p.hc p.co)) = w4 at S3 ⊢
  clear S2 v1 c2 f1
  have hv := S3.bk 0 rfl
  have hy := S3.bk 1 rfl
  go_wp2_with (first | (refine wpList_load_row rfl 62 _ rfl V rfl _ _ (0, 0) _ hv Try.underlying62 rfl (by kernel_rfl) ?_) | (refine wpList_store_row rfl 62 _ _ rfl Y _ rfl rfl _ _ hy (by kernel_rfl) (by kernel_rfl) (by kernel_rfl) ?_))
  exact bodyPost_ret (v := .agg #[.int .u64 (thruV p).r, .int .u32 (thruV p).c, .int .u64 (thruV p).b, .int .u16 (thruV p).p]) (results_cell_row rfl _ _ Y _ _ _ _ rfl (setRow_heap _ _ _ _ _ _ hy) Try.underlying62 rfl (by kernel_rfl)) rfl ⟨rfl, (S3.row 1 rfl [.int .u64 (thruV p).r, .int .u32 (thruV p).c, .int .u64 (thruV p).b, .int .u16 (thruV p).p]).old⟩

set_option maxHeartbeats 1000000 in
theorem rdes_is (t : Th) (A : Option Addr) (n cap : Nat) (L : List Po) (hL : Hid (L.length = n)) (k : Nat) (x : Po) (hx : Hid (L[k]? = some x)) (q : Bool) (hq : Hid (desB x t.ow = q)) (w : World) (hp : Hid (PoAt w A w.heap.size L)) :
    Calls Try.prog 36 #[.agg (lT t A n cap).toArray, .int .i64 k] w fun e w' => e = .returned (.bool q) ∧ Below w.heap.size w w' := by
  obtain ⟨wb, hwb, S⟩ := hs_one w 31 (lT t A n cap)
  have HP := Lib.hid ((hp.out.below S.old (Nat.le_refl _)).wide S.old.size)
  obtain ⟨ad, hA, hab, h0, h1⟩ := HP.out.cells hx.out
  subst hA
  go_enter Try.func36, Try.ntmps36
  go_upto_region 1 with fail
  clear hwb
  have c0 := S.cell 0 0 rfl rfl
  have c18 := S.cell 0 18 rfl rfl
  have hkn : k < n := by have := po_lt hx.out; have := hL.out; omega
  have hki : (k : Int) < (n : Int) := by omega
  have hkz : ¬ (n : Int) ≤ (k : Int) := by omega
  have h5 : wb.cell? ⟨(ad.add (k * 15)).block, (ad.add (k * 15)).off + 3 + 2, none⟩ = some (.int .u64 x.hb) := h1 4 _ rfl
  have h6 : wb.cell? ⟨(ad.add (k * 15)).block, (ad.add (k * 15)).off + 3 + 3, none⟩ = some (.int .u16 x.hp) := h1 5 _ rfl
  clear h1 hkn
  obtain ⟨p1, e1⟩ : ∃ p, (x.hb == t.ow) = p := ⟨_, rfl⟩
  obtain ⟨p2, e2⟩ : ∃ p, (x.hp == x.id) = p := ⟨_, rfl⟩
  have HE := Lib.hid (show (p1 && p2) = q by rw [← e1, ← e2, ← hq.out]; unfold desB; rw [Bool.eq_iff_iff]; simp)
  clear hq
  cases p1 with
  | false =>
    go_quiet (fail)
    go_wp2
    go_ret
    exact ⟨ret_bool (by rw [← HE.out]; rfl), S.old.trans ⟨rfl, rfl, rfl, Nat.le_refl _, fun _ _ => rfl⟩⟩
  | true =>
    go_quiet (fail)
    go_wp2
    go_ret
    exact ⟨ret_bool (by rw [← HE.out]; simp), S.old.trans ⟨rfl, rfl, rfl, Nat.le_refl _, fun _ _ => rfl⟩⟩

set_option maxRecDepth 100000 in
set_option maxHeartbeats 1000000 in
theorem rmay_is (t : Th) (A : Option Addr) (n cap : Nat) (L : List Po) (hL : Hid (L.length = n)) (k : Nat) (x : Po) (hx : Hid (L[k]? = some x)) (q : Bool) (hq : Hid (mayB x t.ow = q)) (w : World) (hp : Hid (PoAt w A w.heap.size L)) :
    Calls Try.prog 32 #[.agg (lT t A n cap).toArray, .int .i64 k] w fun e w' => e = .returned (.bool q) ∧ Below w.heap.size w w' := by
  obtain ⟨wb, hwb, S⟩ := hs_one w 31 (lT t A n cap)
  have HP := Lib.hid ((hp.out.below S.old (Nat.le_refl _)).wide S.old.size)
  obtain ⟨ad, hA, hab, h0, h1⟩ := HP.out.cells hx.out
  subst hA
  go_enter Try.func32, Try.ntmps32
  go_upto_region 1 with fail
  clear hwb
  obtain ⟨X, hX⟩ : ∃ X, w.heap.size = X := ⟨_, rfl⟩
  rw [hX] at S
  rw [hX]
  have HX := Lib.hid hX
  clear hX
  have c0 := fun q : LaterW wb => (S.below q.h).cell 0 0 rfl rfl
  have c18 := fun q : LaterW wb => (S.below q.h).cell 0 18 rfl rfl
  have hkn : k < n := by have := po_lt hx.out; have := hL.out; omega
  have hki : (k : Int) < (n : Int) := by omega
  have hkz : ¬ (n : Int) ≤ (k : Int) := by omega
  have h1q : ∀ q : LaterW wb, q.w'.cell? ⟨(ad.add (k * 15)).block, (ad.add (k * 15)).off + 1, none⟩ = some (.int .i64 x.st) := fun q => (q.h.cell (by rw [Go.Proofs.Ytkdbhioneoknjaa.add_block]; exact hab)).trans (h1 0 _ rfl)
  have h3q : ∀ q : LaterW wb, q.w'.cell? ⟨(ad.add (k * 15)).block, (ad.add (k * 15)).off + 3, none⟩ = some (.int .u64 x.hr) := fun q => (q.h.cell (by rw [Go.Proofs.Ytkdbhioneoknjaa.add_block]; exact hab)).trans (h1 2 _ rfl)
  obtain ⟨d, hd⟩ : ∃ d, desB x t.ow = d := ⟨_, rfl⟩
  have HD := fun q : LaterW wb => Lib.hid (rdes_is t (some ad) n cap L hL k x hx d (Lib.hid hd) q.w' (Lib.hid ((HP.out.below q.h (Nat.le_refl _)).wide q.h.size)))
  obtain ⟨p1, e1⟩ : ∃ p, (x.st != 0) = p := ⟨_, rfl⟩
  obtain ⟨p2, e2⟩ : ∃ p, decide (x.hr < t.ow) = p := ⟨_, rfl⟩
  have HE := Lib.hid (show (!d && (p1 && p2)) = q by rw [← e1, ← e2, ← hq.out, ← hd]; unfold mayB; rw [Bool.eq_iff_iff]; simp)
  clear hq h1 h0 hkn hd
  cases d with
  | true =>
    refine region_later mixedL (by kernel_rfl) ?_
    (refine BigFrame.wpQuiet_want (by kernel_rfl) (fun K hK => ?_); refine quiet_load_row 31 _ rfl X (by kernel_rfl) _ _ (0, 0) _ (S.bkq 0 rfl) Try.underlying31 rfl (by kernel_rfl) ?_; refine hK _ ?_; clear hK; go_simp)
    go_big_quiet_step (fail)
    go_big_quiet_step ((go_at_call 36; with_reducible exact Calls.later (HD _).out))
    repeat (go_big_quiet_step (fail))
    refine wpQuiet_nil ?_
    intro r
    have S2 := S.below r.h
    generalize r.w' = w2 at S2 ⊢
    go_wp2
    go_ret
    exact ⟨ret_bool (by rw [← HE.out]; rfl), HX.out ▸ S2.old⟩
  | false =>
    cases p1 with
    | false =>
      refine region_later mixedL (by kernel_rfl) ?_
      (refine BigFrame.wpQuiet_want (by kernel_rfl) (fun K hK => ?_); refine quiet_load_row 31 _ rfl X (by kernel_rfl) _ _ (0, 0) _ (S.bkq 0 rfl) Try.underlying31 rfl (by kernel_rfl) ?_; refine hK _ ?_; clear hK; go_simp)
      go_big_quiet_step (fail)
      go_big_quiet_step ((go_at_call 36; with_reducible exact Calls.later (HD _).out))
      repeat (go_big_quiet_step (fail))
      refine wpQuiet_nil ?_
      intro r
      have S2 := S.below r.h
      generalize r.w' = w2 at S2 ⊢
      go_wp2
      go_ret
      exact ⟨ret_bool (by rw [← HE.out]; rfl), HX.out ▸ S2.old⟩
    | true =>
      refine region_later mixedL (by kernel_rfl) ?_
      (refine BigFrame.wpQuiet_want (by kernel_rfl) (fun K hK => ?_); refine quiet_load_row 31 _ rfl X (by kernel_rfl) _ _ (0, 0) _ (S.bkq 0 rfl) Try.underlying31 rfl (by kernel_rfl) ?_; refine hK _ ?_; clear hK; go_simp)
      go_big_quiet_step (fail)
      go_big_quiet_step ((go_at_call 36; with_reducible exact Calls.later (HD _).out))
      repeat (go_big_quiet_step (fail))
      refine wpQuiet_nil ?_
      intro r
      have S2 := S.below r.h
      generalize r.w' = w2 at S2 ⊢
      go_wp2
      go_ret
      exact ⟨ret_bool (by rw [← HE.out]; simp), HX.out ▸ S2.old⟩

end Go.Proofs.Ytkdbhioneoknjaa
