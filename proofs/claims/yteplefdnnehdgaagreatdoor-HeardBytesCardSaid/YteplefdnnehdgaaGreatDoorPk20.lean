/- Several texts in one, one behind the other: TreeRef, PortNext, PortAwake, TreeRefStates. -/
import Derived.Test.YteplefdnnehdgaaGreatDoorPk04
import Derived.Test.YteplefdnnehdgaaGreatDoorPk02
import Derived.Deep.DeepCutAuto
import Derived.Laws.StructEq
import Derived.LoopTactic

/- The document's plain, via, designated, may: contracts. -/
namespace Go.Proofs.YteplefdnnehdgaaGreatDoor
set_option maxRecDepth 100000
open Go.ChangeShapes Go.WideShapes Go.ChangeAt Go.RowKit
set_option linter.unusedVariables false

theorem plain_v (x : Vec) (w : World) :
    Calls Tryz.prog 90 #[.agg #[.int .u64 x.r, .int .u32 x.c, .int .u64 x.b, .int .u16 x.p]] w fun e w' => e = .returned (.agg #[.int .u64 x.r, .int .u32 x.c, .int .u64 x.b, .int .u16 x.p]) ∧ Below w.heap.size w w' := by
  go_enter Tryz.func90, Tryz.ntmps90
  go_wp2
  exact bodyPost_ret (v := .agg #[.int .u64 x.r, .int .u32 x.c, .int .u64 x.b, .int .u16 x.p]) (by simp [results, Tryz.results90, go_sem]) rfl ⟨rfl, ((Below.refl _ _).alloc (Nat.le_refl _) _).alloc (by simp) _⟩

set_option maxHeartbeats 1000000 in
theorem via_r (p : Po) (hb : PoB p) (w : World) :
    Calls Tryz.prog 92 #[.agg (lP p).toArray] w fun e w' => e = .returned (.agg #[.int .u64 (thruV p).r, .int .u32 (thruV p).c, .int .u64 (thruV p).b, .int .u16 (thruV p).p]) ∧ Below w.heap.size w w' := by
  have HP := fun W => Lib.hid (plain_v ⟨p.hr, p.hc, p.hb, p.hp⟩ W)
  dsimp only at HP
  have HF := fun W => Lib.hid (rfar_is p.hc p.co (by unfold PoB at hb; omega) (by unfold PoB at hb; omega) (by unfold PoB at hb; omega) (by unfold PoB at hb; omega) W)
  clear hb
  obtain ⟨wb, hwb, S⟩ := hs_two w 65 89 (lP p) [.int .u64 0, .int .u32 0, .int .u64 0, .int .u16 0]
  go_enter Tryz.func92, Tryz.ntmps92
  go_upto_region 1 with fail
  clear hwb
  obtain ⟨X, hX⟩ : ∃ X, w.heap.size = X := ⟨_, rfl⟩
  rw [hX] at S ⊢
  obtain ⟨Y, hY⟩ : ∃ Y, X + 1 = Y := ⟨_, rfl⟩
  rw [hY] at S ⊢
  have c3 := S.cell 1 3 rfl rfl
  have c4 := S.cell 1 4 rfl rfl
  have c5 := S.cell 1 5 rfl rfl
  have c6 := S.cell 1 6 rfl rfl
  go_wp2_with fail
  (with_reducible refine (HP _).out.mono ?_); rintro e w1 ⟨rfl, b1⟩
  have S1 := S.below b1
  clear S HP c3 c4 c5 c6 b1
  go_upto_region 2 with (refine wpList_store_row rfl 89 _ _ rfl _ _ rfl rfl _ _ (heap_alloc_new _ _) (by kernel_rfl) (by kernel_rfl) (by kernel_rfl) ?_)
  rw [alloc_row]
  have S2 := S1.al rfl 89 [.int .u64 p.hr, .int .u32 p.hc, .int .u64 p.hb, .int .u16 p.hp]
  obtain ⟨V, hV⟩ : ∃ V, w1.heap.size = V := ⟨_, rfl⟩
  rw [hV] at S2 ⊢
  generalize w1.alloc (.cells #[.int .u64 p.hr, .int .u32 p.hc, .int .u64 p.hb, .int .u16 p.hp] 89) = w2 at S2 ⊢
  clear S1 hV
  have v1 := S2.cell 0 1 rfl rfl
  have c2 := S2.cell 2 2 rfl rfl
  have f1 := S2.thaw 0 1 rfl
  go_wp2_with fail
  (with_reducible refine (HF _).out.mono ?_); rintro e w3 ⟨rfl, rfl⟩
  go_upto_region 3 with fail
  have S3 := S2.set 0 rfl 1 (.int .u32 (farI p.hc p.co))
  simp only [List.set] at S3
  generalize w2.setCell ⟨V, 1, none⟩ (.int .u32 (farI p.hc p.co)) = w4 at S3 ⊢
  clear S2 v1 c2 f1
  have hv := S3.bk 0 rfl
  have hy := S3.bk 1 rfl
  go_wp2_with (first | (refine wpList_load_row rfl 89 _ rfl V rfl _ _ (0, 0) _ hv Tryz.underlying89 rfl (by kernel_rfl) ?_) | (refine wpList_store_row rfl 89 _ _ rfl Y _ rfl rfl _ _ hy (by kernel_rfl) (by kernel_rfl) (by kernel_rfl) ?_))
  exact bodyPost_ret (v := .agg #[.int .u64 (thruV p).r, .int .u32 (thruV p).c, .int .u64 (thruV p).b, .int .u16 (thruV p).p]) (results_cell_row rfl _ _ Y _ _ _ _ rfl (setRow_heap _ _ _ _ _ _ hy) Tryz.underlying89 rfl (by kernel_rfl)) rfl ⟨rfl, (S3.row 1 rfl [.int .u64 (thruV p).r, .int .u32 (thruV p).c, .int .u64 (thruV p).b, .int .u16 (thruV p).p]).old⟩

set_option maxHeartbeats 1000000 in
theorem rdes_is (t : Th) (A : Option Addr) (n cap : Nat) (L : List Po) (hL : Hid (L.length = n)) (k : Nat) (x : Po) (hx : Hid (L[k]? = some x)) (q : Bool) (hq : Hid (desB x t.ow = q)) (w : World) (hp : Hid (PoAt w A w.heap.size L)) :
    Calls Tryz.prog 86 #[.agg (lT t A n cap).toArray, .int .i64 k] w fun e w' => e = .returned (.bool q) ∧ Below w.heap.size w w' := by
  obtain ⟨wb, hwb, S⟩ := hs_one w 31 (lT t A n cap)
  have HP := Lib.hid ((hp.out.below S.old (Nat.le_refl _)).wide S.old.size)
  obtain ⟨ad, hA, hab, h0, h1⟩ := HP.out.cells hx.out
  subst hA
  go_enter Tryz.func86, Tryz.ntmps86
  go_upto_region 1 with fail
  clear hwb
  have c0 := S.cell 0 0 rfl rfl
  have c18 := S.cell 0 18 rfl rfl
  have hkn : k < n := by have := po_lt hx.out; have := hL.out; omega
  have hki : (k : Int) < (n : Int) := by omega
  have hkz : ¬ (n : Int) ≤ (k : Int) := by omega
  have h5 : wb.cell? ⟨(ad.add (k * 15)).block, (ad.add (k * 15)).off + 3 + 2, none⟩ = some (.int .u64 x.hb) := h1 4 _ rfl
  have h6 : wb.cell? ⟨(ad.add (k * 15)).block, (ad.add (k * 15)).off + 3 + 3, none⟩ = some (.int .u16 x.hp) := h1 5 _ rfl
  clear h1 hkn
  obtain ⟨p1, e1⟩ : ∃ p, (x.hb == t.ow) = p := ⟨_, rfl⟩
  obtain ⟨p2, e2⟩ : ∃ p, (x.hp == x.id) = p := ⟨_, rfl⟩
  have HE := Lib.hid (show (p1 && p2) = q by rw [← e1, ← e2, ← hq.out]; unfold desB; rw [Bool.eq_iff_iff]; simp)
  clear hq
  cases p1 with
  | false =>
    go_quiet (fail)
    go_wp2
    go_ret
    exact ⟨ret_bool (by rw [← HE.out]; rfl), S.old.trans ⟨rfl, rfl, rfl, Nat.le_refl _, fun _ _ => rfl⟩⟩
  | true =>
    go_quiet (fail)
    go_wp2
    go_ret
    exact ⟨ret_bool (by rw [← HE.out]; simp), S.old.trans ⟨rfl, rfl, rfl, Nat.le_refl _, fun _ _ => rfl⟩⟩

set_option maxRecDepth 100000 in
set_option maxHeartbeats 1000000 in
theorem rmay_is (t : Th) (A : Option Addr) (n cap : Nat) (L : List Po) (hL : Hid (L.length = n)) (k : Nat) (x : Po) (hx : Hid (L[k]? = some x)) (q : Bool) (hq : Hid (mayB x t.ow = q)) (w : World) (hp : Hid (PoAt w A w.heap.size L)) :
    Calls Tryz.prog 91 #[.agg (lT t A n cap).toArray, .int .i64 k] w fun e w' => e = .returned (.bool q) ∧ Below w.heap.size w w' := by
  obtain ⟨wb, hwb, S⟩ := hs_one w 31 (lT t A n cap)
  have HP := Lib.hid ((hp.out.below S.old (Nat.le_refl _)).wide S.old.size)
  obtain ⟨ad, hA, hab, h0, h1⟩ := HP.out.cells hx.out
  subst hA
  go_enter Tryz.func91, Tryz.ntmps91
  go_upto_region 1 with fail
  clear hwb
  obtain ⟨X, hX⟩ : ∃ X, w.heap.size = X := ⟨_, rfl⟩
  rw [hX] at S
  rw [hX]
  have HX := Lib.hid hX
  clear hX
  have c0 := fun q : LaterW wb => (S.below q.h).cell 0 0 rfl rfl
  have c18 := fun q : LaterW wb => (S.below q.h).cell 0 18 rfl rfl
  have hkn : k < n := by have := po_lt hx.out; have := hL.out; omega
  have hki : (k : Int) < (n : Int) := by omega
  have hkz : ¬ (n : Int) ≤ (k : Int) := by omega
  have h1q : ∀ q : LaterW wb, q.w'.cell? ⟨(ad.add (k * 15)).block, (ad.add (k * 15)).off + 1, none⟩ = some (.int .i64 x.st) := fun q => (q.h.cell (by rw [Go.Proofs.YteplefdnnehdgaaGreatDoor.add_block]; exact hab)).trans (h1 0 _ rfl)
  have h3q : ∀ q : LaterW wb, q.w'.cell? ⟨(ad.add (k * 15)).block, (ad.add (k * 15)).off + 3, none⟩ = some (.int .u64 x.hr) := fun q => (q.h.cell (by rw [Go.Proofs.YteplefdnnehdgaaGreatDoor.add_block]; exact hab)).trans (h1 2 _ rfl)
  obtain ⟨d, hd⟩ : ∃ d, desB x t.ow = d := ⟨_, rfl⟩
  have HD := fun q : LaterW wb => Lib.hid (rdes_is t (some ad) n cap L hL k x hx d (Lib.hid hd) q.w' (Lib.hid ((HP.out.below q.h (Nat.le_refl _)).wide q.h.size)))
  obtain ⟨p1, e1⟩ : ∃ p, (x.st != 0) = p := ⟨_, rfl⟩
  obtain ⟨p2, e2⟩ : ∃ p, decide (x.hr < t.ow) = p := ⟨_, rfl⟩
  have HE := Lib.hid (show (!d && (p1 && p2)) = q by rw [← e1, ← e2, ← hq.out, ← hd]; unfold mayB; rw [Bool.eq_iff_iff]; simp)
  clear hq h1 h0 hkn hd
  cases d with
  | true =>
    refine region_later mixedL (by kernel_rfl) ?_
    (refine BigFrame.wpQuiet_want (by kernel_rfl) (fun K hK => ?_); refine quiet_load_row 31 _ rfl X (by kernel_rfl) _ _ (0, 0) _ (S.bkq 0 rfl) Tryz.underlying31 rfl (by kernel_rfl) ?_; refine hK _ ?_; clear hK; go_simp)
    go_big_quiet_step (fail)
    go_big_quiet_step ((go_at_call 86; with_reducible exact Calls.later (HD _).out))
    repeat (go_big_quiet_step (fail))
    refine wpQuiet_nil ?_
    intro r
    have S2 := S.below r.h
    generalize r.w' = w2 at S2 ⊢
    go_wp2
    go_ret
    exact ⟨ret_bool (by rw [← HE.out]; rfl), HX.out ▸ S2.old⟩
  | false =>
    cases p1 with
    | false =>
      refine region_later mixedL (by kernel_rfl) ?_
      (refine BigFrame.wpQuiet_want (by kernel_rfl) (fun K hK => ?_); refine quiet_load_row 31 _ rfl X (by kernel_rfl) _ _ (0, 0) _ (S.bkq 0 rfl) Tryz.underlying31 rfl (by kernel_rfl) ?_; refine hK _ ?_; clear hK; go_simp)
      go_big_quiet_step (fail)
      go_big_quiet_step ((go_at_call 86; with_reducible exact Calls.later (HD _).out))
      repeat (go_big_quiet_step (fail))
      refine wpQuiet_nil ?_
      intro r
      have S2 := S.below r.h
      generalize r.w' = w2 at S2 ⊢
      go_wp2
      go_ret
      exact ⟨ret_bool (by rw [← HE.out]; rfl), HX.out ▸ S2.old⟩
    | true =>
      refine region_later mixedL (by kernel_rfl) ?_
      (refine BigFrame.wpQuiet_want (by kernel_rfl) (fun K hK => ?_); refine quiet_load_row 31 _ rfl X (by kernel_rfl) _ _ (0, 0) _ (S.bkq 0 rfl) Tryz.underlying31 rfl (by kernel_rfl) ?_; refine hK _ ?_; clear hK; go_simp)
      go_big_quiet_step (fail)
      go_big_quiet_step ((go_at_call 86; with_reducible exact Calls.later (HD _).out))
      repeat (go_big_quiet_step (fail))
      refine wpQuiet_nil ?_
      intro r
      have S2 := S.below r.h
      generalize r.w' = w2 at S2 ⊢
      go_wp2
      go_ret
      exact ⟨ret_bool (by rw [← HE.out]; simp), HX.out ▸ S2.old⟩

end Go.Proofs.YteplefdnnehdgaaGreatDoor

/- Learns, Forwards, Designated, Next, Block: contracts. -/
namespace Go.Proofs.YteplefdnnehdgaaGreatDoor
set_option maxRecDepth 100000
open Go.ChangeShapes Go.WideShapes Go.ChangeAt Go.RowKit
set_option linter.unusedVariables false

end Go.Proofs.YteplefdnnehdgaaGreatDoor

/- The law's example; '==' of ports that are alike; the document's Rise, Block and Next. -/
namespace Go.Proofs.YteplefdnnehdgaaGreatDoor
set_option maxRecDepth 100000
open Go.ChangeShapes Go.WideShapes Go.ChangeAt Go.RowKit
set_option linter.unusedVariables false

/-- The document's answers, of a state. -/
def rriseI (s : Int) : Int × Int := if s = 1 then (2, 1) else (s, 0)
def rblockI (s : Int) : Int × Int × Int := if s = 0 ∨ s = 1 then (s, 0, 0) else if s = 3 ∨ s = 4 then (1, 1, 1) else (1, 1, 0)
def rnextI (s : Int) : Int × Int × Int := if s = 2 then (3, 1, 0) else if s = 3 then (4, 0, 1) else (s, 0, 0)

theorem rrise_is (s a b : Int) (h : Hid (rriseI s = (a, b))) (w : World) :
    Calls Tryz.prog 87 #[.int .i64 s] w fun e w' => e = .returned (.tuple #[.int .i64 a, .int .i64 b]) ∧ w = w' := by
  have h := h.out
  unfold rriseI at h
  by_cases c : s = 1
  · rw [if_pos c] at h
    cases h
    subst c
    go_enter Tryz.func87, Tryz.ntmps87
    go_wp2
    exact bodyPost_ret (v := .tuple #[.int .i64 2, .int .i64 1]) (by simp [results, Tryz.results87, go_sem]) rfl ⟨rfl, rfl⟩
  · rw [if_neg c] at h
    cases h
    have hb : (s == 1) = false := by simpa using c
    go_enter Tryz.func87, Tryz.ntmps87
    go_wp2
    exact bodyPost_ret (v := .tuple #[.int .i64 s, .int .i64 0]) (by simp [results, Tryz.results87, go_sem]) rfl ⟨rfl, rfl⟩

theorem rblock_is (s a b d : Int) (h : Hid (rblockI s = (a, b, d))) (w : World) :
    Calls Tryz.prog 88 #[.int .i64 s] w fun e w' => e = .returned (.tuple #[.int .i64 a, .int .i64 b, .int .i64 d]) ∧ w = w' := by
  have h := h.out
  unfold rblockI at h
  by_cases c0 : s = 0
  · subst c0
    cases h
    go_enter Tryz.func88, Tryz.ntmps88
    go_wp2
    exact bodyPost_ret (v := .tuple #[.int .i64 0, .int .i64 0, .int .i64 0]) (by simp [results, Tryz.results88, go_sem]) rfl ⟨rfl, rfl⟩
  by_cases c1 : s = 1
  · subst c1
    cases h
    go_enter Tryz.func88, Tryz.ntmps88
    go_wp2
    exact bodyPost_ret (v := .tuple #[.int .i64 1, .int .i64 0, .int .i64 0]) (by simp [results, Tryz.results88, go_sem]) rfl ⟨rfl, rfl⟩
  by_cases c3 : s = 3
  · subst c3
    cases h
    go_enter Tryz.func88, Tryz.ntmps88
    go_wp2
    exact bodyPost_ret (v := .tuple #[.int .i64 1, .int .i64 1, .int .i64 1]) (by simp [results, Tryz.results88, go_sem]) rfl ⟨rfl, rfl⟩
  by_cases c4 : s = 4
  · subst c4
    cases h
    go_enter Tryz.func88, Tryz.ntmps88
    go_wp2
    exact bodyPost_ret (v := .tuple #[.int .i64 1, .int .i64 1, .int .i64 1]) (by simp [results, Tryz.results88, go_sem]) rfl ⟨rfl, rfl⟩
  rw [if_neg (fun e => e.elim c0 c1), if_neg (fun e => e.elim c3 c4)] at h
  cases h
  have b0 : (s == 0) = false := by simpa using c0
  have b1 : (s == 1) = false := by simpa using c1
  have b3 : (s == 3) = false := by simpa using c3
  have b4 : (s == 4) = false := by simpa using c4
  go_enter Tryz.func88, Tryz.ntmps88
  go_wp2
  exact bodyPost_ret (v := .tuple #[.int .i64 1, .int .i64 1, .int .i64 0]) (by simp [results, Tryz.results88, go_sem]) rfl ⟨rfl, rfl⟩

end Go.Proofs.YteplefdnnehdgaaGreatDoor

/- The document's States: contract. -/
namespace Go.Proofs.YteplefdnnehdgaaGreatDoor
set_option maxRecDepth 100000
open Go.ChangeShapes Go.WideShapes Go.ChangeAt Go.RowKit
set_option linter.unusedVariables false
set_option linter.unusedSimpArgs false

def lostI (t : Th) (L : List Po) (k : Nat) : Int := if lostB t L k = true then 1 else 0
def StatesEnd (w : World) (t : Th) (n : Nat) (L : List Po) (e : Ending) (w' : World) : Prop := ∃ D cap, e = .returned (.tuple #[.agg (lT t D n cap).toArray, .int .i64 (lostI t L n)]) ∧ (D = none → cap = 0) ∧ TS w [] D (statesL t L) w'
/-- Rise and Block, as the document goes. -/
theorem rise_doc (p : Po) : riseP p = (if (rriseI p.st).2 = 1 then { p with st := (rriseI p.st).1, yo := true, yv := 0 } else { p with st := (rriseI p.st).1 }) := by
  unfold riseP rriseI
  by_cases h : p.st = 1
  · simp only [h, if_true]
  · simp only [if_neg h]
    rfl
theorem block_doc (p : Po) : blockP p = (if (rblockI p.st).2.1 = 1 then { p with st := (rblockI p.st).1, yo := false, yv := 0 } else { p with st := (rblockI p.st).1 }, decide ((rblockI p.st).2.2 = 1)) := by
  unfold blockP rblockI learnsB
  by_cases h : p.st = 0 ∨ p.st = 1
  · simp only [if_pos h]
    rfl
  · simp only [if_neg h]
    by_cases h2 : p.st = 3 ∨ p.st = 4
    · simp only [if_pos h2]
      rcases h2 with e | e <;> rw [e] <;> rfl
    · simp only [if_neg h2]
      have e1 : ¬ p.st = 3 := fun e => h2 (.inl e)
      have e2 : ¬ p.st = 4 := fun e => h2 (.inr e)
      simp [e1, e2]

set_option maxHeartbeats 4000000 in
theorem rstates_is (t : Th) (A : Option Addr) (n cap : Nat) (L : List Po) (hL : Hid (L.length = n)) (hf : n ≤ 200) (hc : Hid (A = none → cap = 0)) (w : World) (hp : Hid (PoAt w A w.heap.size L)) :
    Calls Tryz.prog 69 #[.agg (lT t A n cap).toArray] w (StatesEnd w t n L) := by
  obtain ⟨wb, hwb, S⟩ := hs_two w 31 31 (lT t A n cap) [.int .u64 0, .int .u64 0, .int .u32 0, .int .i64 0, .int .i64 0, .int .i64 0, .int .i64 0, .int .i64 0, .int .i64 0, .int .i64 0, .bool false, .bool false, .bool false, .int .i64 0, .bool false, .int .i64 0, .bool false, .int .i64 0, .slice none 0 0]
  go_enter Tryz.func69, Tryz.ntmps69
  go_upto_region 1 with fail
  clear hwb
  obtain ⟨X, hX⟩ : ∃ X, w.heap.size = X := ⟨_, rfl⟩
  rw [hX] at S
  obtain ⟨Y, hY⟩ : ∃ Y, X + 1 = Y := ⟨_, rfl⟩
  rw [hY] at S
  rw [hX]
  rw [hY]
  clear hX hY
  have hp1 := Lib.hid ((hp.out.below S.old (Nat.le_refl _)).wide S.old.size)
  have HC := Lib.hid (rcopied_is t A n cap L hL hf hc wb hp1)
  have hx := S.bk 1 rfl
  go_wp2_with (with_reducible refine wpList_load_row rfl 31 (.tmp 1) rfl X (by kernel_rfl) _ _ (0, 0) _ hx Tryz.underlying31 rfl (by kernel_rfl) ?_)
  (with_reducible refine HC.out.mono ?_); rintro e w1 ⟨D, cap', rfl, hz, k1⟩
  have S1 := TS.take S k1
  have HZ := Lib.hid hz
  clear S hx HC hp1 k1 hz
  have hx := S1.hs.bk 1 rfl
  go_upto_region 2 with (refine wpList_store_row rfl 31 _ _ rfl X _ rfl rfl _ _ hx (by kernel_rfl) (by kernel_rfl) (by kernel_rfl) ?_)
  have S2 : TS w [(Y, 31, [.int .u64 0, .int .u64 0, .int .u32 0, .int .i64 0, .int .i64 0, .int .i64 0, .int .i64 0, .int .i64 0, .int .i64 0, .int .i64 0, .bool false, .bool false, .bool false, .int .i64 0, .bool false, .int .i64 0, .bool false, .int .i64 0, .slice none 0 0]), (X, 31, lT t D n cap')] D L _ := S1.row 1 rfl (lT t D n cap')
  generalize w1.setRow X (lT t D n cap').toArray = w2 at S2 ⊢
  clear S1 hx
  go_wp2
  go_loopw [4, 5] (fun b i wr => ∃ k : Nat, k ≤ n ∧ i = .int .i64 k ∧ b = .int .i64 (lostI t L k) ∧ TS w [(Y, 31, [.int .u64 0, .int .u64 0, .int .u32 0, .int .i64 0, .int .i64 0, .int .i64 0, .int .i64 0, .int .i64 0, .int .i64 0, .int .i64 0, .bool false, .bool false, .bool false, .int .i64 0, .bool false, .int .i64 0, .bool false, .int .i64 0, .slice none 0 0]), (X, 31, lT t D n cap')] D (mixL (fun j p => (stP t j p).1) k L) wr) (fun b i _ => n - (intOf i).toNat)
  case atStart => exact ⟨0, Nat.zero_le _, rfl, rfl, by rw [mixL_zero]; exact S2⟩
  case round =>
    clear S2
    obtain ⟨k, hk, rfl, rfl, S⟩ := hrel
    have c18 := S.hs.cell 1 18 rfl rfl
    by_cases hkn : k < n
    · obtain ⟨x, hx⟩ := po_at hL.out hkn
      have hki : (k : Int) < (n : Int) := by omega
      have hkz : ¬ (n : Int) ≤ (k : Int) := by omega
      have HX := Lib.hid hx
      have HM := Lib.hid (mixL_at (f := fun j p => (stP t j p).1) hx)
      obtain ⟨g, hD, -⟩ := S.at HM.out
      subst hD
      clear hx
      have HML := Lib.hid (show (mixL (fun j p => (stP t j p).1) k L).length = n by rw [mixL_len, hL.out])
      go_upto_region 7 with fail
      clear c18
      have c3 := S.hs.cell 1 3 rfl rfl
      obtain ⟨d, hd⟩ : ∃ d, desB x t.ow = d := ⟨_, rfl⟩
      have HDD := Lib.hid hd
      clear hd
      by_cases hrp : (k : Int) = t.rp
      · have hb : ((k : Int) != t.rp) = false := by simp [hrp]
        have hb2 : ((k : Int) == t.rp) = true := by simp [hrp]
        have HRP := Lib.hid hrp
        clear hrp
        go_upto_region 9 with fail
        clear c3
        obtain ⟨_, e', _, _, hfz⟩ := S.at HM.out
        cases e'
        have p8 := S.port_cell HM.out 8 rfl
        have f8 := hfz (k * 15 + 8)
        have p7 := S.port_cell HM.out 7 rfl
        have f7 := hfz (k * 15 + 7)
        clear hfz
        go_upto_region 10 with fail
        have T2_0 := TS.put (y := ({ x with pe := false } : Po)) S HM.out 8 [.bool false] (by simp) rfl
        have HT2_0 : ((mixL (fun j p => (stP t j p).1) k L).set k ({ x with pe := false } : Po))[k]? = some ({ x with pe := false } : Po) := List.getElem?_set_self (by rw [HML.out]; exact hkn)
        have T2_1 := TS.put (y := ({ ({ x with pe := false } : Po) with ak := false } : Po)) T2_0 HT2_0 7 [.bool false] (by simp) rfl
        have HT2_1 : ((mixL (fun j p => (stP t j p).1) k L).set k ({ ({ x with pe := false } : Po) with ak := false } : Po))[k]? = some ({ ({ x with pe := false } : Po) with ak := false } : Po) := List.getElem?_set_self (by rw [HML.out]; exact hkn)
        rw [List.set_set] at T2_1
        have T2 : TS w [(Y, 31, [.int .u64 0, .int .u64 0, .int .u32 0, .int .i64 0, .int .i64 0, .int .i64 0, .int .i64 0, .int .i64 0, .int .i64 0, .int .i64 0, .bool false, .bool false, .bool false, .int .i64 0, .bool false, .int .i64 0, .bool false, .int .i64 0, .slice none 0 0]), (X, 31, lT t (some ⟨g, 0, none⟩) n cap')] (some ⟨g, 0, none⟩) ((mixL (fun j p => (stP t j p).1) k L).set k ({ x with pe := false, ak := false } : Po)) ((wr.setCell ⟨g, k * 15 + 8, none⟩ (.bool false)).setCell ⟨g, k * 15 + 7, none⟩ (.bool false)) := T2_1
        have HT2 := Lib.hid (show ((mixL (fun j p => (stP t j p).1) k L).set k ({ x with pe := false, ak := false } : Po))[k]? = some ({ x with pe := false, ak := false } : Po) from List.getElem?_set_self (by rw [HML.out]; exact hkn))
        generalize (wr.setCell ⟨g, k * 15 + 8, none⟩ (.bool false)).setCell ⟨g, k * 15 + 7, none⟩ (.bool false) = w2 at T2 ⊢
        clear p8 f8 p7 f7 T2_0 HT2_0 T2_1 HT2_1 S
        have c3 := T2.hs.cell 1 3 rfl rfl
        go_upto_region 11 with fail
        clear c3
        obtain ⟨a, b, hab⟩ : ∃ a b, rriseI (({ x with pe := false, ak := false } : Po)).st = (a, b) := ⟨_, _, rfl⟩
        have HRI := fun W => Lib.hid (rrise_is _ a b (Lib.hid hab) W)
        have HAB := Lib.hid hab
        have p1 : w2.cell? ⟨g, k * 15 + 1, none⟩ = some (.int .i64 (({ x with pe := false, ak := false } : Po)).st) := T2.port_cell HT2.out 1 rfl
        clear hab
        go_wp2_with fail
        (with_reducible refine (HRI _).out.mono ?_); rintro e v4 ⟨rfl, rfl⟩
        clear p1 HRI
        obtain ⟨_, e', _, _, hfz⟩ := T2.at HT2.out
        cases e'
        have p1 := T2.port_cell HT2.out 1 rfl
        have f1 := hfz (k * 15 + 1)
        clear hfz
        go_upto_region 13 with fail
        have T5_0 := TS.put (y := ({ ({ x with pe := false, ak := false } : Po) with st := a } : Po)) T2 HT2.out 1 [.int .i64 a] (by simp) rfl
        have HT5_0 : ((mixL (fun j p => (stP t j p).1) k L).set k ({ ({ x with pe := false, ak := false } : Po) with st := a } : Po))[k]? = some ({ ({ x with pe := false, ak := false } : Po) with st := a } : Po) := List.getElem?_set_self (by rw [HML.out]; exact hkn)
        rw [List.set_set] at T5_0
        have T5 : TS w [(Y, 31, [.int .u64 0, .int .u64 0, .int .u32 0, .int .i64 0, .int .i64 0, .int .i64 0, .int .i64 0, .int .i64 0, .int .i64 0, .int .i64 0, .bool false, .bool false, .bool false, .int .i64 0, .bool false, .int .i64 0, .bool false, .int .i64 0, .slice none 0 0]), (X, 31, lT t (some ⟨g, 0, none⟩) n cap')] (some ⟨g, 0, none⟩) ((mixL (fun j p => (stP t j p).1) k L).set k ({ (({ x with pe := false, ak := false } : Po)) with st := a } : Po)) (w2.setCell ⟨g, k * 15 + 1, none⟩ (.int .i64 a)) := T5_0
        have HT5 := Lib.hid (show ((mixL (fun j p => (stP t j p).1) k L).set k ({ (({ x with pe := false, ak := false } : Po)) with st := a } : Po))[k]? = some ({ (({ x with pe := false, ak := false } : Po)) with st := a } : Po) from List.getElem?_set_self (by rw [HML.out]; exact hkn))
        generalize w2.setCell ⟨g, k * 15 + 1, none⟩ (.int .i64 a) = w5 at T5 ⊢
        clear p1 f1 T5_0 HT5_0 T2
        have hr := rise_doc (({ x with pe := false, ak := false } : Po))
        rw [HAB.out] at hr
        dsimp only at hr
        by_cases hb : b = 1
        · subst hb
          rw [if_pos rfl] at hr
          obtain ⟨_, e', _, _, hfz⟩ := T5.at HT5.out
          cases e'
          have p11 := T5.port_cell HT5.out 11 rfl
          have f11 := hfz (k * 15 + 11)
          have p12 := T5.port_cell HT5.out 12 rfl
          have f12 := hfz (k * 15 + 12)
          clear hfz
          go_upto_region 5 with fail
          have T6_0 := TS.put (y := ({ ({ (({ x with pe := false, ak := false } : Po)) with st := a } : Po) with yo := true } : Po)) T5 HT5.out 11 [.bool true] (by simp) rfl
          have HT6_0 : ((mixL (fun j p => (stP t j p).1) k L).set k ({ ({ (({ x with pe := false, ak := false } : Po)) with st := a } : Po) with yo := true } : Po))[k]? = some ({ ({ (({ x with pe := false, ak := false } : Po)) with st := a } : Po) with yo := true } : Po) := List.getElem?_set_self (by rw [HML.out]; exact hkn)
          rw [List.set_set] at T6_0
          have T6_1 := TS.put (y := ({ ({ ({ (({ x with pe := false, ak := false } : Po)) with st := a } : Po) with yo := true } : Po) with yv := 0 } : Po)) T6_0 HT6_0 12 [.int .i64 0] (by simp) rfl
          have HT6_1 : ((mixL (fun j p => (stP t j p).1) k L).set k ({ ({ ({ (({ x with pe := false, ak := false } : Po)) with st := a } : Po) with yo := true } : Po) with yv := 0 } : Po))[k]? = some ({ ({ ({ (({ x with pe := false, ak := false } : Po)) with st := a } : Po) with yo := true } : Po) with yv := 0 } : Po) := List.getElem?_set_self (by rw [HML.out]; exact hkn)
          rw [List.set_set] at T6_1
          have T6 : TS w [(Y, 31, [.int .u64 0, .int .u64 0, .int .u32 0, .int .i64 0, .int .i64 0, .int .i64 0, .int .i64 0, .int .i64 0, .int .i64 0, .int .i64 0, .bool false, .bool false, .bool false, .int .i64 0, .bool false, .int .i64 0, .bool false, .int .i64 0, .slice none 0 0]), (X, 31, lT t (some ⟨g, 0, none⟩) n cap')] (some ⟨g, 0, none⟩) ((mixL (fun j p => (stP t j p).1) k L).set k ({ (({ x with pe := false, ak := false } : Po)) with st := a, yo := true, yv := 0 } : Po)) ((w5.setCell ⟨g, k * 15 + 11, none⟩ (.bool true)).setCell ⟨g, k * 15 + 12, none⟩ (.int .i64 0)) := T6_1
          have HT6 := Lib.hid (show ((mixL (fun j p => (stP t j p).1) k L).set k ({ (({ x with pe := false, ak := false } : Po)) with st := a, yo := true, yv := 0 } : Po))[k]? = some ({ (({ x with pe := false, ak := false } : Po)) with st := a, yo := true, yv := 0 } : Po) from List.getElem?_set_self (by rw [HML.out]; exact hkn))
          generalize (w5.setCell ⟨g, k * 15 + 11, none⟩ (.bool true)).setCell ⟨g, k * 15 + 12, none⟩ (.int .i64 0) = w6 at T6 ⊢
          clear p11 f11 p12 f12 T6_0 HT6_0 T6_1 HT6_1 T5
          have hst : stP t k x = (({ (({ x with pe := false, ak := false } : Po)) with st := a, yo := true, yv := 0 } : Po), false) := by unfold stP; rw [if_pos HRP.out]; show (riseP (owesP x), false) = _; rw [show owesP x = ({ x with pe := false, ak := false } : Po) from rfl]; rw [hr]
          have q : (mixL (fun j p => (stP t j p).1) k L).set k (({ (({ x with pe := false, ak := false } : Po)) with st := a, yo := true, yv := 0 } : Po)) = mixL (fun j p => (stP t j p).1) (k + 1) L := (congrArg (fun p : Po × Bool => (mixL (fun j p => (stP t j p).1) k L).set k p.1) hst.symm).trans (mixL_set (f := fun j p => (stP t j p).1) HX.out)
          have hl := lostB_step (t := t) HX.out
          rw [hst] at hl
          have HLI : Hid (lostI t L (k + 1) = lostI t L k) := Lib.hid (by unfold lostI; rw [hl]; simp only [Bool.or_false])
          have T9 := T6
          rw [q] at T9
          clear T6 q hst hl
          go_wp2
          go_roundw
          case rel => exact ⟨k + 1, by omega, by go_num, HLI.out.symm ▸ rfl, T9⟩
          case measure => simp [intOf]; omega
        · rw [if_neg hb] at hr
          have hb2 : (b == 1) = false := by simpa using hb
          clear hb
          have hst : stP t k x = (({ (({ x with pe := false, ak := false } : Po)) with st := a } : Po), false) := by unfold stP; rw [if_pos HRP.out]; show (riseP (owesP x), false) = _; rw [show owesP x = ({ x with pe := false, ak := false } : Po) from rfl]; rw [hr]
          have q : (mixL (fun j p => (stP t j p).1) k L).set k (({ (({ x with pe := false, ak := false } : Po)) with st := a } : Po)) = mixL (fun j p => (stP t j p).1) (k + 1) L := (congrArg (fun p : Po × Bool => (mixL (fun j p => (stP t j p).1) k L).set k p.1) hst.symm).trans (mixL_set (f := fun j p => (stP t j p).1) HX.out)
          have hl := lostB_step (t := t) HX.out
          rw [hst] at hl
          have HLI : Hid (lostI t L (k + 1) = lostI t L k) := Lib.hid (by unfold lostI; rw [hl]; simp only [Bool.or_false])
          have T9 := T5
          rw [q] at T9
          clear T5 q hst hl
          go_wp2
          go_roundw
          case rel => exact ⟨k + 1, by omega, by go_num, HLI.out.symm ▸ rfl, T9⟩
          case measure => simp [intOf]; omega
      · have hb : ((k : Int) != t.rp) = true := by simp [hrp]
        have hb2 : ((k : Int) == t.rp) = false := by simp [hrp]
        have HRP := Lib.hid hrp
        clear hrp
        have S0 := S
        clear S
        have HDS := Lib.hid (rdes_is t (some ⟨g, 0, none⟩) n cap' (mixL (fun j p => (stP t j p).1) k L) HML k x HM d (Lib.hid (HDD.out)) wr (Lib.hid S0.ports))
        have hx := S0.hs.bk 1 rfl
        go_wp2_with (with_reducible refine wpList_load_rowG (by kernel_rfl) 31 (.tmp 1) rfl X (by kernel_rfl) _ _ (0, 0) _ hx Tryz.underlying31 rfl (by kernel_rfl) ?_)
        (with_reducible refine HDS.out.mono ?_); rintro e v1 ⟨rfl, b2⟩
        have S := S0.below b2
        clear S0 HDS hx b2
        clear c3
        cases d with
        | true =>
          go_upto_region 8 with fail
          obtain ⟨_, e', _, _, hfz⟩ := S.at HM.out
          cases e'
          have p9 := S.port_cell HM.out 9 rfl
          have f9 := hfz (k * 15 + 9)
          have p10 := S.port_cell HM.out 10 rfl
          have f10 := hfz (k * 15 + 10)
          clear hfz
          go_upto_region 10 with fail
          have T2_0 := TS.put (y := ({ x with ao := false } : Po)) S HM.out 9 [.bool false] (by simp) rfl
          have HT2_0 : ((mixL (fun j p => (stP t j p).1) k L).set k ({ x with ao := false } : Po))[k]? = some ({ x with ao := false } : Po) := List.getElem?_set_self (by rw [HML.out]; exact hkn)
          have T2_1 := TS.put (y := ({ ({ x with ao := false } : Po) with av := 0 } : Po)) T2_0 HT2_0 10 [.int .i64 0] (by simp) rfl
          have HT2_1 : ((mixL (fun j p => (stP t j p).1) k L).set k ({ ({ x with ao := false } : Po) with av := 0 } : Po))[k]? = some ({ ({ x with ao := false } : Po) with av := 0 } : Po) := List.getElem?_set_self (by rw [HML.out]; exact hkn)
          rw [List.set_set] at T2_1
          have T2 : TS w [(Y, 31, [.int .u64 0, .int .u64 0, .int .u32 0, .int .i64 0, .int .i64 0, .int .i64 0, .int .i64 0, .int .i64 0, .int .i64 0, .int .i64 0, .bool false, .bool false, .bool false, .int .i64 0, .bool false, .int .i64 0, .bool false, .int .i64 0, .slice none 0 0]), (X, 31, lT t (some ⟨g, 0, none⟩) n cap')] (some ⟨g, 0, none⟩) ((mixL (fun j p => (stP t j p).1) k L).set k ({ x with ao := false, av := 0 } : Po)) ((v1.setCell ⟨g, k * 15 + 9, none⟩ (.bool false)).setCell ⟨g, k * 15 + 10, none⟩ (.int .i64 0)) := T2_1
          have HT2 := Lib.hid (show ((mixL (fun j p => (stP t j p).1) k L).set k ({ x with ao := false, av := 0 } : Po))[k]? = some ({ x with ao := false, av := 0 } : Po) from List.getElem?_set_self (by rw [HML.out]; exact hkn))
          generalize (v1.setCell ⟨g, k * 15 + 9, none⟩ (.bool false)).setCell ⟨g, k * 15 + 10, none⟩ (.int .i64 0) = w2 at T2 ⊢
          clear p9 f9 p10 f10 T2_0 HT2_0 T2_1 HT2_1 S
          have c3 := T2.hs.cell 1 3 rfl rfl
          have HDS := Lib.hid (rdes_is t (some ⟨g, 0, none⟩) n cap' ((mixL (fun j p => (stP t j p).1) k L).set k ({ x with ao := false, av := 0 } : Po)) (Lib.hid (show ((mixL (fun j p => (stP t j p).1) k L).set k ({ x with ao := false, av := 0 } : Po)).length = n by rw [List.length_set]; exact HML.out)) k ({ x with ao := false, av := 0 } : Po) HT2 true (Lib.hid (show desB x t.ow = _ from HDD.out)) w2 (Lib.hid T2.ports))
          have hx := T2.hs.bk 1 rfl
          go_wp2_with (with_reducible refine wpList_load_rowG (by kernel_rfl) 31 (.tmp 1) rfl X (by kernel_rfl) _ _ (0, 0) _ hx Tryz.underlying31 rfl (by kernel_rfl) ?_)
          (with_reducible refine HDS.out.mono ?_); rintro e w3 ⟨rfl, b2⟩
          have T3 := T2.below b2
          clear T2 HDS hx b2
          clear c3
          go_upto_region 11 with fail
          obtain ⟨a, b, hab⟩ : ∃ a b, rriseI (({ x with ao := false, av := 0 } : Po)).st = (a, b) := ⟨_, _, rfl⟩
          have HRI := fun W => Lib.hid (rrise_is _ a b (Lib.hid hab) W)
          have HAB := Lib.hid hab
          have p1 : w3.cell? ⟨g, k * 15 + 1, none⟩ = some (.int .i64 (({ x with ao := false, av := 0 } : Po)).st) := T3.port_cell HT2.out 1 rfl
          clear hab
          go_wp2_with fail
          (with_reducible refine (HRI _).out.mono ?_); rintro e v4 ⟨rfl, rfl⟩
          clear p1 HRI
          obtain ⟨_, e', _, _, hfz⟩ := T3.at HT2.out
          cases e'
          have p1 := T3.port_cell HT2.out 1 rfl
          have f1 := hfz (k * 15 + 1)
          clear hfz
          go_upto_region 13 with fail
          have T5_0 := TS.put (y := ({ ({ x with ao := false, av := 0 } : Po) with st := a } : Po)) T3 HT2.out 1 [.int .i64 a] (by simp) rfl
          have HT5_0 : ((mixL (fun j p => (stP t j p).1) k L).set k ({ ({ x with ao := false, av := 0 } : Po) with st := a } : Po))[k]? = some ({ ({ x with ao := false, av := 0 } : Po) with st := a } : Po) := List.getElem?_set_self (by rw [HML.out]; exact hkn)
          rw [List.set_set] at T5_0
          have T5 : TS w [(Y, 31, [.int .u64 0, .int .u64 0, .int .u32 0, .int .i64 0, .int .i64 0, .int .i64 0, .int .i64 0, .int .i64 0, .int .i64 0, .int .i64 0, .bool false, .bool false, .bool false, .int .i64 0, .bool false, .int .i64 0, .bool false, .int .i64 0, .slice none 0 0]), (X, 31, lT t (some ⟨g, 0, none⟩) n cap')] (some ⟨g, 0, none⟩) ((mixL (fun j p => (stP t j p).1) k L).set k ({ (({ x with ao := false, av := 0 } : Po)) with st := a } : Po)) (w3.setCell ⟨g, k * 15 + 1, none⟩ (.int .i64 a)) := T5_0
          have HT5 := Lib.hid (show ((mixL (fun j p => (stP t j p).1) k L).set k ({ (({ x with ao := false, av := 0 } : Po)) with st := a } : Po))[k]? = some ({ (({ x with ao := false, av := 0 } : Po)) with st := a } : Po) from List.getElem?_set_self (by rw [HML.out]; exact hkn))
          generalize w3.setCell ⟨g, k * 15 + 1, none⟩ (.int .i64 a) = w5 at T5 ⊢
          clear p1 f1 T5_0 HT5_0 T3
          have hr := rise_doc (({ x with ao := false, av := 0 } : Po))
          rw [HAB.out] at hr
          dsimp only at hr
          by_cases hb : b = 1
          · subst hb
            rw [if_pos rfl] at hr
            obtain ⟨_, e', _, _, hfz⟩ := T5.at HT5.out
            cases e'
            have p11 := T5.port_cell HT5.out 11 rfl
            have f11 := hfz (k * 15 + 11)
            have p12 := T5.port_cell HT5.out 12 rfl
            have f12 := hfz (k * 15 + 12)
            clear hfz
            go_upto_region 5 with fail
            have T6_0 := TS.put (y := ({ ({ (({ x with ao := false, av := 0 } : Po)) with st := a } : Po) with yo := true } : Po)) T5 HT5.out 11 [.bool true] (by simp) rfl
            have HT6_0 : ((mixL (fun j p => (stP t j p).1) k L).set k ({ ({ (({ x with ao := false, av := 0 } : Po)) with st := a } : Po) with yo := true } : Po))[k]? = some ({ ({ (({ x with ao := false, av := 0 } : Po)) with st := a } : Po) with yo := true } : Po) := List.getElem?_set_self (by rw [HML.out]; exact hkn)
            rw [List.set_set] at T6_0
            have T6_1 := TS.put (y := ({ ({ ({ (({ x with ao := false, av := 0 } : Po)) with st := a } : Po) with yo := true } : Po) with yv := 0 } : Po)) T6_0 HT6_0 12 [.int .i64 0] (by simp) rfl
            have HT6_1 : ((mixL (fun j p => (stP t j p).1) k L).set k ({ ({ ({ (({ x with ao := false, av := 0 } : Po)) with st := a } : Po) with yo := true } : Po) with yv := 0 } : Po))[k]? = some ({ ({ ({ (({ x with ao := false, av := 0 } : Po)) with st := a } : Po) with yo := true } : Po) with yv := 0 } : Po) := List.getElem?_set_self (by rw [HML.out]; exact hkn)
            rw [List.set_set] at T6_1
            have T6 : TS w [(Y, 31, [.int .u64 0, .int .u64 0, .int .u32 0, .int .i64 0, .int .i64 0, .int .i64 0, .int .i64 0, .int .i64 0, .int .i64 0, .int .i64 0, .bool false, .bool false, .bool false, .int .i64 0, .bool false, .int .i64 0, .bool false, .int .i64 0, .slice none 0 0]), (X, 31, lT t (some ⟨g, 0, none⟩) n cap')] (some ⟨g, 0, none⟩) ((mixL (fun j p => (stP t j p).1) k L).set k ({ (({ x with ao := false, av := 0 } : Po)) with st := a, yo := true, yv := 0 } : Po)) ((w5.setCell ⟨g, k * 15 + 11, none⟩ (.bool true)).setCell ⟨g, k * 15 + 12, none⟩ (.int .i64 0)) := T6_1
            have HT6 := Lib.hid (show ((mixL (fun j p => (stP t j p).1) k L).set k ({ (({ x with ao := false, av := 0 } : Po)) with st := a, yo := true, yv := 0 } : Po))[k]? = some ({ (({ x with ao := false, av := 0 } : Po)) with st := a, yo := true, yv := 0 } : Po) from List.getElem?_set_self (by rw [HML.out]; exact hkn))
            generalize (w5.setCell ⟨g, k * 15 + 11, none⟩ (.bool true)).setCell ⟨g, k * 15 + 12, none⟩ (.int .i64 0) = w6 at T6 ⊢
            clear p11 f11 p12 f12 T6_0 HT6_0 T6_1 HT6_1 T5
            have hst : stP t k x = (({ (({ x with ao := false, av := 0 } : Po)) with st := a, yo := true, yv := 0 } : Po), false) := by unfold stP; rw [if_neg HRP.out, if_pos HDD.out]; show (riseP (restP x), false) = _; rw [show restP x = ({ x with ao := false, av := 0 } : Po) from rfl]; rw [hr]
            have q : (mixL (fun j p => (stP t j p).1) k L).set k (({ (({ x with ao := false, av := 0 } : Po)) with st := a, yo := true, yv := 0 } : Po)) = mixL (fun j p => (stP t j p).1) (k + 1) L := (congrArg (fun p : Po × Bool => (mixL (fun j p => (stP t j p).1) k L).set k p.1) hst.symm).trans (mixL_set (f := fun j p => (stP t j p).1) HX.out)
            have hl := lostB_step (t := t) HX.out
            rw [hst] at hl
            have HLI : Hid (lostI t L (k + 1) = lostI t L k) := Lib.hid (by unfold lostI; rw [hl]; simp only [Bool.or_false])
            have T9 := T6
            rw [q] at T9
            clear T6 q hst hl
            go_wp2
            go_roundw
            case rel => exact ⟨k + 1, by omega, by go_num, HLI.out.symm ▸ rfl, T9⟩
            case measure => simp [intOf]; omega
          · rw [if_neg hb] at hr
            have hb2 : (b == 1) = false := by simpa using hb
            clear hb
            have hst : stP t k x = (({ (({ x with ao := false, av := 0 } : Po)) with st := a } : Po), false) := by unfold stP; rw [if_neg HRP.out, if_pos HDD.out]; show (riseP (restP x), false) = _; rw [show restP x = ({ x with ao := false, av := 0 } : Po) from rfl]; rw [hr]
            have q : (mixL (fun j p => (stP t j p).1) k L).set k (({ (({ x with ao := false, av := 0 } : Po)) with st := a } : Po)) = mixL (fun j p => (stP t j p).1) (k + 1) L := (congrArg (fun p : Po × Bool => (mixL (fun j p => (stP t j p).1) k L).set k p.1) hst.symm).trans (mixL_set (f := fun j p => (stP t j p).1) HX.out)
            have hl := lostB_step (t := t) HX.out
            rw [hst] at hl
            have HLI : Hid (lostI t L (k + 1) = lostI t L k) := Lib.hid (by unfold lostI; rw [hl]; simp only [Bool.or_false])
            have T9 := T5
            rw [q] at T9
            clear T5 q hst hl
            go_wp2
            go_roundw
            case rel => exact ⟨k + 1, by omega, by go_num, HLI.out.symm ▸ rfl, T9⟩
            case measure => simp [intOf]; omega
        | false =>
          go_upto_region 9 with fail
          obtain ⟨_, e', _, _, hfz⟩ := S.at HM.out
          cases e'
          have p8 := S.port_cell HM.out 8 rfl
          have f8 := hfz (k * 15 + 8)
          have p7 := S.port_cell HM.out 7 rfl
          have f7 := hfz (k * 15 + 7)
          clear hfz
          go_upto_region 10 with fail
          have T2_0 := TS.put (y := ({ x with pe := false } : Po)) S HM.out 8 [.bool false] (by simp) rfl
          have HT2_0 : ((mixL (fun j p => (stP t j p).1) k L).set k ({ x with pe := false } : Po))[k]? = some ({ x with pe := false } : Po) := List.getElem?_set_self (by rw [HML.out]; exact hkn)
          have T2_1 := TS.put (y := ({ ({ x with pe := false } : Po) with ak := false } : Po)) T2_0 HT2_0 7 [.bool false] (by simp) rfl
          have HT2_1 : ((mixL (fun j p => (stP t j p).1) k L).set k ({ ({ x with pe := false } : Po) with ak := false } : Po))[k]? = some ({ ({ x with pe := false } : Po) with ak := false } : Po) := List.getElem?_set_self (by rw [HML.out]; exact hkn)
          rw [List.set_set] at T2_1
          have T2 : TS w [(Y, 31, [.int .u64 0, .int .u64 0, .int .u32 0, .int .i64 0, .int .i64 0, .int .i64 0, .int .i64 0, .int .i64 0, .int .i64 0, .int .i64 0, .bool false, .bool false, .bool false, .int .i64 0, .bool false, .int .i64 0, .bool false, .int .i64 0, .slice none 0 0]), (X, 31, lT t (some ⟨g, 0, none⟩) n cap')] (some ⟨g, 0, none⟩) ((mixL (fun j p => (stP t j p).1) k L).set k ({ x with pe := false, ak := false } : Po)) ((v1.setCell ⟨g, k * 15 + 8, none⟩ (.bool false)).setCell ⟨g, k * 15 + 7, none⟩ (.bool false)) := T2_1
          have HT2 := Lib.hid (show ((mixL (fun j p => (stP t j p).1) k L).set k ({ x with pe := false, ak := false } : Po))[k]? = some ({ x with pe := false, ak := false } : Po) from List.getElem?_set_self (by rw [HML.out]; exact hkn))
          generalize (v1.setCell ⟨g, k * 15 + 8, none⟩ (.bool false)).setCell ⟨g, k * 15 + 7, none⟩ (.bool false) = w2 at T2 ⊢
          clear p8 f8 p7 f7 T2_0 HT2_0 T2_1 HT2_1 S
          have c3 := T2.hs.cell 1 3 rfl rfl
          have HDS := Lib.hid (rdes_is t (some ⟨g, 0, none⟩) n cap' ((mixL (fun j p => (stP t j p).1) k L).set k ({ x with pe := false, ak := false } : Po)) (Lib.hid (show ((mixL (fun j p => (stP t j p).1) k L).set k ({ x with pe := false, ak := false } : Po)).length = n by rw [List.length_set]; exact HML.out)) k ({ x with pe := false, ak := false } : Po) HT2 false (Lib.hid (show desB x t.ow = _ from HDD.out)) w2 (Lib.hid T2.ports))
          have hx := T2.hs.bk 1 rfl
          go_wp2_with (with_reducible refine wpList_load_rowG (by kernel_rfl) 31 (.tmp 1) rfl X (by kernel_rfl) _ _ (0, 0) _ hx Tryz.underlying31 rfl (by kernel_rfl) ?_)
          (with_reducible refine HDS.out.mono ?_); rintro e w3 ⟨rfl, b2⟩
          have T3 := T2.below b2
          clear T2 HDS hx b2
          clear c3
          go_upto_region 15 with fail
          obtain ⟨a, b, c, hab⟩ : ∃ a b c, rblockI ({ x with pe := false, ak := false } : Po).st = (a, b, c) := ⟨_, _, _, rfl⟩
          have HBI := fun W => Lib.hid (rblock_is _ a b c (Lib.hid hab) W)
          have HAB := Lib.hid hab
          have p1 : w3.cell? ⟨g, k * 15 + 1, none⟩ = some (.int .i64 ({ x with pe := false, ak := false } : Po).st) := T3.port_cell HT2.out 1 rfl
          clear hab
          go_wp2_with fail
          (with_reducible refine (HBI _).out.mono ?_); rintro e v4 ⟨rfl, rfl⟩
          clear p1 HBI
          obtain ⟨_, e', _, _, hfz⟩ := T3.at HT2.out
          cases e'
          have p1 := T3.port_cell HT2.out 1 rfl
          have f1 := hfz (k * 15 + 1)
          clear hfz
          go_upto_region 17 with fail
          have T5_0 := TS.put (y := ({ ({ x with pe := false, ak := false } : Po) with st := a } : Po)) T3 HT2.out 1 [.int .i64 a] (by simp) rfl
          have HT5_0 : ((mixL (fun j p => (stP t j p).1) k L).set k ({ ({ x with pe := false, ak := false } : Po) with st := a } : Po))[k]? = some ({ ({ x with pe := false, ak := false } : Po) with st := a } : Po) := List.getElem?_set_self (by rw [HML.out]; exact hkn)
          rw [List.set_set] at T5_0
          have T5 : TS w [(Y, 31, [.int .u64 0, .int .u64 0, .int .u32 0, .int .i64 0, .int .i64 0, .int .i64 0, .int .i64 0, .int .i64 0, .int .i64 0, .int .i64 0, .bool false, .bool false, .bool false, .int .i64 0, .bool false, .int .i64 0, .bool false, .int .i64 0, .slice none 0 0]), (X, 31, lT t (some ⟨g, 0, none⟩) n cap')] (some ⟨g, 0, none⟩) ((mixL (fun j p => (stP t j p).1) k L).set k ({ ({ x with pe := false, ak := false } : Po) with st := a } : Po)) (w3.setCell ⟨g, k * 15 + 1, none⟩ (.int .i64 a)) := T5_0
          have HT5 := Lib.hid (show ((mixL (fun j p => (stP t j p).1) k L).set k ({ ({ x with pe := false, ak := false } : Po) with st := a } : Po))[k]? = some ({ ({ x with pe := false, ak := false } : Po) with st := a } : Po) from List.getElem?_set_self (by rw [HML.out]; exact hkn))
          generalize w3.setCell ⟨g, k * 15 + 1, none⟩ (.int .i64 a) = w5 at T5 ⊢
          clear p1 f1 T5_0 HT5_0 T3
          have hr := block_doc ({ x with pe := false, ak := false } : Po)
          rw [HAB.out] at hr
          dsimp only at hr
          by_cases hbb : b = 1
          · subst hbb
            rw [if_pos rfl] at hr
            obtain ⟨_, e', _, _, hfz⟩ := T5.at HT5.out
            cases e'
            have p11 := T5.port_cell HT5.out 11 rfl
            have f11 := hfz (k * 15 + 11)
            have p12 := T5.port_cell HT5.out 12 rfl
            have f12 := hfz (k * 15 + 12)
            clear hfz
            go_upto_region 19 with fail
            have T6_0 := TS.put (y := ({ ({ ({ x with pe := false, ak := false } : Po) with st := a } : Po) with yo := false } : Po)) T5 HT5.out 11 [.bool false] (by simp) rfl
            have HT6_0 : ((mixL (fun j p => (stP t j p).1) k L).set k ({ ({ ({ x with pe := false, ak := false } : Po) with st := a } : Po) with yo := false } : Po))[k]? = some ({ ({ ({ x with pe := false, ak := false } : Po) with st := a } : Po) with yo := false } : Po) := List.getElem?_set_self (by rw [HML.out]; exact hkn)
            rw [List.set_set] at T6_0
            have T6_1 := TS.put (y := ({ ({ ({ ({ x with pe := false, ak := false } : Po) with st := a } : Po) with yo := false } : Po) with yv := 0 } : Po)) T6_0 HT6_0 12 [.int .i64 0] (by simp) rfl
            have HT6_1 : ((mixL (fun j p => (stP t j p).1) k L).set k ({ ({ ({ ({ x with pe := false, ak := false } : Po) with st := a } : Po) with yo := false } : Po) with yv := 0 } : Po))[k]? = some ({ ({ ({ ({ x with pe := false, ak := false } : Po) with st := a } : Po) with yo := false } : Po) with yv := 0 } : Po) := List.getElem?_set_self (by rw [HML.out]; exact hkn)
            rw [List.set_set] at T6_1
            have T6 : TS w [(Y, 31, [.int .u64 0, .int .u64 0, .int .u32 0, .int .i64 0, .int .i64 0, .int .i64 0, .int .i64 0, .int .i64 0, .int .i64 0, .int .i64 0, .bool false, .bool false, .bool false, .int .i64 0, .bool false, .int .i64 0, .bool false, .int .i64 0, .slice none 0 0]), (X, 31, lT t (some ⟨g, 0, none⟩) n cap')] (some ⟨g, 0, none⟩) ((mixL (fun j p => (stP t j p).1) k L).set k ({ ({ x with pe := false, ak := false } : Po) with st := a, yo := false, yv := 0 } : Po)) ((w5.setCell ⟨g, k * 15 + 11, none⟩ (.bool false)).setCell ⟨g, k * 15 + 12, none⟩ (.int .i64 0)) := T6_1
            have HT6 := Lib.hid (show ((mixL (fun j p => (stP t j p).1) k L).set k ({ ({ x with pe := false, ak := false } : Po) with st := a, yo := false, yv := 0 } : Po))[k]? = some ({ ({ x with pe := false, ak := false } : Po) with st := a, yo := false, yv := 0 } : Po) from List.getElem?_set_self (by rw [HML.out]; exact hkn))
            generalize (w5.setCell ⟨g, k * 15 + 11, none⟩ (.bool false)).setCell ⟨g, k * 15 + 12, none⟩ (.int .i64 0) = w6 at T6 ⊢
            clear p11 f11 p12 f12 T6_0 HT6_0 T6_1 HT6_1 T5
            by_cases hc1 : c = 1
            · subst hc1
              have hst : stP t k x = (({ ({ x with pe := false, ak := false } : Po) with st := a, yo := false, yv := 0 } : Po), decide ((1 : Int) = 1)) := by unfold stP; rw [if_neg HRP.out, if_neg (by rw [HDD.out]; decide)]; show blockP (owesP x) = _; rw [show owesP x = ({ x with pe := false, ak := false } : Po) from rfl, hr]
              have q : (mixL (fun j p => (stP t j p).1) k L).set k (({ ({ x with pe := false, ak := false } : Po) with st := a, yo := false, yv := 0 } : Po)) = mixL (fun j p => (stP t j p).1) (k + 1) L := (congrArg (fun p : Po × Bool => (mixL (fun j p => (stP t j p).1) k L).set k p.1) hst.symm).trans (mixL_set (f := fun j p => (stP t j p).1) HX.out)
              have hl := lostB_step (t := t) HX.out
              rw [hst] at hl
              have HLI : Hid (lostI t L (k + 1) = 1) := Lib.hid (by unfold lostI; rw [hl]; simp)
              have T9 := T6
              rw [q] at T9
              clear T6 q hst hl
              go_wp2
              go_roundw
              case rel => exact ⟨k + 1, by omega, by go_num, HLI.out.symm ▸ rfl, T9⟩
              case measure => simp [intOf]; omega
            · have hcb : (c == 1) = false := by simpa using hc1
              have hst : stP t k x = (({ ({ x with pe := false, ak := false } : Po) with st := a, yo := false, yv := 0 } : Po), decide (c = 1)) := by unfold stP; rw [if_neg HRP.out, if_neg (by rw [HDD.out]; decide)]; show blockP (owesP x) = _; rw [show owesP x = ({ x with pe := false, ak := false } : Po) from rfl, hr]
              have q : (mixL (fun j p => (stP t j p).1) k L).set k (({ ({ x with pe := false, ak := false } : Po) with st := a, yo := false, yv := 0 } : Po)) = mixL (fun j p => (stP t j p).1) (k + 1) L := (congrArg (fun p : Po × Bool => (mixL (fun j p => (stP t j p).1) k L).set k p.1) hst.symm).trans (mixL_set (f := fun j p => (stP t j p).1) HX.out)
              have hl := lostB_step (t := t) HX.out
              rw [hst] at hl
              have HLI : Hid (lostI t L (k + 1) = lostI t L k) := Lib.hid (by unfold lostI; rw [hl]; simp [hc1])
              have T9 := T6
              rw [q] at T9
              clear T6 q hst hl hc1
              go_wp2
              go_roundw
              case rel => exact ⟨k + 1, by omega, by go_num, HLI.out.symm ▸ rfl, T9⟩
              case measure => simp [intOf]; omega
          · rw [if_neg hbb] at hr
            have hbf : (b == 1) = false := by simpa using hbb
            clear hbb
            by_cases hc1 : c = 1
            · subst hc1
              have hst : stP t k x = (({ ({ x with pe := false, ak := false } : Po) with st := a } : Po), decide ((1 : Int) = 1)) := by unfold stP; rw [if_neg HRP.out, if_neg (by rw [HDD.out]; decide)]; show blockP (owesP x) = _; rw [show owesP x = ({ x with pe := false, ak := false } : Po) from rfl, hr]
              have q : (mixL (fun j p => (stP t j p).1) k L).set k (({ ({ x with pe := false, ak := false } : Po) with st := a } : Po)) = mixL (fun j p => (stP t j p).1) (k + 1) L := (congrArg (fun p : Po × Bool => (mixL (fun j p => (stP t j p).1) k L).set k p.1) hst.symm).trans (mixL_set (f := fun j p => (stP t j p).1) HX.out)
              have hl := lostB_step (t := t) HX.out
              rw [hst] at hl
              have HLI : Hid (lostI t L (k + 1) = 1) := Lib.hid (by unfold lostI; rw [hl]; simp)
              have T9 := T5
              rw [q] at T9
              clear T5 q hst hl
              go_wp2
              go_roundw
              case rel => exact ⟨k + 1, by omega, by go_num, HLI.out.symm ▸ rfl, T9⟩
              case measure => simp [intOf]; omega
            · have hcb : (c == 1) = false := by simpa using hc1
              have hst : stP t k x = (({ ({ x with pe := false, ak := false } : Po) with st := a } : Po), decide (c = 1)) := by unfold stP; rw [if_neg HRP.out, if_neg (by rw [HDD.out]; decide)]; show blockP (owesP x) = _; rw [show owesP x = ({ x with pe := false, ak := false } : Po) from rfl, hr]
              have q : (mixL (fun j p => (stP t j p).1) k L).set k (({ ({ x with pe := false, ak := false } : Po) with st := a } : Po)) = mixL (fun j p => (stP t j p).1) (k + 1) L := (congrArg (fun p : Po × Bool => (mixL (fun j p => (stP t j p).1) k L).set k p.1) hst.symm).trans (mixL_set (f := fun j p => (stP t j p).1) HX.out)
              have hl := lostB_step (t := t) HX.out
              rw [hst] at hl
              have HLI : Hid (lostI t L (k + 1) = lostI t L k) := Lib.hid (by unfold lostI; rw [hl]; simp [hc1])
              have T9 := T5
              rw [q] at T9
              clear T5 q hst hl hc1
              go_wp2
              go_roundw
              case rel => exact ⟨k + 1, by omega, by go_num, HLI.out.symm ▸ rfl, T9⟩
              case measure => simp [intOf]; omega
    · have hki : ¬ (k : Int) < (n : Int) := by omega
      have hke : k = n := by omega
      subst hke
      rw [mixL_all (by rw [hL.out]; exact Nat.le_refl _)] at S
      go_upto_region 21 with fail
      clear c18
      have hx := S.hs.bk 1 rfl
      have hy := S.hs.bk 0 rfl
      go_wp2_with (first | (with_reducible refine wpList_load_row rfl 31 (.tmp 1) rfl X (by kernel_rfl) _ _ (0, 0) _ hx Tryz.underlying31 rfl (by kernel_rfl) ?_) | (refine wpList_store_row rfl 31 _ _ rfl Y _ rfl rfl _ _ hy (by kernel_rfl) (by kernel_rfl) (by kernel_rfl) ?_))
      exact bodyPost_ret (v := .tuple #[.agg (lT t D k cap').toArray, .int .i64 (lostI t L k)]) (results_two rfl _ _ Y _ _ _ _ rfl _ rfl (setRow_heap _ _ _ _ _ _ hy) Tryz.underlying31 rfl (by kernel_rfl)) rfl ⟨D, cap', rfl, HZ.out, (S.row 0 rfl (lT t D k cap')).nobox⟩

end Go.Proofs.YteplefdnnehdgaaGreatDoor
