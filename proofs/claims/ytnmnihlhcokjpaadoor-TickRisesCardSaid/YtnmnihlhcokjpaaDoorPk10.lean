/- Several texts in one, one behind the other: TickMainPure, TickTasks, SendDet, TickBridge. -/
import Derived.Test.YtnmnihlhcokjpaaDoorPk09
import Derived.Test.YtnmnihlhcokjpaaDoorPk07
import Derived.Test.YtnmnihlhcokjpaaDoorPk08
import Derived.Test.YtnmnihlhcokjpaaDoorPk06

/- The second of ports, timer by timer; places that ran out: no program. -/
namespace Go.Proofs.YtnmnihlhcokjpaaDoor
set_option maxRecDepth 100000
open Go.ChangeShapes Go.WideShapes Go.ChangeAt Go.RowKit
set_option linter.unusedVariables false
set_option linter.unusedSimpArgs false

def fD (t : Th) (p : Po) : Po := { p with yo := (firO p.yo p.yv t.n3).1.1, yv := (firO p.yo p.yv t.n3).1.2 }
def fA (t : Th) (p : Po) : Po := { p with ao := (firO p.ao p.av t.n1).1.1, av := (firO p.ao p.av t.n1).1.2 }
def fH (p : Po) : Po := { p with ho := (firO p.ho p.hv 256).1.1, hv := (firO p.ho p.hv 256).1.2 }
def ran1 (t : Th) (L : List Po) : List Po := allL (fun _ p => fD t p) L
def ran2 (t : Th) (L : List Po) : List Po := allL (fun _ p => fA t p) (ran1 t L)
def ran3 (t : Th) (L : List Po) : List Po := allL (fun _ p => fH p) (ran2 t L)
theorem ran3_is (t : Th) (L : List Po) : ran3 t L = L.map (tkP t) := by
  apply List.ext_getElem?
  intro j
  unfold ran3 ran2 ran1
  rw [allL_get, allL_get, allL_get, List.getElem?_map]
  cases L[j]? with
  | none => rfl
  | some p => rfl
theorem ran_len (t : Th) (L : List Po) : (ran1 t L).length = L.length ∧ (ran2 t L).length = L.length ∧ (ran3 t L).length = L.length := by
  unfold ran3 ran2 ran1
  simp [allL_len]
theorem ran_mem {f : Po → Po} {Q : Po → Prop} {L : List Po} (h : ∀ p ∈ L, Q (f p)) : ∀ p ∈ allL (fun _ p => f p) L, Q p := by
  intro y hy
  obtain ⟨j, hj, e⟩ := List.getElem_of_mem hy
  have h1 : (allL (fun _ p => f p) L)[j]? = some y := by rw [List.getElem?_eq_getElem hj, e]
  rw [allL_get] at h1
  cases hx : L[j]? with
  | none => rw [hx] at h1; cases h1
  | some x =>
    rw [hx] at h1
    obtain rfl := Option.some.inj h1
    exact h x (List.mem_of_getElem? hx)
theorem idx_map {f : Po → Bool} {g : Po → Po} (h : ∀ p, f (g p) = f p) (L : List Po) : ∀ k, idxF f (allL (fun _ p => g p) L) k = idxF f L k
  | 0 => rfl
  | k + 1 => by
    show idxF f (allL (fun _ p => g p) L) k ++ _ = idxF f L k ++ _
    rw [idx_map h L k, allL_get]
    cases L[k]? with
    | none => rfl
    | some p => simp only [Option.map_some, h]
theorem idx_age (t : Th) (L : List Po) (k : Nat) : idxF (agB t) (ran1 t L) k = idxF (agB t) L k := idx_map (g := fD t) (fun _ => rfl) L k
theorem idx_hold (t : Th) (L : List Po) (k : Nat) : idxF holB (ran2 t L) k = idxF holB L k := by
  unfold ran2
  rw [idx_map (g := fA t) (fun _ => rfl)]
  exact idx_map (g := fD t) (fun _ => rfl) L k
/-- One place behind the other. -/
def stK (f : Tk → Nat → Tk) (I : List Nat) (s : Tk) (k : Nat) : Tk := (I.take k).foldl f s
theorem stK_step {f : Tk → Nat → Tk} {I : List Nat} {s : Tk} {k i : Nat} (h : I[k]? = some i) : stK f I s (k + 1) = f (stK f I s k) i := by
  obtain ⟨hk, e⟩ := List.getElem?_eq_some_iff.1 h
  unfold stK
  rw [List.take_succ_eq_append_getElem hk, List.foldl_append, e]
  rfl
theorem stK_all (f : Tk → Nat → Tk) (fl : Po → Bool) (L : List Po) (s : Tk) : ∀ k, (idxF fl L k).foldl f s = foldS f (flagB fl L) k s
  | 0 => rfl
  | k + 1 => by
    show (idxF fl L k ++ _).foldl f s = _
    rw [List.foldl_append, stK_all f fl L s k]
    show List.foldl f (foldS f (flagB fl L) k s) _ = (if flagB fl L k = true then f (foldS f (flagB fl L) k s) k else foldS f (flagB fl L) k s)
    generalize foldS f (flagB fl L) k s = y
    unfold flagB
    cases L[k]? with
    | none => rfl
    | some p =>
      dsimp only
      by_cases hb : fl p = true
      · rw [if_pos hb, if_pos hb]
        rfl
      · rw [if_neg hb, if_neg hb]
        rfl
theorem stK_end {f : Tk → Nat → Tk} {fl : Po → Bool} {L : List Po} {s : Tk} {n k : Nat} (hk : k = (idxF fl L n).length) : stK f (idxF fl L n) s k = foldS f (flagB fl L) n s := by
  unfold stK
  rw [hk, List.take_length, stK_all]
theorem stK_keeps {f : Tk → Nat → Tk} {P : Tk → Prop} {I : List Nat} {s : Tk} (h0 : P s) (hf : ∀ s i, P s → P (f s i)) (k : Nat) : P (stK f I s k) := by
  unfold stK
  induction I.take k generalizing s with
  | nil => exact h0
  | cons i r ih => exact ih (hf s i h0)
/-- How much goes out. -/
def FewB (n m : Nat) (s : Tk) : Prop := s.2.length ≤ m ∧ s.1.2.length = n
theorem stK_few {f : Tk → Nat → Tk} {I : List Nat} {s : Tk} {n m : Nat} (h0 : FewB n m s) (hf : ∀ s i m, FewB n m s → FewB n (m + (n + 2)) (f s i)) : ∀ k, FewB n (m + k * (n + 2)) (stK f I s k) := by
  intro k
  unfold stK
  have key : ∀ (J : List Nat) (s : Tk) (m : Nat), FewB n m s → FewB n (m + J.length * (n + 2)) (J.foldl f s) := by
    intro J
    induction J with
    | nil => intro s m h; simpa using h
    | cons i r ih =>
      intro s m h
      have := ih (f s i) (m + (n + 2)) (hf s i m h)
      rw [List.length_cons, Nat.succ_mul]
      rw [show m + (r.length * (n + 2) + (n + 2)) = m + (n + 2) + r.length * (n + 2) by omega]
      exact this
  have h := key (I.take k) s m h0
  refine ⟨Nat.le_trans h.1 ?_, h.2⟩
  have : (I.take k).length ≤ k := by rw [List.length_take]; omega
  have := Nat.mul_le_mul_right (n + 2) this
  omega
theorem all_len (t : Th) (L : List Po) : ∀ k, (allR t L k).1.length = L.length ∧ (allR t L k).2.length ≤ k
  | 0 => ⟨rfl, Nat.le_refl _⟩
  | k + 1 => by
    have ih := all_len t L k
    show (allStep t (allR t L k) k).1.length = _ ∧ (allStep t (allR t L k) k).2.length ≤ _
    unfold allStep
    split
    · split
      · dsimp only
        rw [confR_len, List.length_append]
        have := confR_few t (allR t L k).1 k
        exact ⟨ih.1, by omega⟩
      · exact ⟨ih.1, by omega⟩
    · exact ⟨ih.1, by omega⟩
theorem few_delay {n m : Nat} {s : Tk} (h : FewB n m s) (i : Nat) : FewB n (m + (n + 2)) (delayS s i) := by
  obtain ⟨h1, h2⟩ := h
  unfold delayS FewB
  split
  · exact ⟨by omega, h2⟩
  · split
    · dsimp only
      have := det_few s.1.1 s.1.2.length
      rw [List.length_append, List.length_set]
      exact ⟨by omega, h2⟩
    · dsimp only
      rw [List.length_set]
      exact ⟨by omega, h2⟩
theorem few_age {n m : Nat} {s : Tk} (h : FewB n m s) (i : Nat) : FewB n (m + (n + 2)) (ageS s i) := by
  obtain ⟨h1, h2⟩ := h
  unfold ageS FewB
  split
  · exact ⟨by omega, h2⟩
  · rename_i p hp
    have h3 := settle_few s.1.1 (s.1.2.set i (becomeP s.1.1 p))
    have h4 : (settleR s.1.1 (s.1.2.set i (becomeP s.1.1 p))).1.2.length = n := settle_n (by rw [List.length_set]; exact h2)
    dsimp only
    split
    · unfold leadS
      dsimp only
      have h5 := all_len (leadT (settleR s.1.1 (s.1.2.set i (becomeP s.1.1 p))).1.1) (settleR s.1.1 (s.1.2.set i (becomeP s.1.1 p))).1.2 (settleR s.1.1 (s.1.2.set i (becomeP s.1.1 p))).1.2.length
      rw [List.length_append, List.length_append]
      exact ⟨by omega, by omega⟩
    · rw [List.length_append]
      exact ⟨by omega, h4⟩
theorem few_hold {n m : Nat} {s : Tk} (h : FewB n m s) (i : Nat) : FewB n (m + (n + 2)) (holdS s i) := by
  obtain ⟨h1, h2⟩ := h
  unfold holdS FewB
  split
  · exact ⟨by omega, h2⟩
  · split
    · dsimp only
      have := confR_few s.1.1 s.1.2 i
      rw [confR_len, List.length_append]
      exact ⟨by omega, h2⟩
    · exact ⟨by omega, h2⟩
theorem few_first {t : Th} {L : List Po} {n : Nat} (h : L.length = n) : FewB n (n + 1) (tick1 t L) := by
  have h0 : FewB n n (helloS (hellB t) (tkT t, L.map (tkP t))) := by
    unfold helloS FewB
    split
    · have := all_len (tkT t) (L.map (tkP t)) (L.map (tkP t)).length
      dsimp only
      rw [List.length_map] at *
      exact ⟨by omega, by omega⟩
    · dsimp only
      rw [List.length_map]
      exact ⟨Nat.zero_le _, h⟩
  unfold tick1 toldS tcnS
  obtain ⟨h1, h2⟩ := h0
  have h3 := tcn_few (helloS (hellB t) (tkT t, L.map (tkP t))).1.1 (helloS (hellB t) (tkT t, L.map (tkP t))).1.2.length
  split
  · split
    · refine ⟨?_, h2⟩
      dsimp only
      rw [List.length_append]
      omega
    · exact ⟨by dsimp only; omega, h2⟩
  · split
    · refine ⟨?_, h2⟩
      dsimp only
      rw [List.length_append]
      omega
    · exact ⟨by omega, h2⟩
/-- The second's states. -/
def ph1 (t : Th) (L : List Po) : Tk := foldS delayS (flagB (delB t) L) L.length (tick1 t L)
def ph2 (t : Th) (L : List Po) : Tk := foldS ageS (flagB (agB t) L) L.length (ph1 t L)
theorem fold_few1 {f : Tk → Nat → Tk} (fl : Po → Bool) (L : List Po) {s : Tk} {n m : Nat} (h0 : FewB n m s) (hL : L.length = n) (hf : ∀ s i m, FewB n m s → FewB n (m + (n + 2)) (f s i)) : FewB n (m + n * (n + 2)) (foldS f (flagB fl L) n s) := by
  rw [← stK_end (fl := fl) (L := L) (n := n) rfl]
  have h := stK_few (I := idxF fl L n) h0 hf (idxF fl L n).length
  refine ⟨Nat.le_trans h.1 ?_, h.2⟩
  have := Nat.mul_le_mul_right (n + 2) (idx_len fl L n)
  omega

end Go.Proofs.YtnmnihlhcokjpaaDoor

/- tasks: contract. -/
namespace Go.Proofs.YtnmnihlhcokjpaaDoor
set_option maxRecDepth 100000
open Go.ChangeShapes Go.WideShapes Go.ChangeAt Go.RowKit
set_option linter.unusedVariables false
set_option linter.unusedSimpArgs false

set_option maxHeartbeats 1000000 in
theorem tasks_is (n1 n2 n3 : Int) (w : World) : Calls Tryd.prog 22 #[.agg #[.int .i64 n1, .int .i64 n2, .int .i64 n3]] w fun e w' => ∃ gk, e = .returned (.slice (some ⟨gk, 0, none⟩) 3 3) ∧ Bk w' gk 67 (lK n1 n3) ∧ w.heap.size ≤ gk ∧ Below w.heap.size w w' := by
  obtain ⟨wb, hwb, S⟩ := hs_one w 26 [.int .i64 n1, .int .i64 n2, .int .i64 n3]
  go_enter Tryd.func22, Tryd.ntmps22
  go_upto_region 1 with fail
  clear hwb
  obtain ⟨X, hX⟩ : ∃ X, w.heap.size = X := ⟨_, rfl⟩
  rw [hX] at S ⊢
  have HX := Lib.hid hX
  clear hX
  refine wp_region_held_drew (S := (fun w' => Bk w' X 26 [.int .i64 n1, .int .i64 n2, .int .i64 n3])) (by kernel_rfl) ((S.1 0 _ _ _ rfl).1) (fun hHeld => ?_)
  have Sd := S.drew
  obtain ⟨vd, hvd⟩ : ∃ y, wb.drew = y := ⟨_, rfl⟩
  rw [hvd] at Sd hHeld ⊢
  clear hvd S
  refine wpAnyH_take (i := 0) (v := ?_) rfl (by kernel_rfl) (by kernel_rfl) (by kernel_rfl) (fun _ _ _ h => h) (Or.inl ⟨by kernel_rfl, ?_⟩) (by assumption) ?_
  rotate_left
  · intro w' hSw; (try dsimp only at hSw); go_simp; with_reducible rfl
  try simp only [Act.put, List.getElem_toArray, List.getElem_cons_succ, List.getElem_cons_zero, List.setIfInBounds_toArray, List.set_cons_succ, List.set_cons_zero]
  refine wpAnyH_take (i := 1) (v := ?_) rfl (by kernel_rfl) (by kernel_rfl) (by kernel_rfl) (fun _ _ _ h => h) (Or.inl ⟨by kernel_rfl, ?_⟩) (by assumption) ?_
  rotate_left
  · intro w' hSw; (try dsimp only at hSw); have c0 : w'.cell? ⟨X, 2, none⟩ = some (.int .i64 n3) := Bk.cell hSw 2; go_simp; with_reducible rfl
  try simp only [Act.put, List.getElem_toArray, List.getElem_cons_succ, List.getElem_cons_zero, List.setIfInBounds_toArray, List.set_cons_succ, List.set_cons_zero]
  refine wpAnyH_take (i := 2) (v := ?_) rfl (by kernel_rfl) (by kernel_rfl) (by kernel_rfl) (fun _ _ _ h => h) (Or.inl ⟨by kernel_rfl, ?_⟩) (by assumption) ?_
  rotate_left
  · intro w' hSw; (try dsimp only at hSw); go_simp; with_reducible rfl
  try simp only [Act.put, List.getElem_toArray, List.getElem_cons_succ, List.getElem_cons_zero, List.setIfInBounds_toArray, List.set_cons_succ, List.set_cons_zero]
  refine wpAnyH_take (i := 3) (v := ?_) rfl (by kernel_rfl) (by kernel_rfl) (by kernel_rfl) (fun _ _ _ h => h) (Or.inl ⟨by kernel_rfl, ?_⟩) (by assumption) ?_
  rotate_left
  · intro w' hSw; (try dsimp only at hSw); go_simp; with_reducible rfl
  try simp only [Act.put, List.getElem_toArray, List.getElem_cons_succ, List.getElem_cons_zero, List.setIfInBounds_toArray, List.set_cons_succ, List.set_cons_zero]
  refine wpAnyH_take (i := 4) (v := ?_) rfl (by kernel_rfl) (by kernel_rfl) (by kernel_rfl) (fun _ _ _ h => h) (Or.inl ⟨by kernel_rfl, ?_⟩) (by assumption) ?_
  rotate_left
  · intro w' hSw; (try dsimp only at hSw); have c0 : w'.cell? ⟨X, 0, none⟩ = some (.int .i64 n1) := Bk.cell hSw 0; go_simp; with_reducible rfl
  try simp only [Act.put, List.getElem_toArray, List.getElem_cons_succ, List.getElem_cons_zero, List.setIfInBounds_toArray, List.set_cons_succ, List.set_cons_zero]
  refine wpAnyH_take (i := 5) (v := ?_) rfl (by kernel_rfl) (by kernel_rfl) (by kernel_rfl) (fun _ _ _ h => h) (Or.inl ⟨by kernel_rfl, ?_⟩) (by assumption) ?_
  rotate_left
  · intro w' hSw; (try dsimp only at hSw); go_simp; with_reducible rfl
  try simp only [Act.put, List.getElem_toArray, List.getElem_cons_succ, List.getElem_cons_zero, List.setIfInBounds_toArray, List.set_cons_succ, List.set_cons_zero]
  refine wpAnyH_ready (rs := [6]) (by kernel_rfl) (by simp) ?_
  refine AllReadyH.cons rfl (fun K hK => ?_) AllReadyH.nil
  go_simp
  (with_reducible refine (limit_is _).mono ?_); rintro e w2 ⟨rfl, rfl⟩
  refine hK.out _ _ ((Sd.1 0 _ _ _ rfl).1) (fun hHeld => ?_)
  clear hK K
  try simp only [Act.put, List.getElem_toArray, List.getElem_cons_succ, List.getElem_cons_zero, List.setIfInBounds_toArray, List.set_cons_succ, List.set_cons_zero]
  refine wpAnyH_take (i := 7) (v := ?_) rfl (by kernel_rfl) (by kernel_rfl) (by kernel_rfl) (fun _ _ _ h => h) (Or.inl ⟨by kernel_rfl, ?_⟩) (by assumption) ?_
  rotate_left
  · intro w' hSw; (try dsimp only at hSw); go_simp; with_reducible rfl
  try simp only [Act.put, List.getElem_toArray, List.getElem_cons_succ, List.getElem_cons_zero, List.setIfInBounds_toArray, List.set_cons_succ, List.set_cons_zero]
  refine wpAnyH_ready (rs := [8]) (by kernel_rfl) (by simp) ?_
  refine AllReadyH.cons rfl (fun K hK => ?_) AllReadyH.nil
  go_simp
  have S2 := Sd.al rfl 67 (lK n1 n3)
  obtain ⟨gk, hgk⟩ : ∃ y, vd.heap.size = y := ⟨_, rfl⟩
  rw [hgk] at S2 ⊢
  refine hK.out _ _ ((S2.1 1 _ _ _ rfl).1) (fun hHeld => ?_)
  clear hK K
  try simp only [Act.put, List.getElem_toArray, List.getElem_cons_succ, List.getElem_cons_zero, List.setIfInBounds_toArray, List.set_cons_succ, List.set_cons_zero]
  refine wpAnyH_take (i := 9) (v := ?_) rfl (by kernel_rfl) (by kernel_rfl) (by kernel_rfl) (fun _ _ _ h => h) (Or.inl ⟨by kernel_rfl, ?_⟩) (by assumption) ?_
  rotate_left
  · intro w' hSw; (try dsimp only at hSw); go_simp; with_reducible rfl
  try simp only [Act.put, List.getElem_toArray, List.getElem_cons_succ, List.getElem_cons_zero, List.setIfInBounds_toArray, List.set_cons_succ, List.set_cons_zero]
  refine wpAnyH_done (by kernel_rfl) ?_ _
  go_wp2
  go_ret
  exact ⟨gk, rfl, (S2.1 0 _ _ _ rfl).1, (S2.1 0 _ _ _ rfl).2, HX.out ▸ S2.old⟩

end Go.Proofs.YtnmnihlhcokjpaaDoor

/- Tcn, Acked, Detect: contracts. -/
namespace Go.Proofs.YtnmnihlhcokjpaaDoor
set_option maxRecDepth 100000
open Go.ChangeShapes Go.WideShapes Go.ChangeAt Go.RowKit
set_option linter.unusedVariables false
set_option linter.unusedSimpArgs false

set_option maxHeartbeats 1000000 in
theorem stcn_is (t : Th) (A : Option Addr) (n cap : Nat) (ht : Hid (ThB t)) (w : World) (hd : Hd w) :
    Calls Tryd.prog 47 #[.agg (lT t A n cap).toArray] w (OutsEnd w (tcnR t n)) := by
  obtain ⟨R, hR⟩ : ∃ R, tcnR t n = R := ⟨_, rfl⟩
  rw [hR]
  have HR := Lib.hid hR
  clear hR
  have HD := Lib.hid hd
  clear hd
  have HOT : ∀ W, Hd W → Hid (Calls Tryd.prog 62 #[.agg (lT t A n cap).toArray, .int .i64 t.rp, .agg #[.bool true, .bool false, .bool false, .int .u64 0, .int .u32 0, .int .u64 0, .int .u16 0, .int .u16 0, .int .u16 0, .int .u16 0, .int .u16 0]] W (OutEnd W ⟨t.rp, t.ow % 281474976710656, tcnQ⟩)) := fun W h => Lib.hid (goes_is t A n cap t.rp tcnQ (by unfold BqIn BpIn tcnQ; decide) ht.out.1 W h)
  obtain ⟨q, hq⟩ : ∃ q, (decide (0 ≤ t.rp) && decide (t.rp < (n : Int))) = q := ⟨_, rfl⟩
  have HT := fun W => Lib.hid (there_is t A n cap t.rp q (Lib.hid hq) W)
  have HQ := Lib.hid hq
  clear hq
  obtain ⟨wb, hwb, S⟩ := hs_one w 31 (lT t A n cap)
  go_enter Tryd.func47, Tryd.ntmps47
  go_upto_region 1 with fail
  clear hwb
  obtain ⟨X, hX⟩ : ∃ X, w.heap.size = X := ⟨_, rfl⟩
  rw [hX] at S ⊢
  clear hX
  have hx := S.bk 0 rfl
  have c3 := S.cell 0 3 rfl rfl
  go_wp2_with (with_reducible refine wpList_load_row rfl 31 (.tmp 1) rfl X (by kernel_rfl) _ _ (0, 0) _ hx Tryd.underlying31 rfl (by kernel_rfl) ?_)
  (with_reducible refine (HT _).out.mono ?_); rintro e w1 ⟨rfl, b1⟩
  have S1 := S.below b1
  clear S hx c3 HT b1
  cases q with
  | false =>
    obtain rfl : [] = R := by
      rw [← HR.out, tcnR, if_neg]
      have h := HQ.out
      simp only [Bool.and_eq_false_iff, decide_eq_false_iff_not] at h
      omega
    go_wp2
    go_ret
    exact ⟨_, rfl, OutsR.nil _ _, S1.old⟩
  | true =>
    obtain rfl : [⟨t.rp, t.ow % 281474976710656, tcnQ⟩] = R := by
      rw [← HR.out, tcnR, if_pos]
      have h := HQ.out
      simp only [Bool.and_eq_true, decide_eq_true_eq] at h
      exact h
    have HO := HOT w1 (HD.out.below S1.old (Nat.le_refl _))
    have hx := S1.bk 0 rfl
    have c3 := S1.cell 0 3 rfl rfl
    clear HOT HD
    go_wp2_with (with_reducible refine wpList_load_row rfl 31 (.tmp 1) rfl X (by kernel_rfl) _ _ (0, 0) _ hx Tryd.underlying31 rfl (by kernel_rfl) ?_)
    (with_reducible refine HO.out.mono ?_); rintro e w2 ⟨g, c, rfl, hoc, b2⟩
    have hoc2 : OcAt w2 w.heap.size ⟨⟨t.rp, t.ow % 281474976710656, tcnQ⟩, g, c⟩ := ⟨Nat.le_trans S1.old.size hoc.1, hoc.2⟩
    have S2 := S1.below b2
    have hO := outs_one (w := w) S2.old.size hoc2
    have B3 := S2.old.trans ((new_below w2 (.cells (lO ⟨⟨t.rp, t.ow % 281474976710656, tcnQ⟩, g, c⟩).toArray 98)).mono S2.old.size)
    obtain ⟨oc, hoc0⟩ : ∃ q : Oc, (⟨⟨t.rp, t.ow % 281474976710656, tcnQ⟩, g, c⟩ : Oc) = q := ⟨_, rfl⟩
    rw [hoc0] at hO B3 ⊢
    have hlen := lO_len oc
    have hfold : List.foldl (fun (cs : Array Value) (x : Value × Nat) => cs.setIfInBounds x.snd x.fst) #[.int .i64 0, .int .u64 0, .int .u64 0, .int .u16 0, .slice none 0 0] (lO oc).zipIdx = (lO oc).toArray := rfl
    have HO := Lib.hid hO
    have HB3 := Lib.hid B3
    have HQ := Lib.hid hoc0
    clear hO B3 hoc hoc2 S1 S2 b2 hx c3 hoc0
    go_wp2
    go_ret
    refine ⟨_, rfl, ?_, HB3.out⟩
    have := HO.out
    rw [← HQ.out] at this ⊢
    exact this

set_option maxHeartbeats 2000000 in
theorem sdetect_is (t : Th) (A : Option Addr) (n cap : Nat) (L : List Po) (hL : Hid (L.length = n)) (hf : n ≤ 200) (ht : Hid (ThB t)) (hc : Hid (A = none → cap = 0)) (w : World) (hd : Hd w) (hp : Hid (PoAt w A w.heap.size L)) :
    Calls Tryd.prog 26 #[.agg (lT t A n cap).toArray] w (ConfEnd w (detT t) n (L, detO t n)) := by
  unfold ConfEnd
  obtain ⟨T, hT⟩ : ∃ T, detT t = T := ⟨_, rfl⟩
  obtain ⟨R, hR⟩ : ∃ R, detO t n = R := ⟨_, rfl⟩
  rw [hT, hR]
  have HT := Lib.hid hT
  have HR := Lib.hid hR
  clear hT hR
  have HD := Lib.hid hd
  clear hd
  obtain ⟨wb, hwb, S⟩ := hs_two w 31 31 (lT t A n cap) [.int .u64 0, .int .u64 0, .int .u32 0, .int .i64 0, .int .i64 0, .int .i64 0, .int .i64 0, .int .i64 0, .int .i64 0, .int .i64 0, .bool false, .bool false, .bool false, .int .i64 0, .bool false, .int .i64 0, .bool false, .int .i64 0, .slice none 0 0]
  go_enter Tryd.func26, Tryd.ntmps26
  go_upto_region 1 with fail
  clear hwb
  obtain ⟨X, hX⟩ : ∃ X, w.heap.size = X := ⟨_, rfl⟩
  rw [hX] at S
  obtain ⟨Y, hY⟩ : ∃ Y, X + 1 = Y := ⟨_, rfl⟩
  rw [hY] at S
  rw [hX]
  rw [hY]
  clear hX hY
  have hp1 := Lib.hid ((hp.out.below S.old (Nat.le_refl _)).wide S.old.size)
  have HC := Lib.hid (tcopy_is t A n cap L hL hf hc wb hp1)
  have hx := S.bk 1 rfl
  go_wp2_with (with_reducible refine wpList_load_row rfl 31 (.tmp 1) rfl X (by kernel_rfl) _ _ (0, 0) _ hx Tryd.underlying31 rfl (by kernel_rfl) ?_)
  (with_reducible refine HC.out.mono ?_); rintro e w1 ⟨D, cap', rfl, hz, k1⟩
  have S1 := TS.take S k1
  have HZ := Lib.hid hz
  clear S hx HC hp1 k1 hz
  have hx := S1.hs.bk 1 rfl
  go_upto_region 2 with (refine wpList_store_row rfl 31 _ _ rfl X _ rfl rfl _ _ hx (by kernel_rfl) (by kernel_rfl) (by kernel_rfl) ?_)
  have S2 : TS w [(Y, 31, [.int .u64 0, .int .u64 0, .int .u32 0, .int .i64 0, .int .i64 0, .int .i64 0, .int .i64 0, .int .i64 0, .int .i64 0, .int .i64 0, .bool false, .bool false, .bool false, .int .i64 0, .bool false, .int .i64 0, .bool false, .int .i64 0, .slice none 0 0]), (X, 31, lT t D n cap')] D L _ := S1.row 1 rfl (lT t D n cap')
  generalize w1.setRow X (lT t D n cap').toArray = w2 at S2 ⊢
  clear S1 hx
  obtain ⟨q, hq⟩ : ∃ q, decide (t.ro = t.ow) = q := ⟨_, rfl⟩
  have HI := fun W => Lib.hid (isroot_is t D n cap' q (Lib.hid hq) W)
  have HQ := Lib.hid hq
  clear hq
  have hx := S2.hs.bk 1 rfl
  go_wp2_with (with_reducible refine wpList_load_row rfl 31 (.tmp 1) rfl X (by kernel_rfl) _ _ (0, 0) _ hx Tryd.underlying31 rfl (by kernel_rfl) ?_)
  (with_reducible refine (HI _).out.mono ?_); rintro e w3 ⟨rfl, b3⟩
  have S3 := S2.below b3
  clear S2 hx HI b3
  cases q with
  | true =>
    have hro := of_decide_eq_true HQ.out
    obtain rfl : ({ t with de := true, ch := true, zo := true, zv := 0 } : Th) = T := by rw [← HT.out, detT, if_pos hro]
    obtain rfl : [] = R := by rw [← HR.out, detO, if_pos hro]
    clear hro
    have ca := S3.hs.cell 1 10 rfl rfl
    have cb := S3.hs.cell 1 11 rfl rfl
    have fa := S3.hs.thaw 1 10 rfl
    have fb := S3.hs.thaw 1 11 rfl
    go_upto_region 4 with fail
    have S4 : TS w [(Y, 31, [.int .u64 0, .int .u64 0, .int .u32 0, .int .i64 0, .int .i64 0, .int .i64 0, .int .i64 0, .int .i64 0, .int .i64 0, .int .i64 0, .bool false, .bool false, .bool false, .int .i64 0, .bool false, .int .i64 0, .bool false, .int .i64 0, .slice none 0 0]), (X, 31, lT { t with de := true, ch := true } D n cap')] D L ((w3.setCell ⟨X, 10, none⟩ (.bool true)).setCell ⟨X, 11, none⟩ (.bool true)) := (S3.set 1 rfl 10 (.bool true)).set 1 rfl 11 (.bool true)
    generalize (w3.setCell ⟨X, 10, none⟩ (.bool true)).setCell ⟨X, 11, none⟩ (.bool true) = w4 at S4 ⊢
    clear S3 ca cb fa fb
    go_wp2_with fail
    (with_reducible refine (start0 _).mono ?_); rintro e w5 ⟨rfl, b5⟩
    have S5 := S4.below b5
    clear S4 b5
    have ca := S5.hs.cell 1 16 rfl rfl
    have cb := S5.hs.cell 1 17 rfl rfl
    have fa := S5.hs.thaw 1 16 rfl
    have fb := S5.hs.thaw 1 17 rfl
    go_upto_region 9 with fail
    have S6 : TS w [(Y, 31, [.int .u64 0, .int .u64 0, .int .u32 0, .int .i64 0, .int .i64 0, .int .i64 0, .int .i64 0, .int .i64 0, .int .i64 0, .int .i64 0, .bool false, .bool false, .bool false, .int .i64 0, .bool false, .int .i64 0, .bool false, .int .i64 0, .slice none 0 0]), (X, 31, lT { t with de := true, ch := true, zo := true, zv := 0 } D n cap')] D L ((w5.setCell ⟨X, 16, none⟩ (.bool true)).setCell ⟨X, 17, none⟩ (.int .i64 0)) := (S5.set 1 rfl 16 (.bool true)).set 1 rfl 17 (.int .i64 0)
    generalize (w5.setCell ⟨X, 16, none⟩ (.bool true)).setCell ⟨X, 17, none⟩ (.int .i64 0) = w6 at S6 ⊢
    clear S5 ca cb fa fb
    have hx := S6.hs.bk 1 rfl
    have hy := S6.hs.bk 0 rfl
    go_wp2_with (first | (with_reducible refine wpList_load_row rfl 31 (.tmp 1) rfl X (by kernel_rfl) _ _ (0, 0) _ hx Tryd.underlying31 rfl (by kernel_rfl) ?_) | (refine wpList_store_row rfl 31 _ _ rfl Y _ rfl rfl _ _ hy (by kernel_rfl) (by kernel_rfl) (by kernel_rfl) ?_))
    exact bodyPost_ret (v := .tuple #[.agg (lT { t with de := true, ch := true, zo := true, zv := 0 } D n cap').toArray, .slice none 0 0]) (results_two rfl _ _ Y _ _ _ _ rfl _ rfl (setRow_heap _ _ _ _ _ _ hy) Tryd.underlying31 rfl (by kernel_rfl)) rfl ⟨D, cap', _, rfl, HZ.out, (S6.row 0 rfl (lT { t with de := true, ch := true, zo := true, zv := 0 } D n cap')).nobox, OutsR.nil _ _⟩
  | false =>
    have hro : ¬ t.ro = t.ow := of_decide_eq_false HQ.out
    obtain ⟨d, hd⟩ : ∃ d, t.de = d := ⟨_, rfl⟩
    have c10 := S3.hs.cell 1 10 rfl rfl
    cases d with
    | true =>
      obtain rfl : t = T := by rw [← HT.out, detT, if_neg hro, if_pos hd]
      obtain rfl : [] = R := by rw [← HR.out, detO, if_neg hro, if_pos hd]
      rw [hd] at c10
      clear hro hd
      have hx := S3.hs.bk 1 rfl
      have hy := S3.hs.bk 0 rfl
      go_wp2_with (first | (with_reducible refine wpList_load_row rfl 31 (.tmp 1) rfl X (by kernel_rfl) _ _ (0, 0) _ hx Tryd.underlying31 rfl (by kernel_rfl) ?_) | (refine wpList_store_row rfl 31 _ _ rfl Y _ rfl rfl _ _ hy (by kernel_rfl) (by kernel_rfl) (by kernel_rfl) ?_))
      exact bodyPost_ret (v := .tuple #[.agg (lT t D n cap').toArray, .slice none 0 0]) (results_two rfl _ _ Y _ _ _ _ rfl _ rfl (setRow_heap _ _ _ _ _ _ hy) Tryd.underlying31 rfl (by kernel_rfl)) rfl ⟨D, cap', _, rfl, HZ.out, (S3.row 0 rfl (lT t D n cap')).nobox, OutsR.nil _ _⟩
    | false =>
      obtain rfl : ({ t with de := true, xo := true, xv := 0 } : Th) = T := by rw [← HT.out, detT, if_neg hro, if_neg (by rw [hd]; decide)]
      obtain rfl : tcnR t n = R := by rw [← HR.out, detO, if_neg hro, if_neg (by rw [hd]; decide)]
      rw [hd] at c10
      clear hro hd
      go_upto_region 6 with fail
      clear c10
      have ca := S3.hs.cell 1 10 rfl rfl
      have fa := S3.hs.thaw 1 10 rfl
      go_upto_region 7 with fail
      have S4 : TS w [(Y, 31, [.int .u64 0, .int .u64 0, .int .u32 0, .int .i64 0, .int .i64 0, .int .i64 0, .int .i64 0, .int .i64 0, .int .i64 0, .int .i64 0, .bool false, .bool false, .bool false, .int .i64 0, .bool false, .int .i64 0, .bool false, .int .i64 0, .slice none 0 0]), (X, 31, lT { t with de := true } D n cap')] D L (w3.setCell ⟨X, 10, none⟩ (.bool true)) := S3.set 1 rfl 10 (.bool true)
      generalize w3.setCell ⟨X, 10, none⟩ (.bool true) = w4 at S4 ⊢
      clear S3 ca fa
      go_wp2_with fail
      (with_reducible refine (start0 _).mono ?_); rintro e w5 ⟨rfl, b5⟩
      have S5 := S4.below b5
      clear S4 b5
      have ca := S5.hs.cell 1 14 rfl rfl
      have cb := S5.hs.cell 1 15 rfl rfl
      have fa := S5.hs.thaw 1 14 rfl
      have fb := S5.hs.thaw 1 15 rfl
      go_upto_region 8 with fail
      have S6 : TS w [(Y, 31, [.int .u64 0, .int .u64 0, .int .u32 0, .int .i64 0, .int .i64 0, .int .i64 0, .int .i64 0, .int .i64 0, .int .i64 0, .int .i64 0, .bool false, .bool false, .bool false, .int .i64 0, .bool false, .int .i64 0, .bool false, .int .i64 0, .slice none 0 0]), (X, 31, lT { t with de := true, xo := true, xv := 0 } D n cap')] D L ((w5.setCell ⟨X, 14, none⟩ (.bool true)).setCell ⟨X, 15, none⟩ (.int .i64 0)) := (S5.set 1 rfl 14 (.bool true)).set 1 rfl 15 (.int .i64 0)
      generalize (w5.setCell ⟨X, 14, none⟩ (.bool true)).setCell ⟨X, 15, none⟩ (.int .i64 0) = w6 at S6 ⊢
      clear S5 ca cb fa fb
      have HTC := fun W h => Lib.hid (stcn_is { t with de := true, xo := true, xv := 0 } D n cap' (Lib.hid (show ThB { t with de := true, xo := true, xv := 0 } from ht.out)) W h)
      refine wp_region_held_drew (S := (fun w' => Bk w' X 31 (lT { t with de := true, xo := true, xv := 0 } D n cap'))) (by kernel_rfl) ((S6.hs.1 1 _ _ _ rfl).1) (fun hHeld => ?_)
      have S7 := S6.below (wy := World.drew _) ((Below.refl _ _).drew)
      obtain ⟨v7, hv7⟩ : ∃ v, w6.drew = v := ⟨_, rfl⟩
      rw [hv7] at S7 hHeld ⊢
      clear hv7 S6
      refine wpAnyH_take (i := 0) (v := _) rfl (by kernel_rfl) (by kernel_rfl) (by kernel_rfl) (fun _ _ _ h => h) (Or.inl ⟨by kernel_rfl, fun w' hSw => exec_load_row 31 _ rfl X (by kernel_rfl) _ _ (0, 0) _ (hSw) Tryd.underlying31 rfl (by kernel_rfl)⟩) (by assumption) ?_
      try simp only [Act.put, List.getElem_toArray, List.getElem_cons_succ, List.getElem_cons_zero, List.setIfInBounds_toArray, List.set_cons_succ, List.set_cons_zero]
      refine wpAnyH_take (i := 1) (v := _) rfl (by kernel_rfl) (by kernel_rfl) (by kernel_rfl) (fun _ _ _ h => h) (Or.inl ⟨by kernel_rfl, fun w' hSw => exec_load_row 31 _ rfl X (by kernel_rfl) _ _ (0, 0) _ (hSw) Tryd.underlying31 rfl (by kernel_rfl)⟩) (by assumption) ?_
      try simp only [Act.put, List.getElem_toArray, List.getElem_cons_succ, List.getElem_cons_zero, List.setIfInBounds_toArray, List.set_cons_succ, List.set_cons_zero]
      refine wpAnyH_ready (rs := [2]) (by kernel_rfl) (by simp) ?_
      refine AllReadyH.cons rfl (fun K hK => ?_) AllReadyH.nil
      go_simp
      (with_reducible refine (HTC _ (HD.out.below S7.old (Nat.le_refl _))).out.mono ?_); rintro e w8 ⟨v, rfl, hO, b8⟩
      have S8 := S7.below b8
      refine hK.out _ _ ((S8.hs.1 1 _ _ _ rfl).1) (fun hHeld => ?_)
      clear hK K
      try simp only [Act.put, List.getElem_toArray, List.getElem_cons_succ, List.getElem_cons_zero, List.setIfInBounds_toArray, List.set_cons_succ, List.set_cons_zero]
      have hy := S8.hs.bk 0 rfl
      refine wpAnyH_ready (rs := [3]) (by kernel_rfl) (by simp) ?_
      refine AllReadyH.cons rfl (fun K hK => ?_) AllReadyH.nil
      refine exec_if_store (by kernel_rfl) 31 (.tmp 2) (.tmp 20) rfl Y (lT { t with de := true, xo := true, xv := 0 } D n cap').toArray (by kernel_rfl) (by kernel_rfl) _ _ hy (by kernel_rfl) (by kernel_rfl) (by kernel_rfl) ?_
      have S9 := S8.row 0 rfl (lT { t with de := true, xo := true, xv := 0 } D n cap')
      refine hK.out _ _ ((S9.hs.1 1 _ _ _ rfl).1) (fun hHeld => ?_)
      clear hK K
      try simp only [Act.put, List.getElem_toArray, List.getElem_cons_succ, List.getElem_cons_zero, List.setIfInBounds_toArray, List.set_cons_succ, List.set_cons_zero]
      refine wpAnyH_take (i := 4) (v := ?_) rfl (by kernel_rfl) (by kernel_rfl) (by kernel_rfl) (fun _ _ _ h => h) (Or.inl ⟨by kernel_rfl, ?_⟩) (by assumption) ?_
      rotate_left
      · intro w' hSw; (try dsimp only at hSw); go_simp; with_reducible rfl
      try simp only [Act.put, List.getElem_toArray, List.getElem_cons_succ, List.getElem_cons_zero, List.setIfInBounds_toArray, List.set_cons_succ, List.set_cons_zero]
      refine wpAnyH_done (by kernel_rfl) ?_ _
      have hYw : Y < v7.heap.size := S7.hs.lt 0 rfl
      have hOF := (hO.heap (w' := w8.setRow Y (lT { t with de := true, xo := true, xv := 0 } D n cap').toArray) (fun k hk => setRow_other w8 Y k _ (by omega))).mono S7.old.size
      have hyF := setRow_heap w8 Y _ (lT { t with de := true, xo := true, xv := 0 } D n cap').toArray _ _ hy
      go_wp2
      exact bodyPost_ret (v := .tuple #[.agg (lT { t with de := true, xo := true, xv := 0 } D n cap').toArray, v]) (results_two rfl _ _ Y _ _ _ _ rfl _ rfl hyF Tryd.underlying31 rfl (by kernel_rfl)) rfl ⟨D, cap', v, rfl, HZ.out, S9.nobox, hOF⟩

end Go.Proofs.YtnmnihlhcokjpaaDoor

/- ofBridge: contract. -/
namespace Go.Proofs.YtnmnihlhcokjpaaDoor
set_option maxRecDepth 100000
open Go.ChangeShapes Go.WideShapes Go.ChangeAt Go.RowKit
set_option linter.unusedVariables false
set_option linter.unusedSimpArgs false

/-- The bridge's own timers, one behind the other. -/
def tkA (t : Th) : Th := { t with ho := (firO t.ho t.hv t.n2).1.1, hv := (firO t.ho t.hv t.n2).1.2 }
def tkC (t : Th) : Th := { tkA t with xo := (firO t.xo t.xv t.m2).1.1, xv := (firO t.xo t.xv t.m2).1.2 }
/-- What is due by them. -/
def bridgeR (t : Th) (M : List Po) : Tk := toldS (toldB t) (tcnS (tcnB' t) (helloS (hellB t) (tkT t, M)))
theorem box_out {X Y : Nat} {cs ds : List Value} {l : List (Nat × TypeId × List Value)} (h : ∀ y ∈ l, 98 ≠ y.2.1) : ∀ y ∈ (Y, 31, ds) :: (X, 31, cs) :: l, 98 ≠ y.2.1 := fun y hy => by
  rcases List.mem_cons.1 hy with rfl | q
  · dsimp only; decide
  · rcases List.mem_cons.1 q with rfl | q
    · dsimp only; decide
    · exact h y q
theorem tick1_is (t : Th) (L : List Po) : tick1 t L = bridgeR t (L.map (tkP t)) := rfl
set_option maxHeartbeats 4000000 in
theorem bridge_is {w W : World} {l : List (Nat × TypeId × List Value)} (t : Th) (D : Option Addr) (n c : Nat) (L : List Po) (hT : Hid (TkF t)) (hM : Hid (ThTm t)) (hl : Hid (∀ y ∈ l, 98 ≠ y.2.1)) (hL : Hid (L.length = n)) (hf : n ≤ 200) (ht : Hid (ThB t)) (hn : Hid (-9223372036854775808 ≤ t.n1 ∧ t.n1 ≤ 9223372036854775807 ∧ -9223372036854775808 ≤ t.n2 ∧ t.n2 ≤ 9223372036854775807 ∧ -9223372036854775808 ≤ t.n3 ∧ t.n3 ≤ 9223372036854775807)) (hb : Hid (∀ x ∈ L, PoB x)) (hc : Hid (D = none → c = 0)) (hd : Hd w) (hS : TS w l D L W) :
    Calls Tryd.prog 24 #[.agg (lT t D n c).toArray] W (StepEnd w l n W (bridgeR t L)) := by
  have HFT := Lib.hid hT.out
  obtain ⟨tm1, tm2, tm3⟩ := hM.out
  have HTM1 := Lib.hid tm1
  have HTM2 := Lib.hid tm2
  have HTM3 := Lib.hid tm3
  clear tm1 tm2 tm3
  obtain ⟨R, hR⟩ : ∃ R, bridgeR t L = R := ⟨_, rfl⟩
  rw [hR]
  have HR := Lib.hid hR
  clear hR
  obtain ⟨q1, hq1⟩ : ∃ q, hellB t = q := ⟨_, rfl⟩
  obtain ⟨q2, hq2⟩ : ∃ q, tcnB' t = q := ⟨_, rfl⟩
  obtain ⟨q3, hq3⟩ : ∃ q, toldB t = q := ⟨_, rfl⟩
  have HQ1 := Lib.hid hq1
  have HQ2 := Lib.hid hq2
  have HQ3 := Lib.hid hq3
  clear hq1 hq2 hq3
  have HD := Lib.hid hd
  clear hd
  obtain ⟨wb, hwb, S⟩ := TF.two hS 31 31 (lT t D n c) [.int .u64 0, .int .u64 0, .int .u32 0, .int .i64 0, .int .i64 0, .int .i64 0, .int .i64 0, .int .i64 0, .int .i64 0, .int .i64 0, .bool false, .bool false, .bool false, .int .i64 0, .bool false, .int .i64 0, .bool false, .int .i64 0, .slice none 0 0]
  have HSW := Lib.hid hS.old
  clear hS
  go_enter Tryd.func24, Tryd.ntmps24
  go_upto_region 1 with fail
  clear hwb
  obtain ⟨X, hX⟩ : ∃ q, W.heap.size = q := ⟨_, rfl⟩
  have HXW := Lib.hid (show W.heap.size ≤ X from Nat.le_of_eq hX)
  rw [hX] at S
  obtain ⟨Y, hY⟩ : ∃ q, X + 1 = q := ⟨_, rfl⟩
  have HYW := Lib.hid (show W.heap.size ≤ Y by rw [← hY]; exact Nat.le_succ_of_le HXW.out)
  rw [hY] at S
  rw [hX]
  rw [hY]
  clear hX hY
  have k5 := S.hs.cell 1 5 rfl rfl
  have HF := Lib.hid (fires_is X 12 t.ho t.hv t.n2 HTM1.out.1 HTM1.out.2.1 (by have := HFT.out; unfold TkF at this; omega) (by have := HFT.out; unfold TkF at this; omega) wb (S.hs.lt 1 rfl) (Lib.hid (S.hs.cell 1 12 rfl rfl)) (Lib.hid (S.hs.cell 1 13 rfl rfl)) (Lib.hid (S.hs.thaw 1 12 rfl)) (Lib.hid (S.hs.thaw 1 13 rfl)))
  go_wp2_with fail
  (with_reducible refine HF.out.mono ?_); rintro e w10 ⟨rfl, wm, bm, rfl⟩
  have Sm := S.below bm
  have Sr : TF w ((Y, 31, [.int .u64 0, .int .u64 0, .int .u32 0, .int .i64 0, .int .i64 0, .int .i64 0, .int .i64 0, .int .i64 0, .int .i64 0, .int .i64 0, .bool false, .bool false, .bool false, .int .i64 0, .bool false, .int .i64 0, .bool false, .int .i64 0, .slice none 0 0]) :: (X, 31, lT (tkA t) D n c) :: l) D L W ((wm.setCell ⟨X, 12, none⟩ (.bool (firO t.ho t.hv t.n2).1.1)).setCell ⟨X, 13, none⟩ (.int .i64 (firO t.ho t.hv t.n2).1.2)) := ((Sm).set 1 rfl 12 (.bool (firO t.ho t.hv t.n2).1.1) HXW.out).set 1 rfl 13 (.int .i64 (firO t.ho t.hv t.n2).1.2) HXW.out
  have e : ((firO t.ho t.hv t.n2)).2 = q1 := HQ1.out
  rw [e]
  clear e
  obtain ⟨w1, hw⟩ : ∃ y, wm.setCells X 12 [.bool (firO t.ho t.hv t.n2).1.1, .int .i64 (firO t.ho t.hv t.n2).1.2] = y := ⟨_, rfl⟩
  rw [hw]
  have S1 : TF w ((Y, 31, [.int .u64 0, .int .u64 0, .int .u32 0, .int .i64 0, .int .i64 0, .int .i64 0, .int .i64 0, .int .i64 0, .int .i64 0, .int .i64 0, .bool false, .bool false, .bool false, .int .i64 0, .bool false, .int .i64 0, .bool false, .int .i64 0, .slice none 0 0]) :: (X, 31, lT (tkA t) D n c) :: l) D L W w1 := by rw [← hw]; exact Sr
  clear hw Sr Sm bm HF S
  clear k5
  have k8 : w1.cell? ⟨X, 8, none⟩ = some (.int .i64 t.m2) := S1.hs.cell 1 8 rfl rfl
  have HF := Lib.hid (fires_is X 14 t.xo t.xv t.m2 HTM2.out.1 HTM2.out.2.1 (by have := HFT.out; unfold TkF at this; omega) (by have := HFT.out; unfold TkF at this; omega) w1 (S1.hs.lt 1 rfl) (Lib.hid (S1.hs.cell 1 14 rfl rfl)) (Lib.hid (S1.hs.cell 1 15 rfl rfl)) (Lib.hid (S1.hs.thaw 1 14 rfl)) (Lib.hid (S1.hs.thaw 1 15 rfl)))
  go_wp2_with fail
  (with_reducible refine HF.out.mono ?_); rintro e w20 ⟨rfl, wm, bm, rfl⟩
  have Sm := S1.below bm
  have Sr : TF w ((Y, 31, [.int .u64 0, .int .u64 0, .int .u32 0, .int .i64 0, .int .i64 0, .int .i64 0, .int .i64 0, .int .i64 0, .int .i64 0, .int .i64 0, .bool false, .bool false, .bool false, .int .i64 0, .bool false, .int .i64 0, .bool false, .int .i64 0, .slice none 0 0]) :: (X, 31, lT (tkC t) D n c) :: l) D L W ((wm.setCell ⟨X, 14, none⟩ (.bool (firO t.xo t.xv t.m2).1.1)).setCell ⟨X, 15, none⟩ (.int .i64 (firO t.xo t.xv t.m2).1.2)) := ((Sm).set 1 rfl 14 (.bool (firO t.xo t.xv t.m2).1.1) HXW.out).set 1 rfl 15 (.int .i64 (firO t.xo t.xv t.m2).1.2) HXW.out
  have e : ((firO t.xo t.xv t.m2)).2 = q2 := HQ2.out
  rw [e]
  clear e
  obtain ⟨w2, hw⟩ : ∃ y, wm.setCells X 14 [.bool (firO t.xo t.xv t.m2).1.1, .int .i64 (firO t.xo t.xv t.m2).1.2] = y := ⟨_, rfl⟩
  rw [hw]
  have S2 : TF w ((Y, 31, [.int .u64 0, .int .u64 0, .int .u32 0, .int .i64 0, .int .i64 0, .int .i64 0, .int .i64 0, .int .i64 0, .int .i64 0, .int .i64 0, .bool false, .bool false, .bool false, .int .i64 0, .bool false, .int .i64 0, .bool false, .int .i64 0, .slice none 0 0]) :: (X, 31, lT (tkC t) D n c) :: l) D L W w2 := by rw [← hw]; exact Sr
  clear hw Sr Sm bm HF S1
  clear k8
  have k7 : w2.cell? ⟨X, 7, none⟩ = some (.int .i64 t.m1) := S2.hs.cell 1 7 rfl rfl
  have k9 : w2.cell? ⟨X, 9, none⟩ = some (.int .i64 t.m3) := S2.hs.cell 1 9 rfl rfl
  have HSU := fun W => Lib.hid (sum_is t.m1 t.m3 (by have := HFT.out; unfold TkF at this; omega) (by have := HFT.out; unfold TkF at this; omega) W)
  have HF := Lib.hid (fires_is X 16 t.zo t.zv (t.m1 + t.m3) HTM3.out.1 HTM3.out.2.1 (by have := HFT.out; unfold TkF at this; omega) (by have := HFT.out; unfold TkF at this; omega) w2 (S2.hs.lt 1 rfl) (Lib.hid (S2.hs.cell 1 16 rfl rfl)) (Lib.hid (S2.hs.cell 1 17 rfl rfl)) (Lib.hid (S2.hs.thaw 1 16 rfl)) (Lib.hid (S2.hs.thaw 1 17 rfl)))
  go_wp2_with fail
  (with_reducible refine (HSU _).out.mono ?_); rintro e w3z ⟨rfl, rfl⟩
  go_wp2_with fail
  (with_reducible refine HF.out.mono ?_); rintro e w30 ⟨rfl, wm, bm, rfl⟩
  have Sm := S2.below bm
  have Sr : TF w ((Y, 31, [.int .u64 0, .int .u64 0, .int .u32 0, .int .i64 0, .int .i64 0, .int .i64 0, .int .i64 0, .int .i64 0, .int .i64 0, .int .i64 0, .bool false, .bool false, .bool false, .int .i64 0, .bool false, .int .i64 0, .bool false, .int .i64 0, .slice none 0 0]) :: (X, 31, lT (tkT t) D n c) :: l) D L W ((wm.setCell ⟨X, 16, none⟩ (.bool (firO t.zo t.zv (t.m1 + t.m3)).1.1)).setCell ⟨X, 17, none⟩ (.int .i64 (firO t.zo t.zv (t.m1 + t.m3)).1.2)) := ((Sm).set 1 rfl 16 (.bool (firO t.zo t.zv (t.m1 + t.m3)).1.1) HXW.out).set 1 rfl 17 (.int .i64 (firO t.zo t.zv (t.m1 + t.m3)).1.2) HXW.out
  have e : ((firO t.zo t.zv (t.m1 + t.m3))).2 = q3 := HQ3.out
  rw [e]
  clear e
  obtain ⟨w3, hw⟩ : ∃ y, wm.setCells X 16 [.bool (firO t.zo t.zv (t.m1 + t.m3)).1.1, .int .i64 (firO t.zo t.zv (t.m1 + t.m3)).1.2] = y := ⟨_, rfl⟩
  rw [hw]
  have S3 : TF w ((Y, 31, [.int .u64 0, .int .u64 0, .int .u32 0, .int .i64 0, .int .i64 0, .int .i64 0, .int .i64 0, .int .i64 0, .int .i64 0, .int .i64 0, .bool false, .bool false, .bool false, .int .i64 0, .bool false, .int .i64 0, .bool false, .int .i64 0, .slice none 0 0]) :: (X, 31, lT (tkT t) D n c) :: l) D L W w3 := by rw [← hw]; exact Sr
  clear hw Sr Sm bm HF S2
  clear k7 k9 HSU HTM1 HTM2 HTM3
  have HTB := Lib.hid (show ThB (tkT t) from ht.out)
  have HNB := Lib.hid (show (-9223372036854775808 ≤ (tkT t).n1 ∧ (tkT t).n1 ≤ 9223372036854775807 ∧ -9223372036854775808 ≤ (tkT t).n2 ∧ (tkT t).n2 ≤ 9223372036854775807 ∧ -9223372036854775808 ≤ (tkT t).n3 ∧ (tkT t).n3 ≤ 9223372036854775807) from hn.out)
  go_upto_if 27 with fail
  go_cut [7] (fun q wx => ∃ D1 c1, (D1 = none → c1 = 0) ∧ TF w ((Y, 31, [.int .u64 0, .int .u64 0, .int .u32 0, .int .i64 0, .int .i64 0, .int .i64 0, .int .i64 0, .int .i64 0, .int .i64 0, .int .i64 0, .bool false, .bool false, .bool false, .int .i64 0, .bool false, .int .i64 0, .bool false, .int .i64 0, .slice none 0 0]) :: (X, 31, lT (helloS q1 (tkT t, L)).1.1 D1 n c1) :: l) D1 (helloS q1 (tkT t, L)).1.2 W wx ∧ OutsR wx W.heap.size q (helloS q1 (tkT t, L)).2)
  case first =>
    cases q1 with
    | false =>
      go_wp2_with fail
      go_meet
      exact ⟨D, c, hc.out, S3, OutsR.nil _ _⟩
    | true =>
      have HC := Lib.hid (sall_ts (tkT t) D n c L hL hf HTB HNB hb hc w3 (HD.out.below S3.old (Nat.le_refl _)) (Lib.hid S3.ts.ports))
      rw [show n = L.length from hL.out.symm] at HC
      obtain ⟨A1, hA1⟩ : ∃ q, allR (tkT t) L L.length = q := ⟨_, rfl⟩
      rw [hA1] at HC
      rw [show L.length = n from hL.out] at HC
      have HA1 := Lib.hid hA1
      clear hA1
      have hx := S3.hs.bk 1 rfl
      go_wp2_with (with_reducible refine wpList_load_row rfl 31 (.tmp 1) rfl X (by kernel_rfl) _ _ (0, 0) _ hx Tryd.underlying31 rfl (by kernel_rfl) ?_)
      (with_reducible refine HC.out.mono ?_); rintro e w4 ⟨D2, c2, v3, rfl, hz2, k4, hQ⟩
      have S4 := S3.take k4
      have hO4 := hQ.mono S3.since
      have HZ2 := Lib.hid hz2
      clear S3 hx HC k4 hz2 hQ
      have hx := S4.hs.bk 1 rfl
      go_upto_region 7 with (refine wpList_store_row rfl 31 _ _ rfl X _ rfl rfl _ _ hx (by kernel_rfl) (by kernel_rfl) (by kernel_rfl) ?_)
      have S5 : TF w ((Y, 31, [.int .u64 0, .int .u64 0, .int .u32 0, .int .i64 0, .int .i64 0, .int .i64 0, .int .i64 0, .int .i64 0, .int .i64 0, .int .i64 0, .bool false, .bool false, .bool false, .int .i64 0, .bool false, .int .i64 0, .bool false, .int .i64 0, .slice none 0 0]) :: (X, 31, lT (tkT t) D2 n c2) :: l) D2 A1.1 W _ := S4.row 1 rfl (lT (tkT t) D2 n c2) HXW.out
      have hO5 := hO4.store S4.hs 1 rfl (lT (tkT t) D2 n c2).toArray
      generalize w4.setRow X (lT (tkT t) D2 n c2).toArray = w5 at S5 hO5 ⊢
      clear S4 hO4 hx
      go_wp2_with fail
      (with_reducible refine (start0 _).mono ?_); rintro e w6 ⟨rfl, b6⟩
      have S6 := S5.below b6
      have hO6 := hO5.below b6
      clear S5 hO5 b6
      have c12 := S6.hs.cell 1 12 rfl rfl
      have f12 := S6.hs.thaw 1 12 rfl
      have c13 := S6.hs.cell 1 13 rfl rfl
      have f13 := S6.hs.thaw 1 13 rfl
      go_wp2_with fail
      have S7 : TF w ((Y, 31, [.int .u64 0, .int .u64 0, .int .u32 0, .int .i64 0, .int .i64 0, .int .i64 0, .int .i64 0, .int .i64 0, .int .i64 0, .int .i64 0, .bool false, .bool false, .bool false, .int .i64 0, .bool false, .int .i64 0, .bool false, .int .i64 0, .slice none 0 0]) :: (X, 31, lT { tkT t with ho := true, hv := 0 } D2 n c2) :: l) D2 A1.1 W ((w6.setCell ⟨X, 12, none⟩ (.bool true)).setCell ⟨X, 13, none⟩ (.int .i64 0)) := ((S6).set 1 rfl 12 (.bool true) HXW.out).set 1 rfl 13 (.int .i64 0) HXW.out
      have hO7 := hO6.but (w' := (w6.setCell ⟨X, 12, none⟩ (.bool true)).setCell ⟨X, 13, none⟩ (.int .i64 0)) (S6.hs.1 1 _ _ _ rfl).1 (by decide) (by decide) (fun b hb => (Below.heap_setCell _ ⟨X, 13, none⟩ _ b hb).trans (Below.heap_setCell _ ⟨X, 12, none⟩ _ b hb))
      generalize (w6.setCell ⟨X, 12, none⟩ (.bool true)).setCell ⟨X, 13, none⟩ (.int .i64 0) = w7 at S7 hO7 ⊢
      clear S6 hO6 c12 f12 c13 f13 
      go_meet
      refine ⟨D2, c2, HZ2.out, ?_, ?_⟩
      · unfold helloS
        dsimp only
        rw [HA1.out]
        exact S7
      · unfold helloS
        dsimp only
        rw [HA1.out]
        exact hO7
  case rest =>
    obtain ⟨D1, c1, hz1, S4, hO4⟩ := hcut
    rename World => w4
    have HZ1 := Lib.hid hz1
    clear hz1
    obtain ⟨h1, hh1⟩ : ∃ q, helloS q1 (tkT t, L) = q := ⟨_, rfl⟩
    rw [hh1] at S4 hO4
    have HH1 := Lib.hid hh1
    have HB1 := Lib.hid (show ThB h1.1.1 by rw [← hh1]; unfold helloS; split; exact HTB.out; exact HTB.out)
    have HOL := Lib.hid (show h1.2.length ≤ n by rw [← hh1]; unfold helloS; split; rw [← hL.out]; exact (allR_bd (t := tkT t) hb.out _).2.1; exact Nat.zero_le _)
    have HPL := Lib.hid (show h1.1.2.length = n by rw [← hh1]; unfold helloS; split; exact (allR_bd (t := tkT t) hb.out _).1.trans hL.out; exact hL.out)
    clear hh1
    go_upto_if 35 with fail
    go_cut [7] (fun q wx => TF w ((Y, 31, [.int .u64 0, .int .u64 0, .int .u32 0, .int .i64 0, .int .i64 0, .int .i64 0, .int .i64 0, .int .i64 0, .int .i64 0, .int .i64 0, .bool false, .bool false, .bool false, .int .i64 0, .bool false, .int .i64 0, .bool false, .int .i64 0, .slice none 0 0]) :: (X, 31, lT (tcnS q2 h1).1.1 D1 n c1) :: l) D1 h1.1.2 W wx ∧ OutsR wx W.heap.size q (tcnS q2 h1).2)
    case first =>
      cases q2 with
      | false =>
        go_wp2_with fail
        go_meet
        exact ⟨S4, hO4⟩
      | true =>
        have HC := Lib.hid (stcn_is h1.1.1 D1 n c1 HB1 w4 (HD.out.below S4.old (Nat.le_refl _)))
        obtain ⟨A2, hA2⟩ : ∃ q, tcnR h1.1.1 n = q := ⟨_, rfl⟩
        have HTL := Lib.hid (show A2.length ≤ 1 by rw [← hA2]; exact tcn_few _ _)
        rw [hA2] at HC
        have HA2 := Lib.hid hA2
        clear hA2
        have hx := S4.hs.bk 1 rfl
        go_wp2_with (with_reducible refine wpList_load_row rfl 31 (.tmp 1) rfl X (by kernel_rfl) _ _ (0, 0) _ hx Tryd.underlying31 rfl (by kernel_rfl) ?_)
        (with_reducible refine HC.out.mono ?_); rintro e w5 ⟨v3, rfl, hQ, b5⟩
        have S5 := S4.below b5
        have hO5 := hO4.below b5
        have HWQ := Lib.hid S4.since
        clear S4 hO4 hx HC b5
        have hlen : h1.2.length + A2.length ≤ 100000 := by have h1 := HOL.out; have h2 := HTL.out; omega
        obtain ⟨_, _, hown⟩ := hO5.own
        go_wp2_with (at_builtin; go_loud (refine append_outs _ rfl (.tmp 36) (.tmp 38) rfl W.heap.size w4.heap.size u7 v3 h1.2 A2 rfl rfl hO5 hQ HWQ.out hlen S5.since w5 (Below.refl _ _) ?_); intro v' w6 hO6 _ gr; have S6 := S5.grown hown gr (box_out hl.out) HSW.out.size (Nat.le_refl _); clear S5 hO5 hQ hown gr)
        (with_reducible refine (start0 _).mono ?_); rintro e w7 ⟨rfl, b7⟩
        have S7 := S6.below b7
        have hO7 := hO6.below b7
        clear S6 hO6 b7
        have c14 := S7.hs.cell 1 14 rfl rfl
        have f14 := S7.hs.thaw 1 14 rfl
        have c15 := S7.hs.cell 1 15 rfl rfl
        have f15 := S7.hs.thaw 1 15 rfl
        go_wp2_with fail
        have S8 : TF w ((Y, 31, [.int .u64 0, .int .u64 0, .int .u32 0, .int .i64 0, .int .i64 0, .int .i64 0, .int .i64 0, .int .i64 0, .int .i64 0, .int .i64 0, .bool false, .bool false, .bool false, .int .i64 0, .bool false, .int .i64 0, .bool false, .int .i64 0, .slice none 0 0]) :: (X, 31, lT { h1.1.1 with xo := true, xv := 0 } D1 n c1) :: l) D1 h1.1.2 W ((w7.setCell ⟨X, 14, none⟩ (.bool true)).setCell ⟨X, 15, none⟩ (.int .i64 0)) := ((S7).set 1 rfl 14 (.bool true) HXW.out).set 1 rfl 15 (.int .i64 0) HXW.out
        have hO8 := hO7.but (w' := (w7.setCell ⟨X, 14, none⟩ (.bool true)).setCell ⟨X, 15, none⟩ (.int .i64 0)) (S7.hs.1 1 _ _ _ rfl).1 (by decide) (by decide) (fun b hb => (Below.heap_setCell _ ⟨X, 15, none⟩ _ b hb).trans (Below.heap_setCell _ ⟨X, 14, none⟩ _ b hb))
        generalize (w7.setCell ⟨X, 14, none⟩ (.bool true)).setCell ⟨X, 15, none⟩ (.int .i64 0) = w8 at S8 hO8 ⊢
        clear S7 hO7 c14 f14 c15 f15 
        go_meet
        refine ⟨?_, ?_⟩
        · exact S8
        · unfold tcnS
          dsimp only
          rw [HPL.out, HA2.out]
          exact hO8
    case rest =>
      obtain ⟨S5, hO5⟩ := hcut
      rename World => w5
      clear S4 hO4
      obtain ⟨h2, hh2⟩ : ∃ q, tcnS q2 h1 = q := ⟨_, rfl⟩
      have hr := HR.out
      unfold bridgeR at hr
      rw [HQ1.out, HQ2.out, HQ3.out, HH1.out, hh2] at hr
      have e12 : h1.1.2 = h2.1.2 := by rw [← hh2]; unfold tcnS; split <;> rfl
      rw [hh2] at S5 hO5
      rw [e12] at S5
      clear hh2 e12
      subst hr
      cases q3 with
      | false =>
        have hx := S5.hs.bk 1 rfl
        have hy := S5.hs.bk 0 rfl
        have SF := S5.row 0 rfl (lT h2.1.1 D1 n c1) HYW.out
        have hyF := SF.hs.bk 0 rfl
        have hOF := hO5.store S5.hs 0 rfl (lT h2.1.1 D1 n c1).toArray
        go_wp2_with (first | (with_reducible refine wpList_load_row rfl 31 (.tmp 1) rfl X (by kernel_rfl) _ _ (0, 0) _ hx Tryd.underlying31 rfl (by kernel_rfl) ?_) | (refine wpList_store_row rfl 31 _ _ rfl Y _ rfl rfl _ _ hy (by kernel_rfl) (by kernel_rfl) (by kernel_rfl) ?_))
        exact bodyPost_ret (v := .tuple #[.agg (lT h2.1.1 D1 n c1).toArray, u7]) (results_two rfl _ _ Y _ _ _ _ rfl _ rfl hyF Tryd.underlying31 rfl (by kernel_rfl)) rfl ⟨D1, c1, _, rfl, HZ1.out, SF.tail.tail.ts, hOF, SF.2⟩
      | true =>
        have c10 := S5.hs.cell 1 10 rfl rfl
        have f10 := S5.hs.thaw 1 10 rfl
        have c11 := S5.hs.cell 1 11 rfl rfl
        have f11 := S5.hs.thaw 1 11 rfl
        go_upto_region 13 with fail
        have S6 : TF w ((Y, 31, [.int .u64 0, .int .u64 0, .int .u32 0, .int .i64 0, .int .i64 0, .int .i64 0, .int .i64 0, .int .i64 0, .int .i64 0, .int .i64 0, .bool false, .bool false, .bool false, .int .i64 0, .bool false, .int .i64 0, .bool false, .int .i64 0, .slice none 0 0]) :: (X, 31, lT { h2.1.1 with de := false, ch := false } D1 n c1) :: l) D1 h2.1.2 W ((w5.setCell ⟨X, 10, none⟩ (.bool false)).setCell ⟨X, 11, none⟩ (.bool false)) := ((S5).set 1 rfl 10 (.bool false) HXW.out).set 1 rfl 11 (.bool false) HXW.out
        have hO6 := hO5.but (w' := (w5.setCell ⟨X, 10, none⟩ (.bool false)).setCell ⟨X, 11, none⟩ (.bool false)) (S5.hs.1 1 _ _ _ rfl).1 (by decide) (by decide) (fun b hb => (Below.heap_setCell _ ⟨X, 11, none⟩ _ b hb).trans (Below.heap_setCell _ ⟨X, 10, none⟩ _ b hb))
        generalize (w5.setCell ⟨X, 10, none⟩ (.bool false)).setCell ⟨X, 11, none⟩ (.bool false) = w6 at S6 hO6 ⊢
        clear S5 hO5 c10 f10 c11 f11 
        have hx := S6.hs.bk 1 rfl
        have hy := S6.hs.bk 0 rfl
        have SF := S6.row 0 rfl (lT { h2.1.1 with de := false, ch := false } D1 n c1) HYW.out
        have hyF := SF.hs.bk 0 rfl
        have hOF := hO6.store S6.hs 0 rfl (lT { h2.1.1 with de := false, ch := false } D1 n c1).toArray
        go_wp2_with (first | (with_reducible refine wpList_load_row rfl 31 (.tmp 1) rfl X (by kernel_rfl) _ _ (0, 0) _ hx Tryd.underlying31 rfl (by kernel_rfl) ?_) | (refine wpList_store_row rfl 31 _ _ rfl Y _ rfl rfl _ _ hy (by kernel_rfl) (by kernel_rfl) (by kernel_rfl) ?_))
        exact bodyPost_ret (v := .tuple #[.agg (lT { h2.1.1 with de := false, ch := false } D1 n c1).toArray, u7]) (results_two rfl _ _ Y _ _ _ _ rfl _ rfl hyF Tryd.underlying31 rfl (by kernel_rfl)) rfl ⟨D1, c1, _, rfl, HZ1.out, SF.tail.tail.ts, hOF, SF.2⟩

end Go.Proofs.YtnmnihlhcokjpaaDoor
