/- Several texts in one, one behind the other: TimerEq, TickAwake, TickSends, TickHolds, TickAlone. -/
import Derived.Test.YtnmnihlhcokjpaaDoorRows
import Derived.Test.YtnmnihlhcokjpaaDoorPk01
import Derived.Laws.StructEq
import Derived.Test.YtnmnihlhcokjpaaDoorPk05
import Derived.Test.YtnmnihlhcokjpaaDoorPk13
import Derived.Test.YtnmnihlhcokjpaaDoorPk02
import Derived.BigQuiet
import Derived.Deep.QuietTactic
import Derived.LoopTactic
import Derived.Deep.DeepCutAuto
import Derived.Test.YtnmnihlhcokjpaaDoorPk09

/- '==' of timers. -/
namespace Go.Proofs.YtnmnihlhcokjpaaDoor
set_option maxRecDepth 100000
open Go.ChangeShapes Go.WideShapes Go.ChangeAt Go.RowKit
set_option linter.unusedVariables false

/-- '==' of timers. -/
theorem tmr_eq (o q : Bool) (v u : Int) (r : Bool) (hr : (decide (o = q) && decide (v = u)) = r) (w : World) : (Op.equalIn 10000 28 (.agg #[.bool o, .int .i64 v]) (.agg #[.bool q, .int .i64 u])).run Tryd.prog w = .ok r w := by
  rw [show (10000 : Nat) = 9999 + 1 from rfl, run_equalIn_struct w 9999 28 _ _ (by kernel_rfl) (by kernel_rfl)]
  simp only [Program.fieldsOf, Tryd.underlying28]
  subst hr
  cases o <;> cases q <;> go_simp <;> first | (done) | simp_all | (split <;> simp_all)

end Go.Proofs.YtnmnihlhcokjpaaDoor

/- awake of stage 16: the document's example. -/
namespace Go.Proofs.YtnmnihlhcokjpaaDoor
set_option maxRecDepth 100000
open Go.ChangeShapes Go.WideShapes Go.ChangeAt Go.RowKit
set_option linter.unusedVariables false
set_option linter.unusedSimpArgs false

def kC (N : Nat) : Cf := ⟨7, 0, 20, 2, 15, 300, 0, some ⟨N, 0, none⟩, 1, 1⟩
def kL2 : List PV := [⟨0, 19, true⟩]
def kT0 : Th := ⟨7, 7, 0, -1, 5120, 512, 3840, 5120, 512, 3840, false, false, false, 0, false, 0, false, 0⟩
def kT : Th := { kT0 with ho := true, hv := 256 }
def kP : List Po := [⟨1, 1, 19, 7, 0, 7, 1, false, false, false, 0, false, 0, false, 0⟩]
theorem kR_is : (tickR kT kP).1.1.ho = true ∧ (tickR kT kP).1.1.hv = 0 ∧ (tickR kT kP).2.length = 1 ∧ (tickR kT kP).1.2.map (·.ho) = [true] := by
  refine ⟨?_, ?_, ?_, ?_⟩ <;> decide
theorem kB (N : Nat) : CB (kC N) := by
  unfold CB kC
  dsimp only
  decide
theorem k_in (w : World) : PortsIn (w.alloc (.cells #[.int .u8 0, .int .u32 19, .bool true] 54)) (some ⟨w.heap.size, 0, none⟩) (w.alloc (.cells #[.int .u8 0, .int .u32 19, .bool true] 54)).heap.size kL2 := by
  have h := heap_alloc_new w (.cells #[.int .u8 0, .int .u32 19, .bool true] 54)
  have hb : Bk (w.alloc (.cells #[.int .u8 0, .int .u32 19, .bool true] 54)) w.heap.size 54 [.int .u8 0, .int .u32 19, .bool true] := h
  intro k x hx
  match k, hx with
  | 0, hx =>
    cases hx
    refine ⟨_, rfl, by simp, ?_, ?_, ?_, by unfold PB; decide⟩
    · exact hb.cell 0
    · exact hb.cell 1
    · exact hb.cell 2
theorem kTB : ThB kT := by unfold ThB kT; dsimp only; decide
theorem kTF : TkF kT := by unfold TkF kT; dsimp only; decide
theorem kTM : ThTm kT := by unfold ThTm TmFit kT; dsimp only; decide
theorem kPB : ∀ x ∈ kP, PoB x := by
  intro x hx
  obtain rfl := List.mem_singleton.1 hx
  unfold PoB; dsimp only; decide
theorem kPM : ∀ x ∈ kP, PoTm x := by
  intro x hx
  obtain rfl := List.mem_singleton.1 hx
  unfold PoTm TmFit; dsimp only; decide
theorem kPU : Unlike kP := by
  intro i j p q hp hq hn
  have h1 := po_lt hp
  have h2 := po_lt hq
  have e : kP.length = 1 := rfl
  omega

set_option maxHeartbeats 2000000 in
theorem awake16_is (w : World) (hd : Hd w) : Calls Tryd.prog 7 #[] w fun e w' => e = .returned (.bool true) ∧ Below w.heap.size w w' := by
  have HD := Lib.hid hd
  clear hd
  obtain ⟨w1, hw1⟩ : ∃ w1, w.alloc (.cells #[.int .u8 0, .int .u32 19, .bool true] 54) = w1 := ⟨_, rfl⟩
  have HP : Hid (PortsIn w1 (kC w.heap.size).A w1.heap.size kL2) := by rw [← hw1]; exact Lib.hid (k_in w)
  have B1 : Below w.heap.size w w1 := by rw [← hw1]; exact new_below _ _
  have HB1 := Lib.hid B1
  clear B1
  have HN : Hid (Calls Tryd.prog 15 #[.agg #[.int .u64 7, .int .u16 0, .int .i64 20, .int .i64 2, .int .i64 15, .int .i64 300, .int .i64 0, .slice (some ⟨w.heap.size, 0, none⟩) 1 1]] w1 (TOut w1 kT0 1 kP)) :=
    Lib.hid (tnew_is (kC w.heap.size) kL2 (Lib.hid rfl) (Lib.hid (show 1 ≤ 4 by decide)) (Lib.hid (kB w.heap.size)) w1 HP)
  clear HP
  go_enter Tryd.func7, Tryd.ntmps7
  go_wp2_with fail
  (with_reducible refine HN.out.mono ?_); rintro e w2 ⟨D, cap, rfl, hz, TS0⟩
  have HZ := Lib.hid hz
  clear HN hz
  go_upto_region 2 with (refine wpList_store_row rfl 31 _ _ rfl _ _ rfl rfl _ _ (heap_alloc_new _ _) (by kernel_rfl) (by kernel_rfl) (by kernel_rfl) ?_)
  rw [alloc_row]
  have T1 := TS0.al rfl 31 (lT kT0 D 1 cap)
  obtain ⟨G, hG⟩ : ∃ G, w2.heap.size = G := ⟨_, rfl⟩
  rw [hG] at T1 ⊢
  obtain ⟨w3, hw3⟩ : ∃ w3, w2.alloc (.cells (lT kT0 D 1 cap).toArray 31) = w3 := ⟨_, rfl⟩
  rw [hw3] at T1 ⊢
  clear hw3 TS0 hG
  have HS := fun W => Lib.hid (start_is 256 (by decide) (by decide) W)
  rw [show startI 256 = 256 by decide] at HS
  go_wp2_with fail
  (with_reducible refine (HS _).out.mono ?_); rintro e w4 ⟨rfl, b4⟩
  have T2 := T1.below b4
  clear T1 b4 HS
  have c12 := T2.hs.cell 0 12 rfl rfl
  have c13 := T2.hs.cell 0 13 rfl rfl
  have f12 := T2.hs.thaw 0 12 rfl
  have f13 := T2.hs.thaw 0 13 rfl
  go_upto_region 3 with fail
  have T3 : TS w1 [(G, 31, lT kT D 1 cap)] D kP ((w4.setCell ⟨G, 12, none⟩ (.bool true)).setCell ⟨G, 13, none⟩ (.int .i64 256)) := (T2.set 0 rfl 12 (.bool true)).set 0 rfl 13 (.int .i64 256)
  generalize (w4.setCell ⟨G, 12, none⟩ (.bool true)).setCell ⟨G, 13, none⟩ (.int .i64 256) = w5 at T3 ⊢
  clear T2 c12 c13 f12 f13
  have HW := Lib.hid (show Below w.heap.size w w5 from HB1.out.trans (T3.old.mono HB1.out.size))
  obtain ⟨R, hR⟩ : ∃ R, tickR kT kP = R := ⟨_, rfl⟩
  obtain ⟨r1, r2, r3, r4⟩ := kR_is
  rw [hR] at r1 r2 r3 r4
  have HA := Lib.hid (tick_is kT D 1 cap kP (Lib.hid kTF) (Lib.hid kTM) (Lib.hid kPM) (Lib.hid kPU) (Lib.hid rfl) (by decide) (Lib.hid kTB) (Lib.hid kPB) HZ w5 (HD.out.below HW.out (Nat.le_refl _)) (Lib.hid T3.ports))
  rw [hR] at HA
  have H1 := Lib.hid r1
  have H2 := Lib.hid r2
  have H3 := Lib.hid r3
  have H4 := Lib.hid r4
  clear r1 r2 r3 r4 hR
  have hx := T3.hs.bk 0 rfl
  go_wp2_with (with_reducible refine wpList_load_row rfl 31 (.tmp 1) rfl G (by kernel_rfl) _ _ (0, 0) _ hx Tryd.underlying31 rfl (by kernel_rfl) ?_)
  (with_reducible refine HA.out.mono ?_); rintro e w6 ⟨D2, c2, v, rfl, hz2, hT4, hO⟩
  have HB4 := Lib.hid (HW.out.trans (hT4.old.mono HW.out.size))
  clear HA hx T3 HZ hz2
  obtain ⟨A, capo, e⟩ : ∃ A capo, v = .slice A R.2.length capo := by
    obtain ⟨C, hC, hown, -⟩ := hO
    obtain ⟨A, capo, e⟩ := OwnL.shape hown
    exact ⟨A, capo, by rw [e, ← show C.length = R.2.length from by rw [← hC, List.length_map]]⟩
  rw [H3.out] at e
  subst e
  obtain ⟨y, hy, hyo⟩ : ∃ y, R.1.2[0]? = some y ∧ y.ho = true := by
    have h := H4.out
    cases hl : R.1.2 with
    | nil => rw [hl] at h; cases h
    | cons a r =>
      rw [hl] at h
      exact ⟨a, rfl, (List.cons.inj (show a.ho :: r.map (·.ho) = true :: [] from h)).1⟩
  obtain ⟨g, rfl, -⟩ := hT4.at hy
  go_upto_region 4 with (refine wpList_store_row rfl 31 _ _ rfl _ _ rfl rfl _ _ (heap_alloc_new _ _) (by kernel_rfl) (by kernel_rfl) (by kernel_rfl) ?_)
  rw [alloc_row]
  have S5 := hT4.al rfl 31 (lT R.1.1 (some ⟨g, 0, none⟩) 1 c2)
  obtain ⟨G2, hG2⟩ : ∃ G, w6.heap.size = G := ⟨_, rfl⟩
  rw [hG2] at S5 ⊢
  obtain ⟨w7, hw7⟩ : ∃ v, w6.alloc (.cells (lT R.1.1 (some ⟨g, 0, none⟩) 1 c2).toArray 31) = v := ⟨_, rfl⟩
  have bN := new_below w6 (.cells (lT R.1.1 (some ⟨g, 0, none⟩) 1 c2).toArray 31)
  rw [hw7] at S5 bN ⊢
  have HB5 := Lib.hid (HB4.out.trans (bN.mono HB4.out.size))
  clear hw7 hG2 bN hO hT4
  have c12 : ∀ q : LaterW w7, q.w'.cell? ⟨G2, 12, none⟩ = some (.bool true) := fun q => by rw [← H1.out]; exact (S5.below q.h).hs.cell 0 12 rfl rfl
  have c13 : ∀ q : LaterW w7, q.w'.cell? ⟨G2, 13, none⟩ = some (.int .i64 0) := fun q => by rw [← H2.out]; exact (S5.below q.h).hs.cell 0 13 rfl rfl
  have c18 : ∀ q : LaterW w7, q.w'.cell? ⟨G2, 18, none⟩ = some (.slice (some ⟨g, 0, none⟩) 1 c2) := fun q => (S5.below q.h).hs.cell 0 18 rfl rfl
  have p13 : ∀ q : LaterW w7, q.w'.cell? ⟨g, 13, none⟩ = some (.bool true) := fun q => by
    have h := (S5.below q.h).port_cell hy 13 rfl
    rw [hyo] at h
    simpa using h
  have HS := fun W => Lib.hid (start0 W)
  have ET := tmr_eq true true 0 0 true rfl
  refine region_later mixedL (by kernel_rfl) ?_
  repeat (go_big_quiet_step ((go_at_call 16; with_reducible exact Calls.later (HS _).out)))
  refine wpQuiet_nil ?_
  intro v hv
  obtain ⟨r, rfl⟩ := hv
  go_wp2
  go_ret
  exact ⟨rfl, HB5.out.trans (r.h.mono HB5.out.size)⟩

end Go.Proofs.YtnmnihlhcokjpaaDoor

/- By one second, and by what is heard behind it, each port sends one configuration at most: no program. -/
namespace Go.Proofs.YtnmnihlhcokjpaaDoor
set_option maxRecDepth 100000
open Go.ChangeShapes Go.WideShapes Go.ChangeAt Go.RowKit
set_option linter.unusedVariables false

/-- How many configurations go out by a port. -/
def cntI (k : Int) : List Ou → Nat
  | [] => 0
  | o :: r => (if o.i = k ∧ o.x.tc = false then 1 else 0) + cntI k r
theorem cnt_app (k : Int) (a b : List Ou) : cntI k (a ++ b) = cntI k a + cntI k b := by
  induction a with
  | nil => simp [cntI]
  | cons o r ih => simp only [List.cons_append, cntI, ih]; omega
theorem cnt_tcn (k : Int) {M : List Ou} (h : ∀ o ∈ M, o.x.tc = true) : cntI k M = 0 := by
  induction M with
  | nil => rfl
  | cons o r ih =>
    have h1 := h o List.mem_cons_self
    simp only [cntI, ih (fun x hx => h x (List.mem_cons_of_mem _ hx)), h1]
    simp
/-- What goes out leaves a Hold that runs; no port sends while its Hold runs. -/
def Sends (L : List Po) (R : List Po × List Ou) : Prop :=
  R.1.length = L.length ∧ ∀ k : Nat, cntI k R.2 ≤ 1 ∧ (L.length ≤ k → cntI k R.2 = 0) ∧ ∀ p, L[k]? = some p → ∃ q, R.1[k]? = some q ∧ (p.ho = true → q.ho = true ∧ cntI k R.2 = 0) ∧ (cntI k R.2 = 1 → q.ho = true)
theorem Sends.quiet {L L' : List Po} {M : List Ou} (hl : L'.length = L.length) (hq : ∀ (k : Nat) p q, L[k]? = some p → L'[k]? = some q → p.ho = true → q.ho = true) (hM : ∀ o ∈ M, o.x.tc = true) : Sends L (L', M) := by
  refine ⟨hl, fun k => ⟨by rw [cnt_tcn k hM]; omega, fun _ => cnt_tcn k hM, fun p hp => ?_⟩⟩
  have hk : k < L'.length := by rw [hl]; exact po_lt hp
  refine ⟨L'[k], List.getElem?_eq_getElem hk, fun h => ⟨hq k p _ hp (List.getElem?_eq_getElem hk) h, cnt_tcn k hM⟩, fun h => ?_⟩
  rw [cnt_tcn k hM] at h
  cases h
theorem Sends.refl (L : List Po) : Sends L (L, []) := Sends.quiet rfl (fun k p q h h' e => by rw [h] at h'; cases h'; exact e) (fun o h => by cases h)
theorem Sends.trans {L : List Po} {R S : List Po × List Ou} (h : Sends L R) (k : Sends R.1 S) : Sends L (S.1, R.2 ++ S.2) := by
  refine ⟨k.1.trans h.1, fun j => ?_⟩
  obtain ⟨h1, h2, h3⟩ := h.2 j
  obtain ⟨k1, k2, k3⟩ := k.2 j
  dsimp only
  rw [cnt_app]
  rcases Nat.lt_or_ge j L.length with q | q
  · obtain ⟨p, hp⟩ : ∃ p, L[j]? = some p := ⟨L[j], List.getElem?_eq_getElem q⟩
    obtain ⟨y, hy, a1, a2⟩ := h3 p hp
    obtain ⟨z, hz, b1, b2⟩ := k3 y hy
    refine ⟨?_, fun e => absurd e (by omega), fun p' hp' => ?_⟩
    · rcases Nat.lt_or_ge 0 (cntI j R.2) with c | c
      · have := (b1 (a2 (by omega))).2
        omega
      · omega
    · rw [hp] at hp'
      cases hp'
      refine ⟨z, hz, fun e => ?_, fun e => ?_⟩
      · obtain ⟨c1, c2⟩ := a1 e
        obtain ⟨d1, d2⟩ := b1 c1
        exact ⟨d1, by omega⟩
      · rcases Nat.lt_or_ge 0 (cntI j R.2) with c | c
        · exact (b1 (a2 (by omega))).1
        · exact b2 (by omega)
  · have e1 := h2 q
    have e2 := k2 (by rw [h.1]; exact q)
    refine ⟨by omega, fun _ => by omega, fun p hp => ?_⟩
    have := po_lt hp
    omega
theorem Sends.set {L : List Po} {k : Nat} {p y : Po} (hp : L[k]? = some p) (hy : p.ho = true → y.ho = true) {M : List Ou} (hM : ∀ o ∈ M, o.x.tc = true) : Sends L (L.set k y, M) := by
  refine Sends.quiet List.length_set (fun j a b ha hb e => ?_) hM
  by_cases q : k = j
  · subst q
    rw [hp] at ha
    cases ha
    rw [List.getElem?_set_self (po_lt hp)] at hb
    cases hb
    exact hy e
  · rw [List.getElem?_set_ne q, ha] at hb
    cases hb
    exact e
/-- A second is over. -/
abbrev SendsT (L : List Po) (s : Tk) : Prop := Sends L (s.1.2, s.2)
theorem Sends.one {L : List Po} {R : List Po × List Ou} (h : Sends L R) (k : Nat) : cntI k R.2 ≤ 1 := (h.2 k).1

end Go.Proofs.YtnmnihlhcokjpaaDoor

/- What a second leaves of ages, of the root, and of a bridge where nothing runs out: no program. -/
namespace Go.Proofs.YtnmnihlhcokjpaaDoor
set_option maxRecDepth 100000
open Go.ChangeShapes Go.WideShapes Go.ChangeAt Go.RowKit
set_option linter.unusedVariables false

/-- What every step keeps of a port. -/
structure KeepsP (o : Int) (Q : Po → Prop) : Prop where
  sent : ∀ p, Q p → Q (sentP p)
  owing : ∀ p, Q p → Q (owingP p)
  next : ∀ p, Q p → Q (nextP p).1
  become : ∀ t p, t.ow = o → Q p → Q (becomeP t p)
  st : ∀ t j p, t.ow = o → Q p → Q (stP t j p).1
/-- The bridge's number, and its ports. -/
def TI (o : Int) (Q : Po → Prop) (t : Th) (L : List Po) : Prop := t.ow = o ∧ ∀ p ∈ L, Q p
section
variable {o : Int} {Q : Po → Prop}
theorem all_set {L : List Po} {k : Nat} {y : Po} (h : ∀ p ∈ L, Q p) (hy : Q y) : ∀ p ∈ L.set k y, Q p := fun z hz => by
  rcases List.mem_or_eq_of_mem_set hz with q | rfl
  · exact h z q
  · exact hy
theorem conf_keeps (hQ : KeepsP o Q) {t : Th} {L : List Po} (h : ∀ p ∈ L, Q p) (i : Int) : ∀ p ∈ (confR t L i).1, Q p := by
  unfold confR
  split
  · split
    · exact h
    · rename_i p hp
      have hq := h p (List.mem_of_getElem? hp)
      split
      · exact all_set h (hQ.owing p hq)
      · split
        · exact h
        · exact all_set h (hQ.sent p hq)
  · exact h
theorem all_keeps (hQ : KeepsP o Q) {t : Th} {L : List Po} (h : ∀ p ∈ L, Q p) : ∀ k, ∀ p ∈ (allR t L k).1, Q p
  | 0 => h
  | k + 1 => by
    have ih := all_keeps hQ (t := t) h k
    show ∀ p ∈ (allStep t (allR t L k) k).1, Q p
    unfold allStep
    split
    · split
      · exact conf_keeps hQ ih _
      · exact ih
    · exact ih
theorem settle_keeps (hQ : KeepsP o Q) {t : Th} {L : List Po} (h : TI o Q t L) : TI o Q (settleR t L).1.1 (settleR t L).1.2 := by
  refine ⟨(root_settle t L).1.trans ((sel_ow t L).trans h.1), fun y hy => ?_⟩
  obtain ⟨k, hk, e⟩ := List.getElem_of_mem hy
  obtain ⟨x, hx, rfl⟩ := settle_at (show (settleR t L).1.2[k]? = some y by rw [List.getElem?_eq_getElem hk, e])
  have hb := h.2 x (List.mem_of_getElem? hx)
  have ho : (selectT t L).ow = o := (sel_ow t L).trans h.1
  refine hQ.st _ _ _ ho ?_
  unfold desP
  split
  · exact hQ.become _ _ ho hb
  · exact hb
theorem TI.det {t : Th} {L : List Po} (h : TI o Q t L) : TI o Q (detT t) L := ⟨(root_det t).1.trans h.1, h.2⟩
theorem TI.delay (hQ : KeepsP o Q) {s : Tk} (h : TI o Q s.1.1 s.1.2) (i : Nat) : TI o Q (delayS s i).1.1 (delayS s i).1.2 := by
  unfold delayS
  split
  · exact h
  · rename_i p hp
    have h1 : TI o Q s.1.1 (s.1.2.set i (nextP p).1) := ⟨h.1, all_set h.2 (hQ.next p (h.2 p (List.mem_of_getElem? hp)))⟩
    split
    · exact h1.det
    · exact h1
theorem lead_own (t : Th) : (leadT t).ow = t.ow := (root_det { t with n1 := t.m1, n2 := t.m2, n3 := t.m3 }).1
theorem lead_ro (t : Th) : (leadT t).ro = t.ro := (root_det { t with n1 := t.m1, n2 := t.m2, n3 := t.m3 }).2.1
theorem TI.age (hQ : KeepsP o Q) {s : Tk} (h : TI o Q s.1.1 s.1.2) (i : Nat) : TI o Q (ageS s i).1.1 (ageS s i).1.2 := by
  unfold ageS
  split
  · exact h
  · rename_i p hp
    have h1 : TI o Q s.1.1 (s.1.2.set i (becomeP s.1.1 p)) := ⟨h.1, all_set h.2 (hQ.become _ p h.1 (h.2 p (List.mem_of_getElem? hp)))⟩
    have h2 := settle_keeps hQ h1
    dsimp only
    split
    · exact ⟨(lead_own _).trans h2.1, all_keeps hQ h2.2 _⟩
    · exact h2
theorem TI.hold (hQ : KeepsP o Q) {s : Tk} (h : TI o Q s.1.1 s.1.2) (i : Nat) : TI o Q (holdS s i).1.1 (holdS s i).1.2 := by
  unfold holdS
  split
  · exact h
  · split
    · exact ⟨h.1, conf_keeps hQ h.2 _⟩
    · exact h
theorem TI.fold {f : Tk → Nat → Tk} {fl : Nat → Bool} (hf : ∀ s i, TI o Q s.1.1 s.1.2 → TI o Q (f s i).1.1 (f s i).1.2) {s : Tk} (h : TI o Q s.1.1 s.1.2) : ∀ k, TI o Q (foldS f fl k s).1.1 (foldS f fl k s).1.2
  | 0 => h
  | k + 1 => by
    have ih := TI.fold (fl := fl) hf h k
    unfold foldS
    split
    · exact hf _ _ ih
    · exact ih
theorem TI.tick1 (hQ : KeepsP o Q) {t : Th} {L : List Po} (ho : t.ow = o) (h : ∀ p ∈ L, Q (tkP t p)) : TI o Q (tick1 t L).1.1 (tick1 t L).1.2 := by
  have h0 : TI o Q (tkT t) (L.map (tkP t)) := ⟨ho, fun y hy => by
    obtain ⟨p, hp, rfl⟩ := List.mem_map.1 hy
    exact h p hp⟩
  unfold Go.Proofs.YtnmnihlhcokjpaaDoor.tick1
  have h1 : TI o Q (helloS (hellB t) (tkT t, L.map (tkP t))).1.1 (helloS (hellB t) (tkT t, L.map (tkP t))).1.2 := by
    unfold helloS
    split
    · exact ⟨h0.1, all_keeps hQ h0.2 _⟩
    · exact h0
  have h2 : TI o Q (tcnS (tcnB' t) (helloS (hellB t) (tkT t, L.map (tkP t)))).1.1 (tcnS (tcnB' t) (helloS (hellB t) (tkT t, L.map (tkP t)))).1.2 := by
    unfold tcnS
    split
    · exact ⟨h1.1, h1.2⟩
    · exact h1
  unfold toldS
  split
  · exact ⟨h2.1, h2.2⟩
  · exact h2
theorem TI.tick (hQ : KeepsP o Q) {t : Th} {L : List Po} (ho : t.ow = o) (h : ∀ p ∈ L, Q (tkP t p)) : TI o Q (tickR t L).1.1 (tickR t L).1.2 :=
  TI.fold (fun s i h => h.hold hQ i) (TI.fold (fun s i h => h.age hQ i) (TI.fold (fun s i h => h.delay hQ i) (TI.tick1 hQ ho h) _) _) _
end
/-- Ages. -/
def AgeLt (m : Int) (p : Po) : Prop := p.ao = true → p.av < m
theorem ageLt_keeps (o m : Int) : KeepsP o (AgeLt m) where
  sent p h := h
  owing p h := h
  next p h := by
    unfold nextP
    split
    · exact h
    · split <;> exact h
  become t p _ h := h
  st t j p _ h := by
    unfold stP
    split
    · unfold riseP owesP
      split <;> exact h
    · split
      · unfold riseP restP
        split <;> exact fun e => by cases e
      · unfold blockP owesP
        split <;> exact h
theorem age_tick (t : Th) (L : List Po) : ∀ p ∈ (tickR t L).1.2, AgeLt t.n1 p := by
  refine (TI.tick (o := t.ow) (ageLt_keeps t.ow t.n1) rfl (fun p _ => ?_)).2
  unfold AgeLt tkP firO
  dsimp only
  split
  · split
    · exact fun e => by cases e
    · intro _
      dsimp only
      omega
  · exact fun e => by cases e
/-- Nobody leads. -/
def NoMay (o : Int) (p : Po) : Prop := mayB p o = false
theorem may_keep {p q : Po} {o : Int} (h : NoMay o p) (h1 : q.id = p.id) (h2 : q.hb = p.hb) (h3 : q.hp = p.hp) (h4 : q.hr = p.hr) (h5 : q.st = 0 ↔ p.st = 0) : NoMay o q := by
  unfold NoMay mayB at *
  rw [desB_keep h1 h2 h3, h4]
  rw [← h]
  congr 1
  congr 1
  rw [Bool.eq_iff_iff]
  simp only [decide_eq_true_eq, ne_eq, h5]
theorem noMay_keeps (o : Int) : KeepsP o (NoMay o) where
  sent p h := h
  owing p h := h
  next p h := by
    unfold nextP
    split
    · exact may_keep h rfl rfl rfl rfl ⟨(fun e => by cases e), fun e => by omega⟩
    · split
      · exact may_keep h rfl rfl rfl rfl ⟨(fun e => by cases e), fun e => by omega⟩
      · exact h
  become t p ho h := by
    subst ho
    exact may_des (desB_become t p)
  st t j p _ h := by
    have hh := st_held t j p
    have hs := (st_all t j p).2.1
    exact may_keep h hh.2.2.2.2.1 hh.2.2.1 hh.2.2.2.1 hh.1 hs
theorem sel_none {t : Th} {L : List Po} (h : ∀ p ∈ L, mayB p t.ow = false) : (selectT t L).ro = t.ow := by
  have h1 := bst_spec t.ow L L.length
  cases hb : bst t.ow L L.length with
  | none =>
    unfold selectT selT
    rw [hb]
  | some j =>
    rw [hb] at h1
    obtain ⟨_, p, hp, hm, _⟩ := h1
    rw [h p (List.mem_of_getElem? hp)] at hm
    cases hm
theorem no_lead {t : Th} {L : List Po} (h : (selectT t L).ro = t.ow) : ∀ p ∈ L, mayB p t.ow = false := by
  intro p hp
  obtain ⟨i, hi, e⟩ := List.getElem_of_mem hp
  have hx : L[i]? = some p := by rw [List.getElem?_eq_getElem hi, e]
  cases hm : mayB p t.ow with
  | false => rfl
  | true =>
    obtain ⟨h1, h2, h3⟩ := may_parts hm
    exact absurd (by rw [h]; exact h3) (upd_least (t := t) hx h2 h1)
/-- Who took itself for the root still does. -/
def RI (o : Int) (t : Th) (L : List Po) : Prop := TI o (NoMay o) t L ∧ t.ro = o
theorem RI.delay {o : Int} {s : Tk} (h : RI o s.1.1 s.1.2) (i : Nat) : RI o (delayS s i).1.1 (delayS s i).1.2 := by
  refine ⟨h.1.delay (noMay_keeps o) i, ?_⟩
  unfold delayS
  split
  · exact h.2
  · split
    · exact (root_det _).2.1.trans h.2
    · exact h.2
theorem RI.age {o : Int} {s : Tk} (h : RI o s.1.1 s.1.2) (i : Nat) : RI o (ageS s i).1.1 (ageS s i).1.2 := by
  refine ⟨h.1.age (noMay_keeps o) i, ?_⟩
  unfold ageS
  split
  · exact h.2
  · rename_i p hp
    have h1 : TI o (NoMay o) s.1.1 (s.1.2.set i (becomeP s.1.1 p)) := ⟨h.1.1, all_set h.1.2 ((noMay_keeps o).become _ p h.1.1 (h.1.2 p (List.mem_of_getElem? hp)))⟩
    have h2 : (settleR s.1.1 (s.1.2.set i (becomeP s.1.1 p))).1.1.ro = o := by
      rw [(root_settle _ _).2.1, sel_none (fun z hz => by rw [h1.1]; exact h1.2 z hz), h1.1]
    dsimp only
    split
    · exact (lead_ro _).trans h2
    · exact h2
theorem RI.hold {o : Int} {s : Tk} (h : RI o s.1.1 s.1.2) (i : Nat) : RI o (holdS s i).1.1 (holdS s i).1.2 := by
  refine ⟨h.1.hold (noMay_keeps o) i, ?_⟩
  unfold holdS
  split
  · exact h.2
  · split
    · exact h.2
    · exact h.2
theorem RI.fold {o : Int} {f : Tk → Nat → Tk} {fl : Nat → Bool} (hf : ∀ s i, RI o s.1.1 s.1.2 → RI o (f s i).1.1 (f s i).1.2) {s : Tk} (h : RI o s.1.1 s.1.2) : ∀ k, RI o (foldS f fl k s).1.1 (foldS f fl k s).1.2
  | 0 => h
  | k + 1 => by
    have ih := RI.fold (fl := fl) hf h k
    unfold foldS
    split
    · exact hf _ _ ih
    · exact ih
theorem tk_may {t : Th} {p : Po} {o : Int} (h : NoMay o p) : NoMay o (tkP t p) := may_keep h rfl rfl rfl rfl Iff.rfl
theorem tick1_ro (t : Th) (L : List Po) : (tick1 t L).1.1.ro = t.ro := by
  unfold tick1 toldS tcnS helloS tkT
  repeat (split <;> try rfl)
theorem RI.tick {o : Int} {t : Th} {L : List Po} (h : RI o t L) : RI o (tickR t L).1.1 (tickR t L).1.2 :=
  RI.fold (fun s i h => h.hold i) (RI.fold (fun s i h => h.age i) (RI.fold (fun s i h => h.delay i) ⟨TI.tick1 (noMay_keeps o) h.1.1 (fun p hp => tk_may (h.1.2 p hp)), (tick1_ro t L).trans h.2⟩ _) _) _
theorem root_tick {t : Th} {L : List Po} (h : (settleR t L).1.1.ro = (settleR t L).1.1.ow) : (tickR (settleR t L).1.1 (settleR t L).1.2).1.1.ro = (tickR (settleR t L).1.1 (settleR t L).1.2).1.1.ow := by
  have how : (settleR t L).1.1.ow = t.ow := (root_settle t L).1.trans (sel_ow t L)
  have hro : (selectT t L).ro = t.ow := (root_settle t L).2.1.symm.trans (h.trans how)
  have hn := no_lead hro
  have hR : RI t.ow (settleR t L).1.1 (settleR t L).1.2 := ⟨settle_keeps (noMay_keeps t.ow) ⟨rfl, hn⟩, h.trans how⟩
  have hT := hR.tick
  exact hT.2.trans hT.1.1.symm
/-- Nothing runs out but Hold, and nothing is owed. -/
def QuietB (t : Th) (L : List Po) : Prop := t.ho = false ∧ t.xo = false ∧ t.zo = false ∧ 20000 ≤ t.n1 ∧ ∀ p ∈ L, p.pe = false ∧ p.yo = false ∧ (p.ao = true → p.av ≤ 10000)
theorem fold_none {f : Tk → Nat → Tk} {fl : Nat → Bool} (s : Tk) (h : ∀ k, fl k = false) : ∀ k, foldS f fl k s = s
  | 0 => rfl
  | k + 1 => by
    unfold foldS
    rw [h k, if_neg (by decide), fold_none s h k]
theorem fold_same {f : Tk → Nat → Tk} {fl : Nat → Bool} (s : Tk) (h : ∀ k, f s k = s) : ∀ k, foldS f fl k s = s
  | 0 => rfl
  | k + 1 => by
    unfold foldS
    rw [fold_same s h k, h k]
    split <;> rfl
theorem flag_none {f : Po → Bool} {L : List Po} (h : ∀ p ∈ L, f p = false) (k : Nat) : flagB f L k = false := by
  unfold flagB
  split
  · rename_i p hp
    exact h p (List.mem_of_getElem? hp)
  · rfl
theorem fir_off (v l : Int) : firO false v l = ((false, v), false) := rfl
theorem hold_none {s : Tk} (h : ∀ p ∈ s.1.2, p.pe = false) (k : Nat) : holdS s k = s := by
  unfold holdS
  split
  · rfl
  · rename_i p hp
    rw [h p (List.mem_of_getElem? hp), if_neg (by decide)]
theorem quiet_tick {t : Th} {L : List Po} (h : QuietB t L) : tickR t L = ((tkT t, L.map (tkP t)), []) := by
  obtain ⟨h1, h2, h3, h4, h5⟩ := h
  have e1 : tick1 t L = ((tkT t, L.map (tkP t)), []) := by
    unfold tick1 hellB tcnB' toldB
    rw [h1, h2, h3, fir_off, fir_off, fir_off]
    rfl
  unfold tickR
  rw [e1]
  rw [fold_none (fl := flagB (delB t) L) _ (flag_none (fun p hp => by
    unfold delB
    rw [(h5 p hp).2.1]
    rfl))]
  rw [fold_none (fl := flagB (agB t) L) _ (flag_none (fun p hp => by
    unfold agB firO
    cases ha : p.ao with
    | false => rfl
    | true =>
      have := (h5 p hp).2.2 ha
      rw [if_pos rfl, if_neg (by unfold laterI; omega)]))]
  refine fold_same _ (hold_none (fun y hy => ?_)) _
  obtain ⟨p, hp, rfl⟩ := List.mem_map.1 hy
  exact (h5 p hp).1
/-- A Hold that runs behind it. -/
theorem hold_lt (o : Bool) (v : Int) : (firO o v 256).1.1 = true → (firO o v 256).1.2 < 256 := by
  unfold firO
  split
  · split
    · exact fun e => by cases e
    · intro _
      dsimp only
      omega
  · exact fun e => by cases e

end Go.Proofs.YtnmnihlhcokjpaaDoor

/- A bridge that is alone, second by second: no program. -/
namespace Go.Proofs.YtnmnihlhcokjpaaDoor
set_option maxRecDepth 100000
open Go.ChangeShapes Go.WideShapes Go.ChangeAt Go.RowKit
set_option linter.unusedVariables false

/-- It takes itself for the root; all its ports hold its own telling. -/
structure Al (o : Int) (t : Th) (L : List Po) : Prop where
  ow : t.ow = o
  ro : t.ro = o
  xo : t.xo = false
  own : ∀ p ∈ L, desB p o = true ∧ p.ao = false
theorem des_hb {p : Po} {o : Int} (h : desB p o = true) : p.hb = o ∧ p.hp = p.id := by
  unfold desB at h
  simpa using h
theorem tells_hit {o : Int} {L : List Po} {k : Nat} {p : Po} (hp : L[k]? = some p) (hb : p.hb = o) : ∀ n, k < n → tellsL o n L = true
  | 0, h => by omega
  | n + 1, h => by
    unfold tellsL
    by_cases e : k = n
    · subst e
      rw [hp]
      simp [hb]
    · rw [tells_hit hp hb n (by omega)]
      rfl
theorem next_parts (p : Po) : (nextP p).1.id = p.id ∧ (nextP p).1.hb = p.hb ∧ (nextP p).1.hp = p.hp ∧ (nextP p).1.hr = p.hr ∧ (nextP p).1.ao = p.ao ∧ (nextP p).1.pe = p.pe ∧ (nextP p).1.ho = p.ho ∧ (nextP p).1.hv = p.hv ∧ ((nextP p).1.st = 0 ↔ p.st = 0) := by
  unfold nextP
  split
  · exact ⟨rfl, rfl, rfl, rfl, rfl, rfl, rfl, rfl, ⟨(fun e => by cases e), fun e => by omega⟩⟩
  · split
    · exact ⟨rfl, rfl, rfl, rfl, rfl, rfl, rfl, rfl, ⟨(fun e => by cases e), fun e => by omega⟩⟩
    · exact ⟨rfl, rfl, rfl, rfl, rfl, rfl, rfl, rfl, Iff.rfl⟩
theorem det_root {t : Th} (h : t.ro = t.ow) : detT t = { t with de := true, ch := true, zo := true, zv := 0 } := by unfold detT; rw [if_pos h]
theorem det_twice {t : Th} (h : t.ro = t.ow) : detT (detT t) = detT t := by
  rw [det_root h, det_root (t := { t with de := true, ch := true, zo := true, zv := 0 }) h]
theorem delay_root {o : Int} {s : Tk} {i : Nat} {p : Po} (hp : s.1.2[i]? = some p) (ho : s.1.1.ow = o) (hr : s.1.1.ro = o) (hd : desB p o = true) :
    delayS s i = (((if (nextP p).2 = true then detT s.1.1 else s.1.1), s.1.2.set i (nextP p).1), s.2) := by
  have hk := po_lt hp
  have ht : tellsL s.1.1.ow (s.1.2.set i (nextP p).1).length (s.1.2.set i (nextP p).1) = true :=
    tells_hit (List.getElem?_set_self hk) (by rw [(next_parts p).2.1, (des_hb hd).1, ho]) _ (by rw [List.length_set]; exact hk)
  unfold delayS
  rw [hp]
  dsimp only
  cases hn : (nextP p).2 with
  | false => rfl
  | true =>
    rw [if_pos ⟨rfl, ht⟩, if_pos rfl]
    have : detO s.1.1 s.1.2.length = [] := by unfold detO; rw [if_pos (hr.trans ho.symm)]
    rw [this, List.append_nil]
/-- Some port of the first k begins to forward. -/
def anyF (fl : Nat → Bool) (L : List Po) : Nat → Bool
  | 0 => false
  | k + 1 => anyF fl L k || (fl k && (match L[k]? with | some p => (nextP p).2 | none => false))
def goesP (fl : Nat → Bool) (j : Nat) (p : Po) : Po := if fl j = true then (nextP p).1 else p
theorem mix_end {f : Nat → Po → Po} {k : Nat} {L : List Po} (h : L[k]? = none) : mixL f (k + 1) L = mixL f k L := by
  have hk := List.getElem?_eq_none_iff.1 h
  rw [mixL_all hk, mixL_all (by omega)]
theorem delays_root {o : Int} {fl : Nat → Bool} {t : Th} {L : List Po} {M : List Ou} (ho : t.ow = o) (hr : t.ro = o) (hd : ∀ p ∈ L, desB p o = true) :
    ∀ k, foldS delayS fl k ((t, L), M) = (((if anyF fl L k = true then detT t else t), mixL (goesP fl) k L), M)
  | 0 => by
    rw [mixL_zero]
    rfl
  | k + 1 => by
    have ih := delays_root (fl := fl) (M := M) ho hr hd k
    unfold foldS
    rw [ih]
    cases hp : L[k]? with
    | none =>
      have e1 : anyF fl L (k + 1) = anyF fl L k := by
        show (anyF fl L k || (fl k && (match L[k]? with | some p => (nextP p).2 | none => false))) = _
        rw [hp]
        simp
      have e2 : delayS (((if anyF fl L k = true then detT t else t), mixL (goesP fl) k L), M) k = (((if anyF fl L k = true then detT t else t), mixL (goesP fl) k L), M) := by
        unfold delayS
        have : (mixL (goesP fl) k L)[k]? = none := by rw [mixL_get, hp]; rfl
        dsimp only
        rw [this]
      rw [e1, mix_end hp, e2]
      split <;> rfl
    | some p =>
      have hm : (mixL (goesP fl) k L)[k]? = some p := mixL_at hp
      cases hf : fl k with
      | false =>
        rw [if_neg (by decide)]
        have e1 : anyF fl L (k + 1) = anyF fl L k := by
          show (anyF fl L k || (fl k && (match L[k]? with | some p => (nextP p).2 | none => false))) = _
          rw [hf]
          simp
        rw [e1, mixL_same hp (by unfold goesP; rw [hf, if_neg (by decide)])]
      | true =>
        rw [if_pos rfl]
        have e1 : anyF fl L (k + 1) = (anyF fl L k || (nextP p).2) := by
          show (anyF fl L k || (fl k && (match L[k]? with | some p => (nextP p).2 | none => false))) = _
          rw [hf, hp, Bool.true_and]
        have e3 : (mixL (goesP fl) k L).set k (nextP p).1 = mixL (goesP fl) (k + 1) L := by
          have := mixL_set (f := goesP fl) hp
          unfold goesP at this
          rw [hf, if_pos rfl] at this
          exact this
        have o1 : (if anyF fl L k = true then detT t else t).ow = o := by
          split
          · exact (root_det t).1.trans ho
          · exact ho
        have r1 : (if anyF fl L k = true then detT t else t).ro = o := by
          split
          · exact (root_det t).2.1.trans hr
          · exact hr
        rw [delay_root (s := (((if anyF fl L k = true then detT t else t), mixL (goesP fl) k L), M)) hm o1 r1 (hd p (List.mem_of_getElem? hp)), e1]
        dsimp only
        rw [e3]
        cases anyF fl L k with
        | false => rfl
        | true =>
          rw [if_pos rfl, Bool.true_or, if_pos rfl, det_twice (hr.trans ho.symm)]
          split <;> rfl
theorem hold_t (s : Tk) (i : Nat) : (holdS s i).1.1 = s.1.1 := by
  unfold holdS
  split
  · rfl
  · split <;> rfl
theorem holds_t {fl : Nat → Bool} (s : Tk) : ∀ k, (foldS holdS fl k s).1.1 = s.1.1
  | 0 => rfl
  | k + 1 => by
    unfold foldS
    split
    · rw [hold_t, holds_t s k]
    · exact holds_t s k
/-- A second of one that is alone. -/
theorem alone_tick {o : Int} {t : Th} {L : List Po} (h : Al o t L) :
    tickR t L = foldS holdS (flagB holB L) L.length (((if anyF (flagB (delB t) L) (tick1 t L).1.2 L.length = true then detT (tick1 t L).1.1 else (tick1 t L).1.1), mixL (goesP (flagB (delB t) L)) L.length (tick1 t L).1.2), (tick1 t L).2) := by
  have h1 : (tick1 t L).1.1.ow = o := by
    have : (tick1 t L).1.1.ow = t.ow := by
      unfold tick1 toldS tcnS helloS tkT
      repeat (split <;> try rfl)
    exact this.trans h.ow
  have h2 : (tick1 t L).1.1.ro = o := (tick1_ro t L).trans h.ro
  have h3 : ∀ p ∈ (tick1 t L).1.2, desB p o = true := by
    have hk : KeepsP o (fun p => desB p o = true) := by
      refine ⟨fun p h => h, fun p h => h, fun p h => ?_, fun t p ho h => ?_, fun t j p ho h => ?_⟩
      · obtain ⟨a, b, c, _⟩ := next_parts p
        rw [desB_keep a b c]
        exact h
      · subst ho
        exact desB_become t p
      · subst ho
        rw [(st_all t j p).1]
        exact h
    exact (TI.tick1 (o := o) hk h.ow (fun p hp => (h.own p hp).1)).2
  unfold tickR
  have e := delays_root (fl := flagB (delB t) L) (M := (tick1 t L).2) h1 h2 h3 L.length
  have e' : foldS delayS (flagB (delB t) L) L.length (tick1 t L) = _ := e
  rw [e', fold_none (fl := flagB (agB t) L) _ (flag_none (fun p hp => by
    unfold agB
    rw [(h.own p hp).2]
    rfl))]

/-- What a port is that rises by itself, at second k. -/
def PhP (D k : Int) (o : Int) (on : Bool) (p : Po) : Prop := desB p o = true ∧ p.ao = false ∧ (on = false → p.st = 0 ∧ p.yo = false) ∧
  (on = true → (k < D ∧ p.st = 2 ∧ p.yo = true ∧ p.yv = 256 * k) ∨ (D ≤ k ∧ k < 2 * D ∧ p.st = 3 ∧ p.yo = true ∧ p.yv = 256 * (k - D)) ∨ (2 * D ≤ k ∧ p.st = 4 ∧ p.yo = false))
/-- When its timers have fired. -/
def MidP (D k : Int) (o : Int) (on b : Bool) (p : Po) : Prop := desB p o = true ∧ p.ao = false ∧ (on = false → p.st = 0 ∧ p.yo = false ∧ b = false) ∧
  (on = true → (k < D ∧ p.st = 2 ∧ b = false ∧ p.yo = true ∧ p.yv = 256 * k) ∨ (k = D ∧ p.st = 2 ∧ b = true) ∨ (D < k ∧ k < 2 * D ∧ p.st = 3 ∧ b = false ∧ p.yo = true ∧ p.yv = 256 * (k - D)) ∨ (k = 2 * D ∧ p.st = 3 ∧ b = true ∧ p.yo = false) ∨ (2 * D < k ∧ p.st = 4 ∧ b = false ∧ p.yo = false))
theorem later_sec {k : Int} (h0 : 0 ≤ k) (h1 : k ≤ 100000) : laterI (256 * k) = 256 * (k + 1) := by unfold laterI; omega
theorem ph_fire {D k o : Int} {on : Bool} {t : Th} {p : Po} (hD : 1 ≤ D ∧ D ≤ 1000) (hk : 0 ≤ k) (ht : t.n3 = 256 * D) (h : PhP D k o on p) : MidP D (k + 1) o on (delB t p) (tkP t p) := by
  obtain ⟨h1, h2, h3, h4⟩ := h
  refine ⟨h1, ?_, fun e => ?_, fun e => ?_⟩
  · unfold tkP
    dsimp only
    rw [h2]
    rfl
  · obtain ⟨a, b⟩ := h3 e
    unfold delB tkP
    dsimp only
    rw [b]
    exact ⟨a, rfl, rfl⟩
  · unfold delB tkP
    dsimp only
    rcases h4 e with ⟨a, b, c, d⟩ | ⟨a, a', b, c, d⟩ | ⟨a, b, c⟩
    · rw [c, d, ht]
      unfold firO
      rw [if_pos rfl, later_sec hk (by omega)]
      by_cases q : k + 1 < D
      · rw [if_neg (by omega)]
        exact .inl ⟨q, b, rfl, rfl, rfl⟩
      · rw [if_pos (by omega)]
        exact .inr (.inl ⟨by omega, b, rfl⟩)
    · rw [c, d, ht]
      unfold firO
      rw [if_pos rfl, later_sec (by omega) (by omega)]
      by_cases q : k + 1 < 2 * D
      · rw [if_neg (by omega)]
        exact .inr (.inr (.inl ⟨by omega, q, b, rfl, rfl, by dsimp only; omega⟩))
      · rw [if_pos (by omega)]
        exact .inr (.inr (.inr (.inl ⟨by omega, b, rfl, rfl⟩)))
    · rw [c]
      exact .inr (.inr (.inr (.inr ⟨by omega, b, rfl, rfl⟩)))
theorem ph_next {D k o : Int} {on b : Bool} {p : Po} (hD : 1 ≤ D) (h : MidP D k o on b p) : PhP D k o on (if b = true then (nextP p).1 else p) ∧ ((b && (nextP p).2) = true ↔ (on = true ∧ k = 2 * D)) := by
  obtain ⟨h1, h2, h3, h4⟩ := h
  obtain ⟨n1, n2, n3, n4, n5, -⟩ := next_parts p
  have hd : desB (if b = true then (nextP p).1 else p) o = true ∧ (if b = true then (nextP p).1 else p).ao = false := by
    split
    · exact ⟨by rw [desB_keep n1 n2 n3]; exact h1, by rw [n5]; exact h2⟩
    · exact ⟨h1, h2⟩
  cases on with
  | false =>
    obtain ⟨a, c, rfl⟩ := h3 rfl
    refine ⟨⟨hd.1, hd.2, fun _ => ⟨a, c⟩, fun e => by cases e⟩, ?_⟩
    simp
  | true =>
    rcases h4 rfl with ⟨a, s, rfl, c, d⟩ | ⟨a, s, rfl⟩ | ⟨a, a', s, rfl, c, d⟩ | ⟨a, s, rfl, c⟩ | ⟨a, s, rfl, c⟩
    · refine ⟨⟨hd.1, hd.2, fun e => (by cases e), fun _ => .inl ⟨a, s, c, d⟩⟩, ?_⟩
      simp
      omega
    · refine ⟨⟨hd.1, hd.2, fun e => (by cases e), fun _ => .inr (.inl ?_)⟩, ?_⟩
      · unfold nextP
        rw [if_pos s, if_pos rfl]
        exact ⟨by omega, by omega, rfl, rfl, by dsimp only; omega⟩
      · unfold nextP
        rw [if_pos s]
        simp
        omega
    · refine ⟨⟨hd.1, hd.2, fun e => (by cases e), fun _ => .inr (.inl ⟨by omega, a', s, c, d⟩)⟩, ?_⟩
      simp
      omega
    · refine ⟨⟨hd.1, hd.2, fun e => (by cases e), fun _ => .inr (.inr ?_)⟩, ?_⟩
      · rw [if_pos rfl]
        unfold nextP
        rw [if_neg (by omega), if_pos s]
        exact ⟨by omega, rfl, c⟩
      · unfold nextP
        rw [if_neg (by omega), if_pos s]
        simp
        exact a
    · refine ⟨⟨hd.1, hd.2, fun e => (by cases e), fun _ => .inr (.inr ⟨by omega, s, c⟩)⟩, ?_⟩
      simp
      omega
/-- What telling leaves of a port. -/
def SameY (p q : Po) : Prop := p.st = q.st ∧ p.yo = q.yo ∧ p.yv = q.yv ∧ p.ao = q.ao ∧ p.id = q.id ∧ p.hb = q.hb ∧ p.hp = q.hp
theorem SameY.refl (p : Po) : SameY p p := ⟨rfl, rfl, rfl, rfl, rfl, rfl, rfl⟩
theorem SameY.trans {p q r : Po} (h : SameY p q) (k : SameY q r) : SameY p r := ⟨h.1.trans k.1, h.2.1.trans k.2.1, h.2.2.1.trans k.2.2.1, h.2.2.2.1.trans k.2.2.2.1, h.2.2.2.2.1.trans k.2.2.2.2.1, h.2.2.2.2.2.1.trans k.2.2.2.2.2.1, h.2.2.2.2.2.2.trans k.2.2.2.2.2.2⟩
theorem same_conf (t : Th) (L : List Po) (i : Int) : Alike SameY (confR t L i).1 L := by
  refine ⟨confR_len t L i, fun j p q hp hq => ?_⟩
  by_cases h0 : i < 0
  · rw [confR_neg h0, hq] at hp
    cases hp
    exact SameY.refl _
  obtain ⟨k, rfl⟩ : ∃ k : Nat, i = k := ⟨i.toNat, by omega⟩
  cases hx : L[k]? with
  | none =>
    rw [confR_out (by have := List.getElem?_eq_none_iff.1 hx; omega), hq] at hp
    cases hp
    exact SameY.refl _
  | some x =>
    have key : ∀ y, SameY y x → (L.set k y)[j]? = some p → SameY p q := by
      intro y hy h
      by_cases e : k = j
      · subst e
        rw [List.getElem?_set_self (po_lt hx)] at h
        cases h
        rw [hx] at hq
        cases hq
        exact hy
      · rw [List.getElem?_set_ne e, hq] at h
        cases h
        exact SameY.refl _
    rw [confR_at hx] at hp
    split at hp
    · exact key (owingP x) ⟨rfl, rfl, rfl, rfl, rfl, rfl, rfl⟩ hp
    · split at hp
      · rw [hq] at hp
        cases hp
        exact SameY.refl _
      · exact key (sentP x) ⟨rfl, rfl, rfl, rfl, rfl, rfl, rfl⟩ hp
theorem same_trans {L M N : List Po} (h : Alike SameY L M) (k : Alike SameY M N) : Alike SameY L N := by
  refine ⟨h.1.trans k.1, fun j p r hp hr => ?_⟩
  obtain ⟨q, hq, e⟩ := h.get hp
  exact e.trans (k.2 j q r hq hr)
theorem same_refl (L : List Po) : Alike SameY L L := ⟨rfl, fun j p q hp hq => by rw [hp] at hq; cases hq; exact SameY.refl _⟩
theorem same_all (t : Th) (L : List Po) : ∀ k, Alike SameY (allR t L k).1 L
  | 0 => same_refl L
  | k + 1 => by
    have ih := same_all t L k
    show Alike SameY (allStep t (allR t L k) k).1 L
    unfold allStep
    split
    · split
      · exact same_trans (same_conf t _ _) ih
      · exact ih
    · exact ih
theorem same_holds {fl : Nat → Bool} (s : Tk) : ∀ k, Alike SameY (foldS holdS fl k s).1.2 s.1.2
  | 0 => same_refl _
  | k + 1 => by
    have ih := same_holds (fl := fl) s k
    unfold foldS
    split
    · refine same_trans ?_ ih
      unfold holdS
      split
      · exact same_refl _
      · split
        · exact same_conf _ _ _
        · exact same_refl _
    · exact ih
theorem MidP.same {D k o : Int} {on b : Bool} {p q : Po} (h : MidP D k o on b q) (e : SameY p q) : MidP D k o on b p := by
  obtain ⟨e1, e2, e3, e4, e5, e6, e7⟩ := e
  unfold MidP
  rw [desB_keep e5 e6 e7, e1, e2, e3, e4]
  exact h
theorem PhP.same {D k o : Int} {on : Bool} {p q : Po} (h : PhP D k o on q) (e : SameY p q) : PhP D k o on p := by
  obtain ⟨e1, e2, e3, e4, e5, e6, e7⟩ := e
  unfold PhP
  rw [desB_keep e5 e6 e7, e1, e2, e3, e4]
  exact h
/-- Behind the first three steps. -/
theorem tick1_ports (t : Th) (L : List Po) : Alike SameY (tick1 t L).1.2 (L.map (tkP t)) := by
  have h : (tick1 t L).1.2 = (helloS (hellB t) (tkT t, L.map (tkP t))).1.2 := by
    unfold tick1 toldS tcnS
    repeat (split <;> try rfl)
  rw [h]
  unfold helloS
  split
  · exact same_all _ _ _
  · exact same_refl _
/-- All ports at second k. -/
def PhL (D k : Int) (o : Int) (C : List PV) (L : List Po) : Prop := L.length = C.length ∧ ∀ (j : Nat) x p, C[j]? = some x → L[j]? = some p → PhP D k o x.on p
def someK (C : List PV) : Nat → Bool
  | 0 => false
  | k + 1 => someK C k || (match C[k]? with | some x => x.on | none => false)
theorem phL_step {D k o : Int} {C : List PV} {t : Th} {L : List Po} (hD : 1 ≤ D ∧ D ≤ 1000) (hk : 0 ≤ k) (ht : t.n3 = 256 * D) (h : PhL D k o C L) :
    PhL D (k + 1) o C (mixL (goesP (flagB (delB t) L)) L.length (tick1 t L).1.2) ∧ ∀ n, n ≤ L.length → (anyF (flagB (delB t) L) (tick1 t L).1.2 n = true ↔ (someK C n = true ∧ k + 1 = 2 * D)) := by
  have hs := tick1_ports t L
  have hl : (tick1 t L).1.2.length = L.length := by rw [hs.1, List.length_map]
  have mid : ∀ (j : Nat) x p q, C[j]? = some x → L[j]? = some p → (tick1 t L).1.2[j]? = some q → MidP D (k + 1) o x.on (delB t p) q := by
    intro j x p q hx hp hq
    have hm : (L.map (tkP t))[j]? = some (tkP t p) := by rw [List.getElem?_map, hp]; rfl
    exact (ph_fire hD hk ht (h.2 j x p hx hp)).same (hs.2 j q _ hq hm)
  have fl : ∀ (j : Nat) p, L[j]? = some p → flagB (delB t) L j = delB t p := fun j p hp => by unfold flagB; rw [hp]
  constructor
  · refine ⟨by rw [mixL_len, hl]; exact h.1, fun j x p hx hp => ?_⟩
    rw [mixL_get] at hp
    cases hq : (tick1 t L).1.2[j]? with
    | none => rw [hq] at hp; cases hp
    | some q =>
      have hj := po_lt hq
      rw [hq, Option.map_some, if_pos (by omega)] at hp
      obtain ⟨y, hy⟩ : ∃ y, L[j]? = some y := ⟨L[j]'(by omega), List.getElem?_eq_getElem _⟩
      have := (ph_next hD.1 (mid j x y q hx hy hq)).1
      unfold goesP at hp
      rw [fl j y hy] at hp
      cases hp
      exact this
  · intro n
    induction n with
    | zero => intro _; simp [anyF, someK]
    | succ n ih =>
      intro hn
      have ih := ih (by omega)
      obtain ⟨p, hp⟩ : ∃ p, L[n]? = some p := ⟨L[n]'(by omega), List.getElem?_eq_getElem _⟩
      obtain ⟨q, hq⟩ : ∃ q, (tick1 t L).1.2[n]? = some q := ⟨(tick1 t L).1.2[n]'(by omega), List.getElem?_eq_getElem _⟩
      obtain ⟨x, hx⟩ : ∃ x, C[n]? = some x := ⟨C[n]'(by have := h.1; omega), List.getElem?_eq_getElem _⟩
      have h2 := (ph_next hD.1 (mid n x p q hx hp hq)).2
      unfold anyF someK
      rw [hq, hx, fl n p hp]
      dsimp only
      rw [Bool.or_eq_true, Bool.or_eq_true, ih, h2]
      constructor
      · rintro (⟨a, b⟩ | ⟨a, b⟩)
        · exact ⟨.inl a, b⟩
        · exact ⟨.inr a, b⟩
      · rintro ⟨a | a, b⟩
        · exact .inl ⟨a, b⟩
        · exact .inr ⟨a, b⟩
/-- The view at second k. -/
def PhT (D M k o : Int) (some : Bool) (t : Th) : Prop := (t.ow = o ∧ t.ro = o ∧ t.xo = false) ∧ (t.n1 = 256 * M ∧ t.n3 = 256 * D ∧ t.m1 = 256 * M ∧ t.m3 = 256 * D) ∧
  (t.ch = true ↔ (some = true ∧ 2 * D ≤ k ∧ k < 3 * D + M)) ∧ (some = true → 2 * D ≤ k → k < 3 * D + M → t.zo = true ∧ t.zv = 256 * (k - 2 * D))
theorem tick1_t {t : Th} {L : List Po} (hx : t.xo = false) : ∃ ho hv, (tick1 t L).1.1 = (if toldB t = true then { tkT t with ho := ho, hv := hv, de := false, ch := false } else { tkT t with ho := ho, hv := hv }) := by
  have hc : tcnB' t = false := by unfold tcnB'; rw [hx]; rfl
  unfold tick1 toldS tcnS helloS
  rw [hc]
  cases toldB t <;> cases hellB t
  · exact ⟨(tkT t).ho, (tkT t).hv, rfl⟩
  · exact ⟨true, 0, rfl⟩
  · exact ⟨(tkT t).ho, (tkT t).hv, rfl⟩
  · exact ⟨true, 0, rfl⟩
theorem phT_step {D M k o : Int} {C : List PV} {t : Th} {L : List Po} (hD : 1 ≤ D ∧ D ≤ 1000) (hM : 1 ≤ M ∧ M ≤ 1000) (hk : 0 ≤ k) (hL : PhL D k o C L) (h : PhT D M k o (someK C C.length) t) :
    PhT D M (k + 1) o (someK C C.length) (tickR t L).1.1 ∧ PhL D (k + 1) o C (tickR t L).1.2 := by
  obtain ⟨⟨h1, h2, h3⟩, ⟨m1, m2, m3, m4⟩, h5, h6⟩ := h
  have hal : Al o t L := ⟨h1, h2, h3, fun p hp => by
    obtain ⟨j, hj, e⟩ := List.getElem_of_mem hp
    obtain ⟨x, hx⟩ : ∃ x, C[j]? = some x := ⟨C[j]'(by have := hL.1; omega), List.getElem?_eq_getElem _⟩
    have := hL.2 j x p hx (by rw [List.getElem?_eq_getElem hj, e])
    exact ⟨this.1, this.2.1⟩⟩
  obtain ⟨q1, q2⟩ := phL_step hD hk m2 hL
  have q3 := q2 L.length (Nat.le_refl _)
  rw [hL.1] at q3
  have et := alone_tick hal
  have e1 : (tickR t L).1.1 = if anyF (flagB (delB t) L) (tick1 t L).1.2 L.length = true then detT (tick1 t L).1.1 else (tick1 t L).1.1 := by
    rw [et, holds_t]
  have e2 : PhL D (k + 1) o C (tickR t L).1.2 := by
    rw [et]
    have hs := same_holds (fl := flagB holB L) (((if anyF (flagB (delB t) L) (tick1 t L).1.2 L.length = true then detT (tick1 t L).1.1 else (tick1 t L).1.1), mixL (goesP (flagB (delB t) L)) L.length (tick1 t L).1.2), (tick1 t L).2) L.length
    refine ⟨hs.1.trans q1.1, fun j x p hx hp => ?_⟩
    obtain ⟨q, hq, e⟩ := hs.get hp
    exact (q1.2 j x q hx hq).same e
  refine ⟨?_, e2⟩
  rw [e1]
  obtain ⟨ho, hv, e3⟩ := tick1_t (L := L) h3
  have hz : tkT t = { t with ho := (firO t.ho t.hv t.n2).1.1, hv := (firO t.ho t.hv t.n2).1.2, xo := (firO t.xo t.xv t.m2).1.1, xv := (firO t.xo t.xv t.m2).1.2, zo := (firO t.zo t.zv (t.m1 + t.m3)).1.1, zv := (firO t.zo t.zv (t.m1 + t.m3)).1.2 } := rfl
  have hx2 : (firO t.xo t.xv t.m2).1.1 = false := by rw [h3]; rfl
  have base : (tick1 t L).1.1.ow = o ∧ (tick1 t L).1.1.ro = o ∧ (tick1 t L).1.1.xo = false ∧ (tick1 t L).1.1.n1 = 256 * M ∧ (tick1 t L).1.1.n3 = 256 * D ∧ (tick1 t L).1.1.m1 = 256 * M ∧ (tick1 t L).1.1.m3 = 256 * D := by
    rw [e3]
    split <;> exact ⟨h1, h2, hx2, m1, m2, m3, m4⟩
  obtain ⟨b1, b2, b3, b4, b5, b6, b7⟩ := base
  by_cases hsm : someK C C.length = true ∧ k + 1 = 2 * D
  · rw [← hL.1] at q3 hsm
    rw [if_pos (q3.2 hsm), det_root (b2.trans b1.symm)]
    rw [hL.1] at hsm
    refine ⟨⟨b1, b2, b3⟩, ⟨b4, b5, b6, b7⟩, ⟨fun _ => ⟨hsm.1, by omega, by omega⟩, fun _ => rfl⟩, fun _ _ _ => ⟨rfl, by dsimp only; omega⟩⟩
  · rw [← hL.1] at q3
    rw [if_neg (fun e => hsm (by rw [← hL.1]; exact q3.1 e))]
    refine ⟨⟨b1, b2, b3⟩, ⟨b4, b5, b6, b7⟩, ?_⟩
    rw [e3]
    by_cases hw : someK C C.length = true ∧ 2 * D ≤ k ∧ k < 3 * D + M
    · obtain ⟨z1, z2⟩ := h6 hw.1 hw.2.1 hw.2.2
      have hc := h5.2 hw
      have hf : firO t.zo t.zv (t.m1 + t.m3) = if k + 1 < 3 * D + M then ((true, 256 * (k + 1 - 2 * D)), false) else ((false, 0), true) := by
        unfold firO
        rw [z1, if_pos rfl, z2, later_sec (by omega) (by omega), m3, m4]
        by_cases q : k + 1 < 3 * D + M
        · rw [if_neg (by omega), if_pos q, show k - 2 * D + 1 = k + 1 - 2 * D by omega]
        · rw [if_pos (by omega), if_neg q]
      have ht : toldB t = !decide (k + 1 < 3 * D + M) := by
        unfold toldB
        rw [hf]
        split <;> rename_i q <;> simp [q]
      by_cases q : k + 1 < 3 * D + M
      · rw [ht, decide_eq_true q, if_neg (by decide)]
        rw [if_pos q] at hf
        refine ⟨⟨fun _ => ⟨hw.1, by omega, q⟩, fun _ => hc⟩, fun _ _ _ => ?_⟩
        rw [hz]
        dsimp only
        rw [hf]
        exact ⟨rfl, rfl⟩
      · rw [ht, decide_eq_false q, if_pos (by decide)]
        refine ⟨⟨(fun e => by cases e), fun e => absurd e.2.2 q⟩, fun _ _ e => absurd e q⟩
    · have hc : t.ch = false := by
        cases e : t.ch with
        | false => rfl
        | true => exact absurd (h5.1 e) hw
      have hn : ¬ (someK C C.length = true ∧ 2 * D ≤ k + 1 ∧ k + 1 < 3 * D + M) := by
        rintro ⟨a, b, c⟩
        by_cases q : 2 * D ≤ k
        · exact hw ⟨a, q, by omega⟩
        · exact hsm ⟨a, by omega⟩
      refine ⟨⟨fun e => ?_, fun e => absurd e hn⟩, fun a b c => absurd ⟨a, b, c⟩ hn⟩
      have : (tkT t).ch = false := hc
      split at e
      · cases e
      · dsimp only at e
        rw [this] at e
        cases e

/-- What a port is that tells when it is told to. -/
def HeP (o : Int) (on : Bool) (p : Po) : Prop := desB p o = true ∧ p.ao = false ∧ p.pe = false ∧ 0 ≤ p.hv ∧ (p.st = 0 ↔ on = false)
def HeL (o : Int) (C : List PV) (L : List Po) : Prop := L.length = C.length ∧ ∀ (j : Nat) x p, C[j]? = some x → L[j]? = some p → HeP o x.on p
def HeT (H k o : Int) (t : Th) : Prop := t.ow = o ∧ t.ro = o ∧ t.xo = false ∧ 0 < t.n1 ∧ t.n2 = 256 * H ∧ t.ho = true ∧ t.hv = 256 * (k % H)
def onK (C : List PV) : Nat → Nat
  | 0 => 0
  | k + 1 => onK C k + (match C[k]? with | some x => (if x.on = true then 1 else 0) | none => 0)
theorem he_fire {o : Int} {on : Bool} {t : Th} {p : Po} (h : HeP o on p) : HeP o on (tkP t p) ∧ (tkP t p).ho = false := by
  obtain ⟨h1, h2, h3, h4, h5⟩ := h
  have e : (firO p.ho p.hv 256).1.1 = false ∧ 0 ≤ (firO p.ho p.hv 256).1.2 := by
    unfold firO
    split
    · rw [if_pos (by unfold laterI; omega)]
      exact ⟨rfl, Int.le_refl _⟩
    · exact ⟨rfl, h4⟩
  refine ⟨⟨h1, ?_, h3, e.2, h5⟩, e.1⟩
  unfold tkP
  dsimp only
  rw [h2]
  rfl
theorem he_step {o : Int} {on : Bool} {t : Th} {a : Int} {p : Po} (h : HeP o on p) (hh : p.ho = false) : HeP o on (stepP t a p) := by
  unfold stepP
  split
  · rw [hh, if_neg (by decide)]
    split
    · exact h
    · exact ⟨h.1, h.2.1, rfl, Int.le_refl _, h.2.2.2.2⟩
  · exact h
theorem he_tells {o : Int} {on : Bool} {t : Th} {p : Po} (h : HeP o on p) (ho : t.ow = o) : tellsB t p = on := by
  obtain ⟨h1, h2⟩ := des_hb h.1
  have h5 := h.2.2.2.2
  unfold tellsB
  rw [ho, h1, h2]
  cases on with
  | false =>
    have := h5.2 rfl
    simp [this]
  | true =>
    have : ¬ p.st = 0 := fun e => by have := h5.1 e; cases this
    simp [this]
/-- All tell, where no Hold runs. -/
theorem he_all {o : Int} {C : List PV} {t : Th} {L : List Po} (ho : t.ow = o) (hr : t.ro = o) (hn : 0 < t.n1) (h : HeL o C L) (hh : ∀ p ∈ L, p.ho = false) :
    (∀ k, k ≤ L.length → (allR t L k).2.length = onK C k) ∧ HeL o C (allR t L L.length).1 := by
  have h0 : toldI t L = 0 := by unfold toldI; rw [if_pos (hr.trans ho.symm)]
  constructor
  · intro k
    induction k with
    | zero => intro _; rfl
    | succ k ih =>
      intro hk
      have ih := ih (by omega)
      obtain ⟨p, hp⟩ : ∃ p, L[k]? = some p := ⟨L[k]'(by omega), List.getElem?_eq_getElem _⟩
      obtain ⟨x, hx⟩ : ∃ x, C[k]? = some x := ⟨C[k]'(by have := h.1; omega), List.getElem?_eq_getElem _⟩
      have hP := h.2 k x p hx hp
      have hm : (allR t L k).1[k]? = some p := by rw [allR_fst]; exact mixL_at hp
      show (allStep t (allR t L k) k).2.length = onK C k + _
      rw [hx]
      dsimp only
      cases hon : x.on with
      | false =>
        rw [allStep_no hm (by rw [he_tells hP ho, hon]), if_neg (by decide)]
        exact ih
      | true =>
        rw [allStep_yes hm (by rw [he_tells hP ho, hon]), if_pos rfl]
        dsimp only
        rw [List.length_append, ih, confR_at hm, hh p (List.mem_of_getElem? hp), if_neg (by decide), allR_told, h0, if_neg (by omega)]
        rfl
  · refine ⟨by rw [allR_fst, mixL_len]; exact h.1, fun j x p hx hp => ?_⟩
    rw [allR_fst, mixL_get] at hp
    cases hq : L[j]? with
    | none => rw [hq] at hp; cases hp
    | some q =>
      rw [hq, Option.map_some, if_pos (po_lt hq)] at hp
      cases hp
      exact he_step (h.2 j x q hx hq) (hh q (List.mem_of_getElem? hq))
theorem he_goes {o : Int} {C : List PV} {L : List Po} {fl : Nat → Bool} {n : Nat} (h : HeL o C L) : HeL o C (mixL (goesP fl) n L) := by
  refine ⟨by rw [mixL_len]; exact h.1, fun j x p hx hp => ?_⟩
  rw [mixL_get] at hp
  cases hq : L[j]? with
  | none => rw [hq] at hp; cases hp
  | some q =>
    rw [hq, Option.map_some] at hp
    have hQ := h.2 j x q hx hq
    cases hp
    split
    · unfold goesP
      split
      · obtain ⟨a1, a2, a3, a4, a5, a6, a7, a8, a9⟩ := next_parts q
        refine ⟨by rw [desB_keep a1 a2 a3]; exact hQ.1, by rw [a5]; exact hQ.2.1, by rw [a6]; exact hQ.2.2.1, by rw [a8]; exact hQ.2.2.2.1, a9.trans hQ.2.2.2.2⟩
      · exact hQ
    · exact hQ
theorem mod_next {k H : Int} (hH : 1 ≤ H) (hk : 0 ≤ k) : (k % H + 1 = H ∧ (k + 1) % H = 0) ∨ (k % H + 1 < H ∧ (k + 1) % H = k % H + 1) := by
  have h1 := Int.emod_nonneg k (show H ≠ 0 by omega)
  have h2 := Int.emod_lt_of_pos k (show 0 < H by omega)
  have e : (k + 1) % H = (k % H + 1) % H := by rw [Int.emod_add_emod]
  rw [e]
  by_cases q : k % H + 1 = H
  · exact .inl ⟨q, by rw [q]; exact Int.emod_self⟩
  · exact .inr ⟨by omega, Int.emod_eq_of_lt (by omega) (by omega)⟩
theorem he_tick {H k o : Int} {C : List PV} {t : Th} {L : List Po} (hH : 1 ≤ H ∧ H ≤ 1000) (hk : 0 ≤ k) (hL : HeL o C L) (h : HeT H k o t) :
    HeT H (k + 1) o (tickR t L).1.1 ∧ HeL o C (tickR t L).1.2 ∧ (tickR t L).2.length = if (k + 1) % H = 0 then onK C C.length else 0 := by
  obtain ⟨h1, h2, h3, h4, h5, h6, h7⟩ := h
  have hmem : ∀ p ∈ L, ∃ on, HeP o on p := fun p hp => by
    obtain ⟨j, hj, e⟩ := List.getElem_of_mem hp
    obtain ⟨x, hx⟩ : ∃ x, C[j]? = some x := ⟨C[j]'(by have := hL.1; omega), List.getElem?_eq_getElem _⟩
    exact ⟨x.on, hL.2 j x p hx (by rw [List.getElem?_eq_getElem hj, e])⟩
  have hal : Al o t L := ⟨h1, h2, h3, fun p hp => by
    obtain ⟨on, h⟩ := hmem p hp
    exact ⟨h.1, h.2.1⟩⟩
  have hL1 : HeL o C (L.map (tkP t)) := by
    refine ⟨by rw [List.length_map]; exact hL.1, fun j x p hx hp => ?_⟩
    rw [List.getElem?_map] at hp
    cases hq : L[j]? with
    | none => rw [hq] at hp; cases hp
    | some q =>
      rw [hq] at hp
      cases hp
      exact (he_fire (hL.2 j x q hx hq)).1
  have hh : ∀ p ∈ L.map (tkP t), p.ho = false := fun p hp => by
    obtain ⟨q, hq, rfl⟩ := List.mem_map.1 hp
    obtain ⟨on, h⟩ := hmem q hq
    exact (he_fire h).2
  have hc : tcnB' t = false := by unfold tcnB'; rw [h3]; rfl
  have hf : firO t.ho t.hv t.n2 = if (k + 1) % H = 0 then ((false, 0), true) else ((true, 256 * ((k + 1) % H)), false) := by
    have hm := Int.emod_nonneg k (show H ≠ 0 by omega)
    have hm2 := Int.emod_lt_of_pos k (show 0 < H by omega)
    unfold firO
    rw [h6, if_pos rfl, h7, later_sec hm (by omega), h5]
    rcases mod_next hH.1 hk with ⟨a, b⟩ | ⟨a, b⟩
    · rw [if_pos (by omega), if_pos b]
    · rw [if_neg (by omega), if_neg (by omega), b]
  have hx2 : (firO t.xo t.xv t.m2).1.1 = false := by rw [h3]; rfl
  obtain ⟨g1, g2⟩ := he_all (t := tkT t) h1 h2 h4 hL1 hh
  have g3 := g1 (L.map (tkP t)).length (Nat.le_refl _)
  have hlm : (L.map (tkP t)).length = C.length := hL1.1
  -- what the first three steps leave
  have key : (HeT H (k + 1) o (tick1 t L).1.1 ∧ HeL o C (tick1 t L).1.2) ∧ (tick1 t L).2.length = if (k + 1) % H = 0 then onK C C.length else 0 := by
    by_cases q : (k + 1) % H = 0
    · have hb : hellB t = true := by unfold hellB; rw [hf, if_pos q]
      have e : tick1 t L = toldS (toldB t) (({ tkT t with ho := true, hv := 0 }, (allR (tkT t) (L.map (tkP t)) (L.map (tkP t)).length).1), (allR (tkT t) (L.map (tkP t)) (L.map (tkP t)).length).2) := by
        unfold tick1 helloS tcnS
        rw [hb, hc]
        rfl
      rw [e, if_pos q]
      unfold toldS
      split
      · exact ⟨⟨⟨h1, h2, hx2, h4, h5, rfl, by rw [q]; rfl⟩, g2⟩, by rw [← hlm]; exact g3⟩
      · exact ⟨⟨⟨h1, h2, hx2, h4, h5, rfl, by rw [q]; rfl⟩, g2⟩, by rw [← hlm]; exact g3⟩
    · have hb : hellB t = false := by unfold hellB; rw [hf, if_neg q]
      have e : tick1 t L = toldS (toldB t) ((tkT t, L.map (tkP t)), []) := by
        unfold tick1 helloS tcnS
        rw [hb, hc]
        rfl
      have a1 : (tkT t).ho = true := by unfold tkT; dsimp only; rw [hf, if_neg q]
      have a2 : (tkT t).hv = 256 * ((k + 1) % H) := by unfold tkT; dsimp only; rw [hf, if_neg q]
      rw [e, if_neg q]
      unfold toldS
      split
      · exact ⟨⟨⟨h1, h2, hx2, h4, h5, a1, a2⟩, hL1⟩, rfl⟩
      · exact ⟨⟨⟨h1, h2, hx2, h4, h5, a1, a2⟩, hL1⟩, rfl⟩
  obtain ⟨⟨k1, k2⟩, k3⟩ := key
  have hg := he_goes (fl := flagB (delB t) L) (n := L.length) k2
  rw [alone_tick hal, fold_same _ (hold_none (fun p hp => by
    obtain ⟨j, hj, e⟩ := List.getElem_of_mem hp
    obtain ⟨x, hx⟩ : ∃ x, C[j]? = some x := ⟨C[j]'(Nat.lt_of_lt_of_eq hj hg.1), List.getElem?_eq_getElem _⟩
    exact (hg.2 j x p hx (by rw [List.getElem?_eq_getElem hj, e])).2.2.1))]
  refine ⟨?_, hg, k3⟩
  dsimp only
  split
  · rw [det_root (k1.2.1.trans k1.1.symm)]
    exact k1
  · exact k1
/-- What a bridge begins with. -/
theorem begin_port {c : Cf} {C : List PV} {j : Nat} {p : Po} (h : (statesL (newT c) (newL c C))[j]? = some p) : ∃ x, C[j]? = some x ∧ p = riseP (newP c C j x) := by
  unfold statesL newL at h
  rw [allL_get, List.getElem?_mapIdx] at h
  cases hx : C[j]? with
  | none => rw [hx] at h; cases h
  | some x =>
    rw [hx] at h
    refine ⟨x, rfl, ?_⟩
    have e : (stP (newT c) j (newP c C j x)).1 = riseP (newP c C j x) := by
      unfold stP
      have h1 : ¬ ((j : Int) = (newT c).rp) := by show ¬ ((j : Int) = -1); omega
      have h2 : desB (newP c C j x) (newT c).ow = true := by
        unfold desB newP newT
        simp
      rw [if_neg h1, if_pos h2]
      rfl
    rw [← e]
    exact (Option.some.inj h).symm
theorem begin_len (c : Cf) (C : List PV) : (statesL (newT c) (newL c C)).length = C.length := by
  unfold statesL newL
  rw [allL_len, List.length_mapIdx]
theorem begin_ph {c : Cf} {C : List PV} {D : Int} (hD : 1 ≤ D) : PhL D 0 (idI c) C (statesL (newT c) (newL c C)) := by
  refine ⟨begin_len c C, fun j x p hx hp => ?_⟩
  obtain ⟨y, hy, rfl⟩ := begin_port hp
  rw [hx] at hy
  cases hy
  cases ho : x.on with
  | false =>
    have e : riseP (newP c C j x) = newP c C j x := by
      unfold riseP newP
      rw [ho]
      rfl
    rw [e]
    refine ⟨by unfold desB newP; simp, rfl, fun _ => ⟨by unfold newP; rw [ho]; rfl, rfl⟩, fun e => by cases e⟩
  | true =>
    have e : riseP (newP c C j x) = { newP c C j x with st := 2, yo := true, yv := 0 } := by
      unfold riseP newP
      rw [ho]
      rfl
    rw [e]
    refine ⟨by unfold desB newP; simp, rfl, fun e => (by cases e), fun _ => .inl ⟨by omega, rfl, rfl, rfl⟩⟩
theorem begin_he {c : Cf} {C : List PV} : HeL (idI c) C (statesL (newT c) (newL c C)) := by
  refine ⟨begin_len c C, fun j x p hx hp => ?_⟩
  obtain ⟨y, hy, rfl⟩ := begin_port hp
  rw [hx] at hy
  cases hy
  cases ho : x.on with
  | false =>
    have e : riseP (newP c C j x) = newP c C j x := by
      unfold riseP newP
      rw [ho]
      rfl
    rw [e]
    refine ⟨by unfold desB newP; simp, rfl, rfl, Int.le_refl _, ⟨fun _ => rfl, fun _ => by unfold newP; rw [ho]; rfl⟩⟩
  | true =>
    have e : riseP (newP c C j x) = { newP c C j x with st := 2, yo := true, yv := 0 } := by
      unfold riseP newP
      rw [ho]
      rfl
    rw [e]
    refine ⟨by unfold desB newP; simp, rfl, rfl, Int.le_refl _, ⟨fun e => (by cases e), fun e => (by cases e)⟩⟩

end Go.Proofs.YtnmnihlhcokjpaaDoor
