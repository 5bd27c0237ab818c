/- Several texts in one, one behind the other: TimerEq, TickAwake, TickSends, TickHolds, TickAlone, TickTm, TreeFit, TickFit, TickFits. -/
import Derived.Test.YtnmnihlhcokjpaaGreatDoorRows
import Derived.Test.YtnmnihlhcokjpaaGreatDoorPk01
import Derived.Laws.StructEq
import Derived.Test.YtnmnihlhcokjpaaGreatDoorPk06
import Derived.Test.YtnmnihlhcokjpaaGreatDoorPk16
import Derived.Test.YtnmnihlhcokjpaaGreatDoorPk02
import Derived.BigQuiet
import Derived.Deep.QuietTactic
import Derived.LoopTactic
import Derived.Deep.DeepCutAuto
import Derived.Test.YtnmnihlhcokjpaaGreatDoorPk12
import Derived.Test.YtnmnihlhcokjpaaGreatDoorPk04

/- '==' of timers. -/
namespace Go.Proofs.YtnmnihlhcokjpaaGreatDoor
set_option maxRecDepth 100000
open Go.ChangeShapes Go.WideShapes Go.ChangeAt Go.RowKit
set_option linter.unusedVariables false

/-- '==' of timers. -/
theorem tmr_eq (o q : Bool) (v u : Int) (r : Bool) (hr : (decide (o = q) && decide (v = u)) = r) (w : World) : (Op.equalIn 10000 28 (.agg #[.bool o, .int .i64 v]) (.agg #[.bool q, .int .i64 u])).run Tryz.prog w = .ok r w := by
  rw [show (10000 : Nat) = 9999 + 1 from rfl, run_equalIn_struct w 9999 28 _ _ (by kernel_rfl) (by kernel_rfl)]
  simp only [Program.fieldsOf, Tryz.underlying28]
  subst hr
  cases o <;> cases q <;> go_simp <;> first | (done) | simp_all | (split <;> simp_all)

end Go.Proofs.YtnmnihlhcokjpaaGreatDoor

/- awake of stage 16: the document's example. -/
namespace Go.Proofs.YtnmnihlhcokjpaaGreatDoor
set_option maxRecDepth 100000
open Go.ChangeShapes Go.WideShapes Go.ChangeAt Go.RowKit
set_option linter.unusedVariables false
set_option linter.unusedSimpArgs false

def kC (N : Nat) : Cf := ⟨7, 0, 20, 2, 15, 300, 0, some ⟨N, 0, none⟩, 1, 1⟩
def kL2 : List PV := [⟨0, 19, true⟩]
def kT0 : Th := ⟨7, 7, 0, -1, 5120, 512, 3840, 5120, 512, 3840, false, false, false, 0, false, 0, false, 0⟩
def kT : Th := { kT0 with ho := true, hv := 256 }
def kP : List Po := [⟨1, 1, 19, 7, 0, 7, 1, false, false, false, 0, false, 0, false, 0⟩]
theorem kR_is : (tickR kT kP).1.1.ho = true ∧ (tickR kT kP).1.1.hv = 0 ∧ (tickR kT kP).2.length = 1 ∧ (tickR kT kP).1.2.map (·.ho) = [true] := by
  refine ⟨?_, ?_, ?_, ?_⟩ <;> decide
theorem kB (N : Nat) : CB (kC N) := by
  unfold CB kC
  dsimp only
  decide
theorem k_in (w : World) : PortsIn (w.alloc (.cells #[.int .u8 0, .int .u32 19, .bool true] 55)) (some ⟨w.heap.size, 0, none⟩) (w.alloc (.cells #[.int .u8 0, .int .u32 19, .bool true] 55)).heap.size kL2 := by
  have h := heap_alloc_new w (.cells #[.int .u8 0, .int .u32 19, .bool true] 55)
  have hb : Bk (w.alloc (.cells #[.int .u8 0, .int .u32 19, .bool true] 55)) w.heap.size 55 [.int .u8 0, .int .u32 19, .bool true] := h
  intro k x hx
  match k, hx with
  | 0, hx =>
    cases hx
    refine ⟨_, rfl, by simp, ?_, ?_, ?_, by unfold PB; decide⟩
    · exact hb.cell 0
    · exact hb.cell 1
    · exact hb.cell 2
theorem kTB : ThB kT := by unfold ThB kT; dsimp only; decide
theorem kTF : TkF kT := by unfold TkF kT; dsimp only; decide
theorem kTM : ThTm kT := by unfold ThTm TmFit kT; dsimp only; decide
theorem kPB : ∀ x ∈ kP, PoB x := by
  intro x hx
  obtain rfl := List.mem_singleton.1 hx
  unfold PoB; dsimp only; decide
theorem kPM : ∀ x ∈ kP, PoTm x := by
  intro x hx
  obtain rfl := List.mem_singleton.1 hx
  unfold PoTm TmFit; dsimp only; decide
theorem kPU : Unlike kP := by
  intro i j p q hp hq hn
  have h1 := po_lt hp
  have h2 := po_lt hq
  have e : kP.length = 1 := rfl
  omega

set_option maxHeartbeats 2000000 in
theorem awake16_is (w : World) (hd : Hd w) : Calls Tryz.prog 5 #[] w fun e w' => e = .returned (.bool true) ∧ Below w.heap.size w w' := by
  have HD := Lib.hid hd
  clear hd
  obtain ⟨w1, hw1⟩ : ∃ w1, w.alloc (.cells #[.int .u8 0, .int .u32 19, .bool true] 55) = w1 := ⟨_, rfl⟩
  have HP : Hid (PortsIn w1 (kC w.heap.size).A w1.heap.size kL2) := by rw [← hw1]; exact Lib.hid (k_in w)
  have B1 : Below w.heap.size w w1 := by rw [← hw1]; exact new_below _ _
  have HB1 := Lib.hid B1
  clear B1
  have HN : Hid (Calls Tryz.prog 14 #[.agg #[.int .u64 7, .int .u16 0, .int .i64 20, .int .i64 2, .int .i64 15, .int .i64 300, .int .i64 0, .slice (some ⟨w.heap.size, 0, none⟩) 1 1]] w1 (TOut w1 kT0 1 kP)) :=
    Lib.hid (tnew_is (kC w.heap.size) kL2 (Lib.hid rfl) (Lib.hid (show 1 ≤ 4 by decide)) (Lib.hid (kB w.heap.size)) w1 HP)
  clear HP
  go_enter Tryz.func5, Tryz.ntmps5
  go_wp2_with fail
  (with_reducible refine HN.out.mono ?_); rintro e w2 ⟨D, cap, rfl, hz, TS0⟩
  have HZ := Lib.hid hz
  clear HN hz
  go_upto_region 2 with (refine wpList_store_row rfl 31 _ _ rfl _ _ rfl rfl _ _ (heap_alloc_new _ _) (by kernel_rfl) (by kernel_rfl) (by kernel_rfl) ?_)
  rw [alloc_row]
  have T1 := TS0.al rfl 31 (lT kT0 D 1 cap)
  obtain ⟨G, hG⟩ : ∃ G, w2.heap.size = G := ⟨_, rfl⟩
  rw [hG] at T1 ⊢
  obtain ⟨w3, hw3⟩ : ∃ w3, w2.alloc (.cells (lT kT0 D 1 cap).toArray 31) = w3 := ⟨_, rfl⟩
  rw [hw3] at T1 ⊢
  clear hw3 TS0 hG
  have HS := fun W => Lib.hid (start_is 256 (by decide) (by decide) W)
  rw [show startI 256 = 256 by decide] at HS
  go_wp2_with fail
  (with_reducible refine (HS _).out.mono ?_); rintro e w4 ⟨rfl, b4⟩
  have T2 := T1.below b4
  clear T1 b4 HS
  have c12 := T2.hs.cell 0 12 rfl rfl
  have c13 := T2.hs.cell 0 13 rfl rfl
  have f12 := T2.hs.thaw 0 12 rfl
  have f13 := T2.hs.thaw 0 13 rfl
  go_upto_region 3 with fail
  have T3 : TS w1 [(G, 31, lT kT D 1 cap)] D kP ((w4.setCell ⟨G, 12, none⟩ (.bool true)).setCell ⟨G, 13, none⟩ (.int .i64 256)) := (T2.set 0 rfl 12 (.bool true)).set 0 rfl 13 (.int .i64 256)
  generalize (w4.setCell ⟨G, 12, none⟩ (.bool true)).setCell ⟨G, 13, none⟩ (.int .i64 256) = w5 at T3 ⊢
  clear T2 c12 c13 f12 f13
  have HW := Lib.hid (show Below w.heap.size w w5 from HB1.out.trans (T3.old.mono HB1.out.size))
  obtain ⟨R, hR⟩ : ∃ R, tickR kT kP = R := ⟨_, rfl⟩
  obtain ⟨r1, r2, r3, r4⟩ := kR_is
  rw [hR] at r1 r2 r3 r4
  have HA := Lib.hid (tick_is kT D 1 cap kP (Lib.hid kTF) (Lib.hid kTM) (Lib.hid kPM) (Lib.hid kPU) (Lib.hid rfl) (by decide) (Lib.hid kTB) (Lib.hid kPB) HZ w5 (HD.out.below HW.out (Nat.le_refl _)) (Lib.hid T3.ports))
  rw [hR] at HA
  have H1 := Lib.hid r1
  have H2 := Lib.hid r2
  have H3 := Lib.hid r3
  have H4 := Lib.hid r4
  clear r1 r2 r3 r4 hR
  have hx := T3.hs.bk 0 rfl
  go_wp2_with (with_reducible refine wpList_load_row rfl 31 (.tmp 1) rfl G (by kernel_rfl) _ _ (0, 0) _ hx Tryz.underlying31 rfl (by kernel_rfl) ?_)
  (with_reducible refine HA.out.mono ?_); rintro e w6 ⟨D2, c2, v, rfl, hz2, hT4, hO⟩
  have HB4 := Lib.hid (HW.out.trans (hT4.old.mono HW.out.size))
  clear HA hx T3 HZ hz2
  obtain ⟨A, capo, e⟩ : ∃ A capo, v = .slice A R.2.length capo := by
    obtain ⟨C, hC, hown, -⟩ := hO
    obtain ⟨A, capo, e⟩ := OwnL.shape hown
    exact ⟨A, capo, by rw [e, ← show C.length = R.2.length from by rw [← hC, List.length_map]]⟩
  rw [H3.out] at e
  subst e
  obtain ⟨y, hy, hyo⟩ : ∃ y, R.1.2[0]? = some y ∧ y.ho = true := by
    have h := H4.out
    cases hl : R.1.2 with
    | nil => rw [hl] at h; cases h
    | cons a r =>
      rw [hl] at h
      exact ⟨a, rfl, (List.cons.inj (show a.ho :: r.map (·.ho) = true :: [] from h)).1⟩
  obtain ⟨g, rfl, -⟩ := hT4.at hy
  go_upto_region 4 with (refine wpList_store_row rfl 31 _ _ rfl _ _ rfl rfl _ _ (heap_alloc_new _ _) (by kernel_rfl) (by kernel_rfl) (by kernel_rfl) ?_)
  rw [alloc_row]
  have S5 := hT4.al rfl 31 (lT R.1.1 (some ⟨g, 0, none⟩) 1 c2)
  obtain ⟨G2, hG2⟩ : ∃ G, w6.heap.size = G := ⟨_, rfl⟩
  rw [hG2] at S5 ⊢
  obtain ⟨w7, hw7⟩ : ∃ v, w6.alloc (.cells (lT R.1.1 (some ⟨g, 0, none⟩) 1 c2).toArray 31) = v := ⟨_, rfl⟩
  have bN := new_below w6 (.cells (lT R.1.1 (some ⟨g, 0, none⟩) 1 c2).toArray 31)
  rw [hw7] at S5 bN ⊢
  have HB5 := Lib.hid (HB4.out.trans (bN.mono HB4.out.size))
  clear hw7 hG2 bN hO hT4
  have c12 : ∀ q : LaterW w7, q.w'.cell? ⟨G2, 12, none⟩ = some (.bool true) := fun q => by rw [← H1.out]; exact (S5.below q.h).hs.cell 0 12 rfl rfl
  have c13 : ∀ q : LaterW w7, q.w'.cell? ⟨G2, 13, none⟩ = some (.int .i64 0) := fun q => by rw [← H2.out]; exact (S5.below q.h).hs.cell 0 13 rfl rfl
  have c18 : ∀ q : LaterW w7, q.w'.cell? ⟨G2, 18, none⟩ = some (.slice (some ⟨g, 0, none⟩) 1 c2) := fun q => (S5.below q.h).hs.cell 0 18 rfl rfl
  have p13 : ∀ q : LaterW w7, q.w'.cell? ⟨g, 13, none⟩ = some (.bool true) := fun q => by
    have h := (S5.below q.h).port_cell hy 13 rfl
    rw [hyo] at h
    simpa using h
  have HS := fun W => Lib.hid (start0 W)
  have ET := tmr_eq true true 0 0 true rfl
  refine region_later mixedL (by kernel_rfl) ?_
  repeat (go_big_quiet_step ((go_at_call 15; with_reducible exact Calls.later (HS _).out)))
  refine wpQuiet_nil ?_
  intro v hv
  obtain ⟨r, rfl⟩ := hv
  go_wp2
  go_ret
  exact ⟨rfl, HB5.out.trans (r.h.mono HB5.out.size)⟩

end Go.Proofs.YtnmnihlhcokjpaaGreatDoor

/- By one second, and by what is heard behind it, each port sends one configuration at most: no program. -/
namespace Go.Proofs.YtnmnihlhcokjpaaGreatDoor
set_option maxRecDepth 100000
open Go.ChangeShapes Go.WideShapes Go.ChangeAt Go.RowKit
set_option linter.unusedVariables false

/-- How many configurations go out by a port. -/
def cntI (k : Int) : List Ou → Nat
  | [] => 0
  | o :: r => (if o.i = k ∧ o.x.tc = false then 1 else 0) + cntI k r
theorem cnt_app (k : Int) (a b : List Ou) : cntI k (a ++ b) = cntI k a + cntI k b := by
  induction a with
  | nil => simp [cntI]
  | cons o r ih => simp only [List.cons_append, cntI, ih]; omega
theorem cnt_tcn (k : Int) {M : List Ou} (h : ∀ o ∈ M, o.x.tc = true) : cntI k M = 0 := by
  induction M with
  | nil => rfl
  | cons o r ih =>
    have h1 := h o List.mem_cons_self
    simp only [cntI, ih (fun x hx => h x (List.mem_cons_of_mem _ hx)), h1]
    simp
theorem tcn_tcn (t : Th) (n : Nat) : ∀ o ∈ tcnR t n, o.x.tc = true := by
  unfold tcnR
  split
  · intro o h
    obtain rfl := List.mem_singleton.1 h
    rfl
  · intro o h; cases h
theorem det_tcn (t : Th) (n : Nat) : ∀ o ∈ detO t n, o.x.tc = true := by
  unfold detO
  split
  · intro o h; cases h
  · split
    · intro o h; cases h
    · exact tcn_tcn t n
/-- What goes out leaves a Hold that runs; no port sends while its Hold runs. -/
def Sends (L : List Po) (R : List Po × List Ou) : Prop :=
  R.1.length = L.length ∧ ∀ k : Nat, cntI k R.2 ≤ 1 ∧ (L.length ≤ k → cntI k R.2 = 0) ∧ ∀ p, L[k]? = some p → ∃ q, R.1[k]? = some q ∧ (p.ho = true → q.ho = true ∧ cntI k R.2 = 0) ∧ (cntI k R.2 = 1 → q.ho = true)
theorem Sends.quiet {L L' : List Po} {M : List Ou} (hl : L'.length = L.length) (hq : ∀ (k : Nat) p q, L[k]? = some p → L'[k]? = some q → p.ho = true → q.ho = true) (hM : ∀ o ∈ M, o.x.tc = true) : Sends L (L', M) := by
  refine ⟨hl, fun k => ⟨by rw [cnt_tcn k hM]; omega, fun _ => cnt_tcn k hM, fun p hp => ?_⟩⟩
  have hk : k < L'.length := by rw [hl]; exact po_lt hp
  refine ⟨L'[k], List.getElem?_eq_getElem hk, fun h => ⟨hq k p _ hp (List.getElem?_eq_getElem hk) h, cnt_tcn k hM⟩, fun h => ?_⟩
  rw [cnt_tcn k hM] at h
  cases h
theorem Sends.refl (L : List Po) : Sends L (L, []) := Sends.quiet rfl (fun k p q h h' e => by rw [h] at h'; cases h'; exact e) (fun o h => by cases h)
theorem Sends.trans {L : List Po} {R S : List Po × List Ou} (h : Sends L R) (k : Sends R.1 S) : Sends L (S.1, R.2 ++ S.2) := by
  refine ⟨k.1.trans h.1, fun j => ?_⟩
  obtain ⟨h1, h2, h3⟩ := h.2 j
  obtain ⟨k1, k2, k3⟩ := k.2 j
  dsimp only
  rw [cnt_app]
  rcases Nat.lt_or_ge j L.length with q | q
  · obtain ⟨p, hp⟩ : ∃ p, L[j]? = some p := ⟨L[j], List.getElem?_eq_getElem q⟩
    obtain ⟨y, hy, a1, a2⟩ := h3 p hp
    obtain ⟨z, hz, b1, b2⟩ := k3 y hy
    refine ⟨?_, fun e => absurd e (by omega), fun p' hp' => ?_⟩
    · rcases Nat.lt_or_ge 0 (cntI j R.2) with c | c
      · have := (b1 (a2 (by omega))).2
        omega
      · omega
    · rw [hp] at hp'
      cases hp'
      refine ⟨z, hz, fun e => ?_, fun e => ?_⟩
      · obtain ⟨c1, c2⟩ := a1 e
        obtain ⟨d1, d2⟩ := b1 c1
        exact ⟨d1, by omega⟩
      · rcases Nat.lt_or_ge 0 (cntI j R.2) with c | c
        · exact (b1 (a2 (by omega))).1
        · exact b2 (by omega)
  · have e1 := h2 q
    have e2 := k2 (by rw [h.1]; exact q)
    refine ⟨by omega, fun _ => by omega, fun p hp => ?_⟩
    have := po_lt hp
    omega
theorem Sends.set {L : List Po} {k : Nat} {p y : Po} (hp : L[k]? = some p) (hy : p.ho = true → y.ho = true) {M : List Ou} (hM : ∀ o ∈ M, o.x.tc = true) : Sends L (L.set k y, M) := by
  refine Sends.quiet List.length_set (fun j a b ha hb e => ?_) hM
  by_cases q : k = j
  · subst q
    rw [hp] at ha
    cases ha
    rw [List.getElem?_set_self (po_lt hp)] at hb
    cases hb
    exact hy e
  · rw [List.getElem?_set_ne q, ha] at hb
    cases hb
    exact e
theorem sends_conf (t : Th) (L : List Po) (i : Int) : Sends L (confR t L i) := by
  by_cases h0 : i < 0
  · rw [confR_neg h0]; exact Sends.refl L
  obtain ⟨k, rfl⟩ : ∃ k : Nat, i = k := ⟨i.toNat, by omega⟩
  cases hp : L[k]? with
  | none => rw [confR_out (by have := List.getElem?_eq_none_iff.1 hp; omega)]; exact Sends.refl L
  | some p =>
    rw [confR_at hp]
    cases hh : p.ho with
    | true =>
      rw [if_pos rfl]
      exact Sends.set (y := owingP p) (M := []) hp (fun e => e) (fun o h => by cases h)
    | false =>
      rw [if_neg (by decide)]
      split
      · exact Sends.refl L
      · refine ⟨List.length_set, fun j => ?_⟩
        by_cases q : k = j
        · subst q
          have e1 : cntI (k : Int) [⟨(k : Int), t.ow % 281474976710656, confQ t (toldI t L) p⟩] = 1 := by simp [cntI, confQ]
          rw [e1]
          refine ⟨Nat.le_refl _, fun e => by have := po_lt hp; omega, fun p' hp' => ?_⟩
          rw [hp] at hp'
          cases hp'
          exact ⟨sentP p, List.getElem?_set_self (po_lt hp), (fun e => by rw [hh] at e; cases e), (fun _ => rfl)⟩
        · have e1 : cntI (j : Int) [⟨(k : Int), t.ow % 281474976710656, confQ t (toldI t L) p⟩] = 0 := by
            have : ¬ (k : Int) = (j : Int) := by omega
            simp [cntI, this]
          rw [e1]
          refine ⟨by omega, fun _ => rfl, fun p' hp' => ?_⟩
          exact ⟨p', by rw [List.getElem?_set_ne q]; exact hp', fun e => ⟨e, rfl⟩, fun e => by cases e⟩
theorem sends_all (t : Th) (L : List Po) : ∀ k, Sends L (allR t L k)
  | 0 => Sends.refl L
  | k + 1 => by
    have ih := sends_all t L k
    show Sends L (allStep t (allR t L k) k)
    unfold allStep
    split
    · split
      · exact ih.trans (sends_conf t _ _)
      · exact ih
    · exact ih
theorem st_ho (t : Th) (j : Nat) (p : Po) : (stP t j p).1.ho = p.ho := by
  unfold stP
  split
  · unfold riseP owesP
    split <;> rfl
  · split
    · unfold riseP restP
      split <;> rfl
    · unfold blockP owesP
      split <;> rfl
theorem des_ho (t : Th) (p : Po) : (desP t p).ho = p.ho := by
  unfold desP becomeP
  split <;> rfl
theorem settle_tcn (t : Th) (L : List Po) : ∀ o ∈ (settleR t L).2, o.x.tc = true := by
  unfold settleR
  split
  · exact det_tcn _ _
  · intro o h; cases h
theorem sends_settle (t : Th) (L : List Po) : Sends L ((settleR t L).1.2, (settleR t L).2) := by
  refine Sends.quiet (settle_len t L) (fun k p q hp hq e => ?_) (settle_tcn t L)
  obtain ⟨x, hx, rfl⟩ := settle_at hq
  rw [hp] at hx
  cases hx
  rw [st_ho, des_ho]
  exact e
/-- A second is over. -/
abbrev SendsT (L : List Po) (s : Tk) : Prop := Sends L (s.1.2, s.2)
theorem sends_fold {f : Tk → Nat → Tk} {fl : Nat → Bool} {L : List Po} (hf : ∀ s i, SendsT L s → SendsT L (f s i)) {s : Tk} (h : SendsT L s) : ∀ k, SendsT L (foldS f fl k s)
  | 0 => h
  | k + 1 => by
    have ih := sends_fold (fl := fl) hf h k
    unfold foldS
    split
    · exact hf _ _ ih
    · exact ih
theorem sends_delay {L : List Po} {s : Tk} (h : SendsT L s) (i : Nat) : SendsT L (delayS s i) := by
  unfold delayS
  split
  · exact h
  · rename_i p hp
    have hn : p.ho = true → (nextP p).1.ho = true := by
      unfold nextP
      split
      · exact fun e => e
      · split <;> exact fun e => e
    split
    · exact h.trans (Sends.set hp hn (det_tcn _ _))
    · have := h.trans (Sends.set (M := []) hp hn (fun o h => by cases h))
      rw [List.append_nil] at this
      exact this
theorem sends_age {L : List Po} {s : Tk} (h : SendsT L s) (i : Nat) : SendsT L (ageS s i) := by
  unfold ageS
  split
  · exact h
  · rename_i p hp
    have h1 : SendsT L ((s.1.1, s.1.2.set i (becomeP s.1.1 p)), s.2) := by
      have := h.trans (Sends.set (M := []) (y := becomeP s.1.1 p) hp (fun e => e) (fun o h => by cases h))
      rw [List.append_nil] at this
      exact this
    have h2 : SendsT L ((settleR s.1.1 (s.1.2.set i (becomeP s.1.1 p))).1, s.2 ++ (settleR s.1.1 (s.1.2.set i (becomeP s.1.1 p))).2) := h1.trans (sends_settle _ _)
    dsimp only
    split
    · exact h2.trans (sends_all _ _ _)
    · exact h2
theorem sends_hold {L : List Po} {s : Tk} (h : SendsT L s) (i : Nat) : SendsT L (holdS s i) := by
  unfold holdS
  split
  · exact h
  · split
    · exact h.trans (sends_conf _ _ _)
    · exact h
theorem sends_tick (t : Th) (L : List Po) : SendsT (L.map (tkP t)) (tickR t L) := by
  unfold tickR
  refine sends_fold (fun s i h => sends_hold h i) (sends_fold (fun s i h => sends_age h i) (sends_fold (fun s i h => sends_delay h i) ?_ _) _) _
  unfold tick1
  have h1 : SendsT (L.map (tkP t)) (helloS (hellB t) (tkT t, L.map (tkP t))) := by
    unfold helloS
    split
    · exact sends_all _ _ _
    · exact Sends.refl _
  have h2 : SendsT (L.map (tkP t)) (tcnS (tcnB' t) (helloS (hellB t) (tkT t, L.map (tkP t)))) := by
    unfold tcnS
    split
    · exact h1.trans (Sends.quiet (L := (helloS (hellB t) (tkT t, L.map (tkP t))).1.2) rfl (fun k p q a b e => by rw [a] at b; cases b; exact e) (tcn_tcn _ _))
    · exact h1
  unfold toldS
  split
  · exact h2
  · exact h2
/-- What is heard behind it. -/
theorem late_tcn (r : Bool) (u : Th) (n : Nat) : ∀ o ∈ lateO r u n, o.x.tc = true := by
  unfold lateO
  split
  · split
    · exact tcn_tcn _ _
    · intro o h; cases h
  · intro o h; cases h
theorem sends_took {t : Th} {L : List Po} {k : Nat} {p : Po} {x : Bq} (hp : L[k]? = some p) : Sends L ((tookR t L k p x).1.2, (tookR t L k p x).2) := by
  have h1 : Sends L (L.set k (heldP p x), []) := Sends.set (y := heldP p x) (M := []) hp (fun e => e) (fun o h => by cases h)
  have h2 := h1.trans (sends_settle t (L.set k (heldP p x)))
  rw [List.nil_append] at h2
  have h3 := h2.trans (Sends.quiet (L := (settleR t (L.set k (heldP p x))).1.2) (M := lateO (decide (t.ro = t.ow)) (settleR t (L.set k (heldP p x))).1.1 L.length) rfl (fun k p q a b e => by rw [a] at b; cases b; exact e) (late_tcn _ _ _))
  unfold tookR
  dsimp only
  split
  · exact h3.trans (sends_all _ _ _)
  · exact h3
theorem sends_heard (t : Th) (L : List Po) (i : Int) (x : Bq) : Sends L ((heardR t L i x).1.2, (heardR t L i x).2) := by
  unfold heardR
  split
  · split
    · exact Sends.refl L
    · rename_i p hp
      split
      · exact Sends.refl L
      · split
        · exact sends_took hp
        · split
          · exact sends_conf _ _ _
          · exact Sends.refl L
  · exact Sends.refl L
theorem sends_tcn (t : Th) (L : List Po) (i : Int) : Sends L ((tcnHeardR t L i).1.2, (tcnHeardR t L i).2) := by
  unfold tcnHeardR
  split
  · split
    · exact Sends.refl L
    · rename_i p hp
      split
      · exact Sends.refl L
      · split
        · exact (Sends.set (M := detO t L.length) (y := { p with ak := true }) hp (fun e => e) (det_tcn _ _)).trans (sends_conf _ _ _)
        · exact Sends.refl L
  · exact Sends.refl L
theorem Sends.one {L : List Po} {R : List Po × List Ou} (h : Sends L R) (k : Nat) : cntI k R.2 ≤ 1 := (h.2 k).1

end Go.Proofs.YtnmnihlhcokjpaaGreatDoor

/- What a second leaves of ages, of the root, and of a bridge where nothing runs out: no program. -/
namespace Go.Proofs.YtnmnihlhcokjpaaGreatDoor
set_option maxRecDepth 100000
open Go.ChangeShapes Go.WideShapes Go.ChangeAt Go.RowKit
set_option linter.unusedVariables false

/-- What every step keeps of a port. -/
structure KeepsP (o : Int) (Q : Po → Prop) : Prop where
  sent : ∀ p, Q p → Q (sentP p)
  owing : ∀ p, Q p → Q (owingP p)
  next : ∀ p, Q p → Q (nextP p).1
  become : ∀ t p, t.ow = o → Q p → Q (becomeP t p)
  st : ∀ t j p, t.ow = o → Q p → Q (stP t j p).1
/-- The bridge's number, and its ports. -/
def TI (o : Int) (Q : Po → Prop) (t : Th) (L : List Po) : Prop := t.ow = o ∧ ∀ p ∈ L, Q p
section
variable {o : Int} {Q : Po → Prop}
theorem all_set {L : List Po} {k : Nat} {y : Po} (h : ∀ p ∈ L, Q p) (hy : Q y) : ∀ p ∈ L.set k y, Q p := fun z hz => by
  rcases List.mem_or_eq_of_mem_set hz with q | rfl
  · exact h z q
  · exact hy
theorem conf_keeps (hQ : KeepsP o Q) {t : Th} {L : List Po} (h : ∀ p ∈ L, Q p) (i : Int) : ∀ p ∈ (confR t L i).1, Q p := by
  unfold confR
  split
  · split
    · exact h
    · rename_i p hp
      have hq := h p (List.mem_of_getElem? hp)
      split
      · exact all_set h (hQ.owing p hq)
      · split
        · exact h
        · exact all_set h (hQ.sent p hq)
  · exact h
theorem all_keeps (hQ : KeepsP o Q) {t : Th} {L : List Po} (h : ∀ p ∈ L, Q p) : ∀ k, ∀ p ∈ (allR t L k).1, Q p
  | 0 => h
  | k + 1 => by
    have ih := all_keeps hQ (t := t) h k
    show ∀ p ∈ (allStep t (allR t L k) k).1, Q p
    unfold allStep
    split
    · split
      · exact conf_keeps hQ ih _
      · exact ih
    · exact ih
theorem settle_keeps (hQ : KeepsP o Q) {t : Th} {L : List Po} (h : TI o Q t L) : TI o Q (settleR t L).1.1 (settleR t L).1.2 := by
  refine ⟨(root_settle t L).1.trans ((sel_ow t L).trans h.1), fun y hy => ?_⟩
  obtain ⟨k, hk, e⟩ := List.getElem_of_mem hy
  obtain ⟨x, hx, rfl⟩ := settle_at (show (settleR t L).1.2[k]? = some y by rw [List.getElem?_eq_getElem hk, e])
  have hb := h.2 x (List.mem_of_getElem? hx)
  have ho : (selectT t L).ow = o := (sel_ow t L).trans h.1
  refine hQ.st _ _ _ ho ?_
  unfold desP
  split
  · exact hQ.become _ _ ho hb
  · exact hb
theorem TI.det {t : Th} {L : List Po} (h : TI o Q t L) : TI o Q (detT t) L := ⟨(root_det t).1.trans h.1, h.2⟩
theorem TI.delay (hQ : KeepsP o Q) {s : Tk} (h : TI o Q s.1.1 s.1.2) (i : Nat) : TI o Q (delayS s i).1.1 (delayS s i).1.2 := by
  unfold delayS
  split
  · exact h
  · rename_i p hp
    have h1 : TI o Q s.1.1 (s.1.2.set i (nextP p).1) := ⟨h.1, all_set h.2 (hQ.next p (h.2 p (List.mem_of_getElem? hp)))⟩
    split
    · exact h1.det
    · exact h1
theorem lead_own (t : Th) : (leadT t).ow = t.ow := (root_det { t with n1 := t.m1, n2 := t.m2, n3 := t.m3 }).1
theorem lead_ro (t : Th) : (leadT t).ro = t.ro := (root_det { t with n1 := t.m1, n2 := t.m2, n3 := t.m3 }).2.1
theorem TI.age (hQ : KeepsP o Q) {s : Tk} (h : TI o Q s.1.1 s.1.2) (i : Nat) : TI o Q (ageS s i).1.1 (ageS s i).1.2 := by
  unfold ageS
  split
  · exact h
  · rename_i p hp
    have h1 : TI o Q s.1.1 (s.1.2.set i (becomeP s.1.1 p)) := ⟨h.1, all_set h.2 (hQ.become _ p h.1 (h.2 p (List.mem_of_getElem? hp)))⟩
    have h2 := settle_keeps hQ h1
    dsimp only
    split
    · exact ⟨(lead_own _).trans h2.1, all_keeps hQ h2.2 _⟩
    · exact h2
theorem TI.hold (hQ : KeepsP o Q) {s : Tk} (h : TI o Q s.1.1 s.1.2) (i : Nat) : TI o Q (holdS s i).1.1 (holdS s i).1.2 := by
  unfold holdS
  split
  · exact h
  · split
    · exact ⟨h.1, conf_keeps hQ h.2 _⟩
    · exact h
theorem TI.fold {f : Tk → Nat → Tk} {fl : Nat → Bool} (hf : ∀ s i, TI o Q s.1.1 s.1.2 → TI o Q (f s i).1.1 (f s i).1.2) {s : Tk} (h : TI o Q s.1.1 s.1.2) : ∀ k, TI o Q (foldS f fl k s).1.1 (foldS f fl k s).1.2
  | 0 => h
  | k + 1 => by
    have ih := TI.fold (fl := fl) hf h k
    unfold foldS
    split
    · exact hf _ _ ih
    · exact ih
theorem TI.tick1 (hQ : KeepsP o Q) {t : Th} {L : List Po} (ho : t.ow = o) (h : ∀ p ∈ L, Q (tkP t p)) : TI o Q (tick1 t L).1.1 (tick1 t L).1.2 := by
  have h0 : TI o Q (tkT t) (L.map (tkP t)) := ⟨ho, fun y hy => by
    obtain ⟨p, hp, rfl⟩ := List.mem_map.1 hy
    exact h p hp⟩
  unfold Go.Proofs.YtnmnihlhcokjpaaGreatDoor.tick1
  have h1 : TI o Q (helloS (hellB t) (tkT t, L.map (tkP t))).1.1 (helloS (hellB t) (tkT t, L.map (tkP t))).1.2 := by
    unfold helloS
    split
    · exact ⟨h0.1, all_keeps hQ h0.2 _⟩
    · exact h0
  have h2 : TI o Q (tcnS (tcnB' t) (helloS (hellB t) (tkT t, L.map (tkP t)))).1.1 (tcnS (tcnB' t) (helloS (hellB t) (tkT t, L.map (tkP t)))).1.2 := by
    unfold tcnS
    split
    · exact ⟨h1.1, h1.2⟩
    · exact h1
  unfold toldS
  split
  · exact ⟨h2.1, h2.2⟩
  · exact h2
theorem TI.tick (hQ : KeepsP o Q) {t : Th} {L : List Po} (ho : t.ow = o) (h : ∀ p ∈ L, Q (tkP t p)) : TI o Q (tickR t L).1.1 (tickR t L).1.2 :=
  TI.fold (fun s i h => h.hold hQ i) (TI.fold (fun s i h => h.age hQ i) (TI.fold (fun s i h => h.delay hQ i) (TI.tick1 hQ ho h) _) _) _
end
/-- Ages. -/
def AgeLt (m : Int) (p : Po) : Prop := p.ao = true → p.av < m
/-- Nobody leads. -/
def NoMay (o : Int) (p : Po) : Prop := mayB p o = false
theorem may_keep {p q : Po} {o : Int} (h : NoMay o p) (h1 : q.id = p.id) (h2 : q.hb = p.hb) (h3 : q.hp = p.hp) (h4 : q.hr = p.hr) (h5 : q.st = 0 ↔ p.st = 0) : NoMay o q := by
  unfold NoMay mayB at *
  rw [desB_keep h1 h2 h3, h4]
  rw [← h]
  congr 1
  congr 1
  rw [Bool.eq_iff_iff]
  simp only [decide_eq_true_eq, ne_eq, h5]
theorem noMay_keeps (o : Int) : KeepsP o (NoMay o) where
  sent p h := h
  owing p h := h
  next p h := by
    unfold nextP
    split
    · exact may_keep h rfl rfl rfl rfl ⟨(fun e => by cases e), fun e => by omega⟩
    · split
      · exact may_keep h rfl rfl rfl rfl ⟨(fun e => by cases e), fun e => by omega⟩
      · exact h
  become t p ho h := by
    subst ho
    exact may_des (desB_become t p)
  st t j p _ h := by
    have hh := st_held t j p
    have hs := (st_all t j p).2.1
    exact may_keep h hh.2.2.2.2.1 hh.2.2.1 hh.2.2.2.1 hh.1 hs
theorem sel_none {t : Th} {L : List Po} (h : ∀ p ∈ L, mayB p t.ow = false) : (selectT t L).ro = t.ow := by
  have h1 := bst_spec t.ow L L.length
  cases hb : bst t.ow L L.length with
  | none =>
    unfold selectT selT
    rw [hb]
  | some j =>
    rw [hb] at h1
    obtain ⟨_, p, hp, hm, _⟩ := h1
    rw [h p (List.mem_of_getElem? hp)] at hm
    cases hm
/-- Who took itself for the root still does. -/
def RI (o : Int) (t : Th) (L : List Po) : Prop := TI o (NoMay o) t L ∧ t.ro = o
theorem RI.delay {o : Int} {s : Tk} (h : RI o s.1.1 s.1.2) (i : Nat) : RI o (delayS s i).1.1 (delayS s i).1.2 := by
  refine ⟨h.1.delay (noMay_keeps o) i, ?_⟩
  unfold delayS
  split
  · exact h.2
  · split
    · exact (root_det _).2.1.trans h.2
    · exact h.2
theorem RI.age {o : Int} {s : Tk} (h : RI o s.1.1 s.1.2) (i : Nat) : RI o (ageS s i).1.1 (ageS s i).1.2 := by
  refine ⟨h.1.age (noMay_keeps o) i, ?_⟩
  unfold ageS
  split
  · exact h.2
  · rename_i p hp
    have h1 : TI o (NoMay o) s.1.1 (s.1.2.set i (becomeP s.1.1 p)) := ⟨h.1.1, all_set h.1.2 ((noMay_keeps o).become _ p h.1.1 (h.1.2 p (List.mem_of_getElem? hp)))⟩
    have h2 : (settleR s.1.1 (s.1.2.set i (becomeP s.1.1 p))).1.1.ro = o := by
      rw [(root_settle _ _).2.1, sel_none (fun z hz => by rw [h1.1]; exact h1.2 z hz), h1.1]
    dsimp only
    split
    · exact (lead_ro _).trans h2
    · exact h2
theorem RI.hold {o : Int} {s : Tk} (h : RI o s.1.1 s.1.2) (i : Nat) : RI o (holdS s i).1.1 (holdS s i).1.2 := by
  refine ⟨h.1.hold (noMay_keeps o) i, ?_⟩
  unfold holdS
  split
  · exact h.2
  · split
    · exact h.2
    · exact h.2
theorem RI.fold {o : Int} {f : Tk → Nat → Tk} {fl : Nat → Bool} (hf : ∀ s i, RI o s.1.1 s.1.2 → RI o (f s i).1.1 (f s i).1.2) {s : Tk} (h : RI o s.1.1 s.1.2) : ∀ k, RI o (foldS f fl k s).1.1 (foldS f fl k s).1.2
  | 0 => h
  | k + 1 => by
    have ih := RI.fold (fl := fl) hf h k
    unfold foldS
    split
    · exact hf _ _ ih
    · exact ih
theorem tk_may {t : Th} {p : Po} {o : Int} (h : NoMay o p) : NoMay o (tkP t p) := may_keep h rfl rfl rfl rfl Iff.rfl
theorem tick1_ro (t : Th) (L : List Po) : (tick1 t L).1.1.ro = t.ro := by
  unfold tick1 toldS tcnS helloS tkT
  repeat (split <;> try rfl)
theorem RI.tick {o : Int} {t : Th} {L : List Po} (h : RI o t L) : RI o (tickR t L).1.1 (tickR t L).1.2 :=
  RI.fold (fun s i h => h.hold i) (RI.fold (fun s i h => h.age i) (RI.fold (fun s i h => h.delay i) ⟨TI.tick1 (noMay_keeps o) h.1.1 (fun p hp => tk_may (h.1.2 p hp)), (tick1_ro t L).trans h.2⟩ _) _) _
/-- Nothing runs out but Hold, and nothing is owed. -/
def QuietB (t : Th) (L : List Po) : Prop := t.ho = false ∧ t.xo = false ∧ t.zo = false ∧ 20000 ≤ t.n1 ∧ ∀ p ∈ L, p.pe = false ∧ p.yo = false ∧ (p.ao = true → p.av ≤ 10000)
end Go.Proofs.YtnmnihlhcokjpaaGreatDoor

/- A bridge that is alone, second by second: no program. -/
namespace Go.Proofs.YtnmnihlhcokjpaaGreatDoor
set_option maxRecDepth 100000
open Go.ChangeShapes Go.WideShapes Go.ChangeAt Go.RowKit
set_option linter.unusedVariables false

/-- It takes itself for the root; all its ports hold its own telling. -/
structure Al (o : Int) (t : Th) (L : List Po) : Prop where
  ow : t.ow = o
  ro : t.ro = o
  xo : t.xo = false
  own : ∀ p ∈ L, desB p o = true ∧ p.ao = false
/-- Some port of the first k begins to forward. -/
def anyF (fl : Nat → Bool) (L : List Po) : Nat → Bool
  | 0 => false
  | k + 1 => anyF fl L k || (fl k && (match L[k]? with | some p => (nextP p).2 | none => false))
def goesP (fl : Nat → Bool) (j : Nat) (p : Po) : Po := if fl j = true then (nextP p).1 else p
theorem hold_t (s : Tk) (i : Nat) : (holdS s i).1.1 = s.1.1 := by
  unfold holdS
  split
  · rfl
  · split <;> rfl
/-- What a port is that rises by itself, at second k. -/
def PhP (D k : Int) (o : Int) (on : Bool) (p : Po) : Prop := desB p o = true ∧ p.ao = false ∧ (on = false → p.st = 0 ∧ p.yo = false) ∧
  (on = true → (k < D ∧ p.st = 2 ∧ p.yo = true ∧ p.yv = 256 * k) ∨ (D ≤ k ∧ k < 2 * D ∧ p.st = 3 ∧ p.yo = true ∧ p.yv = 256 * (k - D)) ∨ (2 * D ≤ k ∧ p.st = 4 ∧ p.yo = false))
/-- When its timers have fired. -/
def MidP (D k : Int) (o : Int) (on b : Bool) (p : Po) : Prop := desB p o = true ∧ p.ao = false ∧ (on = false → p.st = 0 ∧ p.yo = false ∧ b = false) ∧
  (on = true → (k < D ∧ p.st = 2 ∧ b = false ∧ p.yo = true ∧ p.yv = 256 * k) ∨ (k = D ∧ p.st = 2 ∧ b = true) ∨ (D < k ∧ k < 2 * D ∧ p.st = 3 ∧ b = false ∧ p.yo = true ∧ p.yv = 256 * (k - D)) ∨ (k = 2 * D ∧ p.st = 3 ∧ b = true ∧ p.yo = false) ∨ (2 * D < k ∧ p.st = 4 ∧ b = false ∧ p.yo = false))
/-- What telling leaves of a port. -/
def SameY (p q : Po) : Prop := p.st = q.st ∧ p.yo = q.yo ∧ p.yv = q.yv ∧ p.ao = q.ao ∧ p.id = q.id ∧ p.hb = q.hb ∧ p.hp = q.hp
theorem SameY.refl (p : Po) : SameY p p := ⟨rfl, rfl, rfl, rfl, rfl, rfl, rfl⟩
theorem SameY.trans {p q r : Po} (h : SameY p q) (k : SameY q r) : SameY p r := ⟨h.1.trans k.1, h.2.1.trans k.2.1, h.2.2.1.trans k.2.2.1, h.2.2.2.1.trans k.2.2.2.1, h.2.2.2.2.1.trans k.2.2.2.2.1, h.2.2.2.2.2.1.trans k.2.2.2.2.2.1, h.2.2.2.2.2.2.trans k.2.2.2.2.2.2⟩
theorem MidP.same {D k o : Int} {on b : Bool} {p q : Po} (h : MidP D k o on b q) (e : SameY p q) : MidP D k o on b p := by
  obtain ⟨e1, e2, e3, e4, e5, e6, e7⟩ := e
  unfold MidP
  rw [desB_keep e5 e6 e7, e1, e2, e3, e4]
  exact h
theorem PhP.same {D k o : Int} {on : Bool} {p q : Po} (h : PhP D k o on q) (e : SameY p q) : PhP D k o on p := by
  obtain ⟨e1, e2, e3, e4, e5, e6, e7⟩ := e
  unfold PhP
  rw [desB_keep e5 e6 e7, e1, e2, e3, e4]
  exact h
/-- All ports at second k. -/
def PhL (D k : Int) (o : Int) (C : List PV) (L : List Po) : Prop := L.length = C.length ∧ ∀ (j : Nat) x p, C[j]? = some x → L[j]? = some p → PhP D k o x.on p
def someK (C : List PV) : Nat → Bool
  | 0 => false
  | k + 1 => someK C k || (match C[k]? with | some x => x.on | none => false)
/-- The view at second k. -/
def PhT (D M k o : Int) (some : Bool) (t : Th) : Prop := (t.ow = o ∧ t.ro = o ∧ t.xo = false) ∧ (t.n1 = 256 * M ∧ t.n3 = 256 * D ∧ t.m1 = 256 * M ∧ t.m3 = 256 * D) ∧
  (t.ch = true ↔ (some = true ∧ 2 * D ≤ k ∧ k < 3 * D + M)) ∧ (some = true → 2 * D ≤ k → k < 3 * D + M → t.zo = true ∧ t.zv = 256 * (k - 2 * D))
/-- What a port is that tells when it is told to. -/
def HeP (o : Int) (on : Bool) (p : Po) : Prop := desB p o = true ∧ p.ao = false ∧ p.pe = false ∧ 0 ≤ p.hv ∧ (p.st = 0 ↔ on = false)
def HeL (o : Int) (C : List PV) (L : List Po) : Prop := L.length = C.length ∧ ∀ (j : Nat) x p, C[j]? = some x → L[j]? = some p → HeP o x.on p
def HeT (H k o : Int) (t : Th) : Prop := t.ow = o ∧ t.ro = o ∧ t.xo = false ∧ 0 < t.n1 ∧ t.n2 = 256 * H ∧ t.ho = true ∧ t.hv = 256 * (k % H)
def onK (C : List PV) : Nat → Nat
  | 0 => 0
  | k + 1 => onK C k + (match C[k]? with | some x => (if x.on = true then 1 else 0) | none => 0)
end Go.Proofs.YtnmnihlhcokjpaaGreatDoor

/- Timers stay such as there are: no program. -/
namespace Go.Proofs.YtnmnihlhcokjpaaGreatDoor
set_option maxRecDepth 100000
open Go.ChangeShapes Go.WideShapes Go.ChangeAt Go.RowKit
set_option linter.unusedVariables false

theorem fir_fit {o : Bool} {v l : Int} (h : TmFit o v) : TmFit (firO o v l).1.1 (firO o v l).1.2 := by
  obtain ⟨h1, h2, h3⟩ := h
  have hb := laterI_bd v h1
  unfold firO
  split
  · split
    · exact ⟨by decide, (by decide : (0 : Int) ≤ 1073741824), .inr rfl⟩
    · exact ⟨by show 0 ≤ laterI v; omega, hb.2, .inl rfl⟩
  · refine ⟨h1, h2, .inr ?_⟩
    rcases h3 with e | e
    · rename_i q
      exact absurd e q
    · exact e
theorem fit_zero (o : Bool) : TmFit o 0 := ⟨by decide, by decide, .inr rfl⟩
theorem poTm_keeps (o : Int) : KeepsP o PoTm where
  sent p h := ⟨h.1, h.2.1, fit_zero true⟩
  owing p h := h
  next p h := by
    unfold nextP
    split
    · exact ⟨fit_zero true, h.2.1, h.2.2⟩
    · split
      · exact h
      · exact h
  become t p _ h := h
  st t j p _ h := by
    unfold stP
    split
    · unfold riseP owesP
      split
      · exact ⟨fit_zero true, h.2.1, h.2.2⟩
      · exact h
    · split
      · unfold riseP restP
        split
        · exact ⟨fit_zero true, fit_zero false, h.2.2⟩
        · exact ⟨h.1, fit_zero false, h.2.2⟩
      · unfold blockP owesP
        split
        · exact h
        · exact ⟨fit_zero false, h.2.1, h.2.2⟩
theorem po_tick {t : Th} {p : Po} (h : PoTm p) : PoTm (tkP t p) := ⟨fir_fit h.1, fir_fit h.2.1, fir_fit h.2.2⟩
theorem th_det {t : Th} (h : ThTm t) : ThTm (detT t) := by
  unfold detT
  split
  · exact ⟨h.1, h.2.1, fit_zero true⟩
  · split
    · exact h
    · exact ⟨h.1, fit_zero true, h.2.2⟩
theorem th_sel {t : Th} (L : List Po) (h : ThTm t) : ThTm (selectT t L) := by
  rcases sel_cases t L with ⟨_, e, _⟩ | ⟨j, p, hj, hbj, e, _⟩ <;> rw [e] <;> exact h
theorem th_settle {t : Th} (L : List Po) (h : ThTm t) : ThTm (settleR t L).1.1 := by
  unfold settleR
  split
  · exact th_det (th_sel L h)
  · exact th_sel L h
theorem th_lead {t : Th} (h : ThTm t) : ThTm (leadT t) := by
  have := th_det (t := { t with n1 := t.m1, n2 := t.m2, n3 := t.m3 }) h
  exact ⟨this.1, fit_zero false, this.2.2⟩
theorem th_tk {t : Th} (h : ThTm t) : ThTm (tkT t) := ⟨fir_fit h.1, fir_fit h.2.1, fir_fit h.2.2⟩
theorem th_tick1 {t : Th} (L : List Po) (h : ThTm t) : ThTm (tick1 t L).1.1 := by
  have h0 := th_tk h
  have h1 : ThTm (helloS (hellB t) (tkT t, L.map (tkP t))).1.1 := by
    unfold helloS
    split
    · exact ⟨fit_zero true, h0.2.1, h0.2.2⟩
    · exact h0
  have h2 : ThTm (tcnS (tcnB' t) (helloS (hellB t) (tkT t, L.map (tkP t)))).1.1 := by
    unfold tcnS
    split
    · exact ⟨h1.1, fit_zero true, h1.2.2⟩
    · exact h1
  unfold tick1 toldS
  split
  · exact h2
  · exact h2
theorem th_fold {f : Tk → Nat → Tk} {fl : Nat → Bool} (hf : ∀ s i, ThTm s.1.1 → ThTm (f s i).1.1) {s : Tk} (h : ThTm s.1.1) : ∀ k, ThTm (foldS f fl k s).1.1
  | 0 => h
  | k + 1 => by
    have ih := th_fold (fl := fl) hf h k
    unfold foldS
    split
    · exact hf _ _ ih
    · exact ih
theorem th_tick {t : Th} (L : List Po) (h : ThTm t) : ThTm (tickR t L).1.1 := by
  unfold tickR
  refine th_fold (fun s i h => by rw [hold_t]; exact h) (th_fold (fun s i h => ?_) (th_fold (fun s i h => ?_) (th_tick1 L h) _) _) _
  · unfold ageS
    split
    · exact h
    · rename_i p hp
      dsimp only
      split
      · have := th_lead (th_settle (s.1.2.set i (becomeP s.1.1 p)) h)
        exact ⟨fit_zero true, this.2.1, this.2.2⟩
      · exact th_settle _ h
  · unfold delayS
    split
    · exact h
    · split
      · exact th_det h
      · exact h
theorem po_settle {t : Th} {L : List Po} (h : ∀ p ∈ L, PoTm p) : ∀ p ∈ (settleR t L).1.2, PoTm p := (settle_keeps (poTm_keeps t.ow) ⟨rfl, h⟩).2
theorem po_ticks {t : Th} {L : List Po} (h : ∀ p ∈ L, PoTm p) : ∀ p ∈ (tickR t L).1.2, PoTm p := (TI.tick (poTm_keeps t.ow) rfl (fun p hp => po_tick (h p hp))).2
/-- All that a second asks of a view, and leaves. -/
def TickOk (t : Th) (L : List Po) (n : Nat) : Prop := TkB (t, L) n ∧ ThTm t ∧ ∀ p ∈ L, PoTm p
theorem TickOk.tick {t : Th} {L : List Po} {n : Nat} (hf : n ≤ 200) (h : TickOk t L n) : TickOk (tickR t L).1.1 (tickR t L).1.2 n := ⟨h.1.tick hf h.2.2, th_tick L h.2.1, po_ticks h.2.2⟩
theorem TickOk.settle {t : Th} {L : List Po} {n : Nat} (hf : n ≤ 200) (h : TickOk t L n) : TickOk (settleR t L).1.1 (settleR t L).1.2 n := ⟨TkB.settle hf h.1, th_settle L h.2.1, po_settle h.2.2⟩
theorem TickOk.bd {t : Th} {L : List Po} {n : Nat} (h : TickOk t L n) : TkF t ∧ ThTm t ∧ (∀ p ∈ L, PoTm p) ∧ Unlike L ∧ L.length = n ∧ ThB t ∧ (∀ p ∈ L, PoB p) := ⟨h.1.2.1, h.2.1, h.2.2, h.1.2.2.2.2, h.1.2.2.2.1, h.1.1, h.1.2.2.1⟩
end Go.Proofs.YtnmnihlhcokjpaaGreatDoor

/- The document's Fit: what it tells if it says yes. -/
namespace Go.Proofs.YtnmnihlhcokjpaaGreatDoor
set_option maxRecDepth 100000
open Go.ChangeShapes Go.WideShapes Go.ChangeAt Go.RowKit
set_option linter.unusedVariables false

/-- What fits, and Fit, hand out. -/
def FitsEnd (w : World) (e : Ending) (w' : World) : Prop := ∃ q : Bool, e = .returned (.bool q) ∧ Below w.heap.size w w'
def FitEnd (w : World) (n : Nat) (L : List Po) (e : Ending) (w' : World) : Prop := ∃ q : Bool, e = .returned (.bool q) ∧ (q = true → n ≤ 12 ∧ Unlike L) ∧ Below w.heap.size w w'

/-- The first i ports have unlike numbers. -/
def UnlikeTo (L : List Po) (i : Nat) : Prop := ∀ (a b : Nat) (p q : Po), a < i → b < a → L[a]? = some p → L[b]? = some q → p.id ≠ q.id
theorem unlike_of {L : List Po} {n : Nat} (hL : L.length = n) (h : UnlikeTo L n) : Unlike L := by
  intro i j p q hi hj e
  have h1 := po_lt hi
  have h2 := po_lt hj
  rcases Nat.lt_or_ge j i with k | k
  · exact h i j p q (by omega) k hi hj
  · exact fun e' => h j i q p (by omega) (by omega) hj hi e'.symm
theorem unlike_step {L : List Po} {i : Nat} {x : Po} (h : UnlikeTo L i) (hx : L[i]? = some x) (hi : ∀ (b : Nat) (q : Po), b < i → L[b]? = some q → q.id ≠ x.id) : UnlikeTo L (i + 1) := by
  intro a b p q ha hb hp hq
  by_cases e : a = i
  · subst e
    rw [hx] at hp
    cases hp
    exact fun e' => hi b q hb hq e'.symm
  · exact h a b p q (by omega) hb hp hq

end Go.Proofs.YtnmnihlhcokjpaaGreatDoor

/- The document's Fit: what it tells, of all timers too, if it says yes. -/
namespace Go.Proofs.YtnmnihlhcokjpaaGreatDoor
set_option maxRecDepth 100000
open Go.ChangeShapes Go.WideShapes Go.ChangeAt Go.RowKit
set_option linter.unusedVariables false

def FitsTEnd (w : World) (o : Bool) (v : Int) (e : Ending) (w' : World) : Prop := ∃ q : Bool, e = .returned (.bool q) ∧ (q = true → TmFit o v) ∧ Below w.heap.size w w'
def FitTEnd (w : World) (t : Th) (n : Nat) (L : List Po) (e : Ending) (w' : World) : Prop := ∃ q : Bool, e = .returned (.bool q) ∧ (q = true → n ≤ 12 ∧ Unlike L ∧ ThTm t ∧ ∀ x ∈ L, PoTm x) ∧ Below w.heap.size w w'
def TmTo (L : List Po) (i : Nat) : Prop := ∀ (b : Nat) (q : Po), b < i → L[b]? = some q → PoTm q
theorem tm_step {L : List Po} {i : Nat} {x : Po} (h : TmTo L i) (hx : L[i]? = some x) (hv : PoTm x) : TmTo L (i + 1) := by
  intro b q hb hq
  by_cases e : b = i
  · subst e
    rw [hx] at hq
    cases hq
    exact hv
  · exact h b q (by omega) hq
theorem tm_of {L : List Po} {n : Nat} (hL : L.length = n) (h : TmTo L n) : ∀ x ∈ L, PoTm x := by
  intro x hx
  obtain ⟨k, hk, e⟩ := List.getElem_of_mem hx
  exact h k x (by omega) (by rw [List.getElem?_eq_getElem hk, e])

theorem fitst_tm (o : Bool) (v : Int) (w : World) :
    Calls Tryz.prog 45 #[.agg #[.bool o, .int .i64 v]] w (FitsTEnd w o v) := by
  by_cases h0 : v < 0
  · go_enter Tryz.func45, Tryz.ntmps45
    go_wp2
    go_ret
    exact ⟨_, rfl, (fun e => by first | cases e | (exfalso; simp at e) | (exfalso; omega)), (Below.refl _ _).alloc (Nat.le_refl _) _⟩
  by_cases h1 : 1073741824 < v
  · go_enter Tryz.func45, Tryz.ntmps45
    go_wp2
    go_ret
    exact ⟨_, rfl, (fun e => by first | cases e | (exfalso; simp at e) | exact ⟨by omega, by omega, by omega⟩), (Below.refl _ _).alloc (Nat.le_refl _) _⟩
  cases o with
  | true =>
    go_enter Tryz.func45, Tryz.ntmps45
    go_wp2
    go_ret
    exact ⟨_, rfl, (fun _ => ⟨by omega, by omega, .inl rfl⟩), (Below.refl _ _).alloc (Nat.le_refl _) _⟩
  | false =>
    by_cases hv0 : v = 0
    · subst hv0
      go_enter Tryz.func45, Tryz.ntmps45
      go_wp2
      go_ret
      exact ⟨_, rfl, (fun _ => ⟨by omega, by omega, .inr rfl⟩), (Below.refl _ _).alloc (Nat.le_refl _) _⟩
    · have hvb : (v == 0) = false := by simpa using hv0
      go_enter Tryz.func45, Tryz.ntmps45
      go_wp2
      go_ret
      exact ⟨_, rfl, (fun e => by first | cases e | simp at e), (Below.refl _ _).alloc (Nat.le_refl _) _⟩

set_option maxRecDepth 100000 in
set_option maxHeartbeats 2000000 in
theorem fitt_is (t : Th) (A : Option Addr) (n cap : Nat) (L : List Po) (hL : Hid (L.length = n)) (hn : n ≤ 9223372036854775807) (w : World) (hp : Hid (PoAt w A w.heap.size L)) :
    Calls Tryz.prog 16 #[.agg (lT t A n cap).toArray] w (FitTEnd w t n L) := by
  obtain ⟨wb, hwb, S⟩ := hs_one w 31 (lT t A n cap)
  go_enter Tryz.func16, Tryz.ntmps16
  go_upto_region 1 with fail
  clear hwb
  obtain ⟨X, hX⟩ : ∃ X, w.heap.size = X := ⟨_, rfl⟩
  rw [hX] at S
  rw [hX]
  have HX := Lib.hid hX
  clear hX
  have c18 := S.cell 0 18 rfl rfl
  by_cases h12 : 12 < n
  · have h12' : (12 : Int) < (n : Int) := by omega
    go_wp2
    go_ret
    exact ⟨false, rfl, (fun e => by cases e), HX.out ▸ S.old⟩
  have h12' : ¬ (12 : Int) < (n : Int) := by omega
  have HN := Lib.hid (show n ≤ 12 by omega)
  clear h12 hn
  have c12 := S.cell 0 12 rfl rfl
  have c13 := S.cell 0 13 rfl rfl
  go_wp2_with fail
  (with_reducible refine (fitst_tm _ _ _).mono ?_); rintro e w1 ⟨q1, rfl, hvw, b1⟩; have HW1 := Lib.hid hvw; clear hvw
  have S1 := S.below b1
  clear S b1 c18 c12 c13
  cases q1 with
  | false =>
    go_wp2
    go_ret
    exact ⟨false, rfl, (fun e => by cases e), HX.out ▸ S1.old⟩
  | true =>
  have c14 := S1.cell 0 14 rfl rfl
  have c15 := S1.cell 0 15 rfl rfl
  go_wp2_with fail
  (with_reducible refine (fitst_tm _ _ _).mono ?_); rintro e w2 ⟨q2, rfl, hvw, b2⟩; have HW2 := Lib.hid hvw; clear hvw
  have S2 := S1.below b2
  clear S1 b2 c14 c15
  cases q2 with
  | false =>
    go_wp2
    go_ret
    exact ⟨false, rfl, (fun e => by cases e), HX.out ▸ S2.old⟩
  | true =>
  have c16 := S2.cell 0 16 rfl rfl
  have c17 := S2.cell 0 17 rfl rfl
  go_wp2_with fail
  (with_reducible refine (fitst_tm _ _ _).mono ?_); rintro e w3 ⟨q3, rfl, hvw, b3⟩; have HW3 := Lib.hid hvw; clear hvw
  have S3 := S2.below b3
  clear S2 b3 c16 c17
  cases q3 with
  | false =>
    go_wp2
    go_ret
    exact ⟨false, rfl, (fun e => by cases e), HX.out ▸ S3.old⟩
  | true =>
  clear h12'
  go_wp2
  go_loopw [3] (fun i wr => ∃ k : Nat, k ≤ n ∧ i = .int .i64 k ∧ Hid (UnlikeTo L k ∧ TmTo L k) ∧ Hs w [(X, 31, lT t A n cap)] wr) (fun i _ => n - (intOf i).toNat)
  case atStart => exact ⟨0, Nat.zero_le _, rfl, Lib.hid ⟨fun a b p q h => by omega, fun b q h => by omega⟩, S3⟩
  case round =>
    clear S3
    obtain ⟨k, hk, rfl, hu, S⟩ := hrel
    have x18 := S.cell 0 18 rfl rfl
    by_cases hkn : k < n
    · obtain ⟨x, hx⟩ := po_at hL.out hkn
      have hki : (k : Int) < (n : Int) := by omega
      have hkz : ¬ (n : Int) ≤ (k : Int) := by omega
      have HP := Lib.hid ((hp.out.below S.old (Nat.le_refl _)).wide S.old.size)
      obtain ⟨ad, hA, hab, h0, h1⟩ := HP.out.cells hx
      have HX2 := Lib.hid hx
      have HA := Lib.hid hA
      have k9 : wr.cell? ⟨(ad.add (k * 15)).block, (ad.add (k * 15)).off + 9, none⟩ = some (.bool x.ao) := h1 8 _ rfl
      have k10 : wr.cell? ⟨(ad.add (k * 15)).block, (ad.add (k * 15)).off + 9 + 1, none⟩ = some (.int .i64 x.av) := h1 9 _ rfl
      have k11 : wr.cell? ⟨(ad.add (k * 15)).block, (ad.add (k * 15)).off + 11, none⟩ = some (.bool x.yo) := h1 10 _ rfl
      have k12 : wr.cell? ⟨(ad.add (k * 15)).block, (ad.add (k * 15)).off + 11 + 1, none⟩ = some (.int .i64 x.yv) := h1 11 _ rfl
      have k13 : wr.cell? ⟨(ad.add (k * 15)).block, (ad.add (k * 15)).off + 13, none⟩ = some (.bool x.ho) := h1 12 _ rfl
      have k14 : wr.cell? ⟨(ad.add (k * 15)).block, (ad.add (k * 15)).off + 13 + 1, none⟩ = some (.int .i64 x.hv) := h1 13 _ rfl
      rw [hA] at x18
      clear hx h0 h1
      go_wp2_with fail
      (with_reducible refine (fitst_tm _ _ _).mono ?_); rintro e v1 ⟨q1, rfl, hva, b1⟩; have HV1 := Lib.hid hva; clear hva
      have T1 := S.below b1
      have j11 : v1.cell? ⟨(ad.add (k * 15)).block, (ad.add (k * 15)).off + 11, none⟩ = some (.bool x.yo) := (b1.cell (by rw [Go.Proofs.YtnmnihlhcokjpaaGreatDoor.add_block]; exact Nat.lt_of_lt_of_le hab (Nat.le_refl _))).trans k11
      have j12 : v1.cell? ⟨(ad.add (k * 15)).block, (ad.add (k * 15)).off + 11 + 1, none⟩ = some (.int .i64 x.yv) := (b1.cell (by rw [Go.Proofs.YtnmnihlhcokjpaaGreatDoor.add_block]; exact hab)).trans k12
      have j13 : v1.cell? ⟨(ad.add (k * 15)).block, (ad.add (k * 15)).off + 13, none⟩ = some (.bool x.ho) := (b1.cell (by rw [Go.Proofs.YtnmnihlhcokjpaaGreatDoor.add_block]; exact hab)).trans k13
      have j14 : v1.cell? ⟨(ad.add (k * 15)).block, (ad.add (k * 15)).off + 13 + 1, none⟩ = some (.int .i64 x.hv) := (b1.cell (by rw [Go.Proofs.YtnmnihlhcokjpaaGreatDoor.add_block]; exact hab)).trans k14
      have hab1 := Nat.lt_of_lt_of_le hab b1.size
      clear k9 k10 k11 k12 k13 k14 x18 S b1 hab
      cases q1 with
      | false =>
        go_wp2
        go_ret
        exact ⟨false, rfl, (fun e => by cases e), HX.out ▸ T1.old⟩
      | true =>
      have x18 := T1.cell 0 18 rfl rfl
      rw [HA.out] at x18
      go_wp2_with fail
      (with_reducible refine (fitst_tm _ _ _).mono ?_); rintro e v2 ⟨q2, rfl, hva, b2⟩; have HV2 := Lib.hid hva; clear hva
      have T2 := T1.below b2
      have i13 : v2.cell? ⟨(ad.add (k * 15)).block, (ad.add (k * 15)).off + 13, none⟩ = some (.bool x.ho) := (b2.cell (by rw [Go.Proofs.YtnmnihlhcokjpaaGreatDoor.add_block]; exact hab1)).trans j13
      have i14 : v2.cell? ⟨(ad.add (k * 15)).block, (ad.add (k * 15)).off + 13 + 1, none⟩ = some (.int .i64 x.hv) := (b2.cell (by rw [Go.Proofs.YtnmnihlhcokjpaaGreatDoor.add_block]; exact hab1)).trans j14
      clear j11 j12 j13 j14 x18 T1 b2 hab1
      cases q2 with
      | false =>
        go_wp2
        go_ret
        exact ⟨false, rfl, (fun e => by cases e), HX.out ▸ T2.old⟩
      | true =>
      have x18 := T2.cell 0 18 rfl rfl
      rw [HA.out] at x18
      go_wp2_with fail
      (with_reducible refine (fitst_tm _ _ _).mono ?_); rintro e v3 ⟨q3, rfl, hva, b3⟩; have HV3 := Lib.hid hva; clear hva
      have T3 := T2.below b3
      clear i13 i14 x18 T2 b3 HP
      cases q3 with
      | false =>
        go_wp2
        go_ret
        exact ⟨false, rfl, (fun e => by cases e), HX.out ▸ T3.old⟩
      | true =>
      go_wp2
      clear hki hkz
      go_loopw [4] (fun i wr => ∃ j : Nat, j ≤ k ∧ i = .int .i64 j ∧ Hid (∀ (b : Nat) (q : Po), b < j → L[b]? = some q → q.id ≠ x.id) ∧ Hs w [(X, 31, lT t A n cap)] wr) (fun i _ => k - (intOf i).toNat)
      case atStart => exact ⟨0, Nat.zero_le _, rfl, Lib.hid (fun b q h => by omega), T3⟩
      case round =>
        clear T3
        obtain ⟨j, hj, rfl, hs, S⟩ := hrel
        by_cases hjk : j < k
        · have hji : (j : Int) < (k : Int) := by omega
          have hjn : (j : Int) < (n : Int) := by omega
          have hjz : ¬ (n : Int) ≤ (j : Int) := by omega
          have hkn' : (k : Int) < (n : Int) := by omega
          have hkz : ¬ (n : Int) ≤ (k : Int) := by omega
          obtain ⟨y, hy⟩ := po_at hL.out (show j < n by omega)
          have HY := Lib.hid hy
          have HP := Lib.hid ((hp.out.below S.old (Nat.le_refl _)).wide S.old.size)
          obtain ⟨a1, e1, hab, h0, -⟩ := HP.out.cells HX2.out
          obtain rfl : ad = a1 := Option.some.inj (HA.out.symm.trans e1)
          obtain ⟨a2, e2, -, g0, -⟩ := HP.out.cells hy
          obtain rfl : ad = a2 := Option.some.inj (HA.out.symm.trans e2)
          have x18 := S.cell 0 18 rfl rfl
          rw [HA.out] at x18
          obtain ⟨p, hp1⟩ : ∃ p, (y.id == x.id) = p := ⟨_, rfl⟩
          have HPP := Lib.hid hp1
          clear hy e1 e2
          cases p with
          | true =>
            go_upto_region 11 with fail
            go_quiet (fail)
            go_wp2
            go_ret
            exact ⟨false, rfl, (fun e => by cases e), HX.out ▸ (S.old.trans ⟨rfl, rfl, rfl, Nat.le_refl _, fun _ _ => rfl⟩ : Below w.heap.size w (wr.drewN nq))⟩
          | false =>
            go_upto_region 11 with fail
            go_quiet (fail)
            have S4 := S.below (show Below wr.heap.size wr (wr.drewN nq) from ⟨rfl, rfl, rfl, Nat.le_refl _, fun _ _ => rfl⟩)
            generalize wr.drewN nq = w4 at S4 ⊢
            clear S h0 g0 x18 HP
            have hN := HN.out
            go_wp2
            exact ⟨⟨j + 1, hjk, by go_num, Lib.hid (fun b q hb hq => by
              by_cases e : b = j
              · subst e
                rw [HY.out] at hq
                cases hq
                simpa using HPP.out
              · exact hs.out b q (by omega) hq), S4⟩, by simp [intOf]; omega⟩
        · have hjz : ¬ (j : Int) < (k : Int) := by omega
          have hje : j = k := by omega
          have hN := HN.out
          go_wp2
          rw [← HA.out]
          go_roundw
          case rel => exact ⟨k + 1, by omega, by go_num, Lib.hid ⟨unlike_step hu.out.1 HX2.out (fun b q hb hq => hs.out b q (by omega) hq), tm_step hu.out.2 HX2.out ⟨HV2.out (by trivial), HV1.out (by trivial), HV3.out (by trivial)⟩⟩, S⟩
          case measure => simp [intOf]; omega
    · have hkz : ¬ (k : Int) < (n : Int) := by omega
      have hke : k = n := by omega
      go_wp2
      go_ret
      exact ⟨true, rfl, (fun _ => ⟨HN.out, unlike_of hL.out (hke ▸ hu.out.1), ⟨HW1.out (by trivial), HW2.out (by trivial), HW3.out (by trivial)⟩, tm_of hL.out (hke ▸ hu.out.2)⟩), HX.out ▸ S.old⟩

end Go.Proofs.YtnmnihlhcokjpaaGreatDoor

/- The law's fits of stage 16: contract. -/
namespace Go.Proofs.YtnmnihlhcokjpaaGreatDoor
set_option maxRecDepth 100000
open Go.ChangeShapes Go.WideShapes Go.ChangeAt Go.RowKit
set_option linter.unusedVariables false
set_option linter.unusedSimpArgs false

def Fits16End (w : World) (t : Th) (n : Nat) (L : List Po) (e : Ending) (w' : World) : Prop := ∃ q : Bool, e = .returned (.bool q) ∧ (q = true → TkF t ∧ n ≤ 12 ∧ Unlike L ∧ ThTm t ∧ ∀ x ∈ L, PoTm x) ∧ Below w.heap.size w w'
set_option maxHeartbeats 2000000 in
theorem fits16_is (t : Th) (A : Option Addr) (n cap : Nat) (L : List Po) (hL : Hid (L.length = n)) (hn : n ≤ 9223372036854775807) (w : World) (hp : Hid (PoAt w A w.heap.size L)) :
    Calls Tryz.prog 6 #[.agg (lT t A n cap).toArray] w (Fits16End w t n L) := by
  have HF := fun W (h : Below w.heap.size w W) => Lib.hid (fitt_is t A n cap L hL hn W (Lib.hid ((hp.out.below h (Nat.le_refl _)).wide h.size)))
  obtain ⟨wb, hwb, S⟩ := hs_one w 31 (lT t A n cap)
  go_enter Tryz.func6, Tryz.ntmps6
  go_upto_region 1 with fail
  clear hwb
  obtain ⟨X, hX⟩ : ∃ X, w.heap.size = X := ⟨_, rfl⟩
  rw [hX] at S ⊢
  clear hX
  have c4 := S.cell 0 4 rfl rfl
  have c5 := S.cell 0 5 rfl rfl
  have c6 := S.cell 0 6 rfl rfl
  have c7 := S.cell 0 7 rfl rfl
  have c8 := S.cell 0 8 rfl rfl
  have c9 := S.cell 0 9 rfl rfl
  go_wp2
  clear c4 c5 c6 c7 c8 c9
  have S1 := S.al rfl 26 [.int .i64 t.n1, .int .i64 t.n2, .int .i64 t.n3, .int .i64 t.m1, .int .i64 t.m2, .int .i64 t.m3]
  obtain ⟨G, hG⟩ : ∃ G, wb.heap.size = G := ⟨_, rfl⟩
  rw [hG] at S1 ⊢
  obtain ⟨w1, hw1⟩ : ∃ y, wb.alloc (.cells #[.int .i64 t.n1, .int .i64 t.n2, .int .i64 t.n3, .int .i64 t.m1, .int .i64 t.m2, .int .i64 t.m3] 26) = y := ⟨_, rfl⟩
  have S2 : Hs w [(G, 26, [.int .i64 t.n1, .int .i64 t.n2, .int .i64 t.n3, .int .i64 t.m1, .int .i64 t.m2, .int .i64 t.m3]), (X, 31, lT t A n cap)] w1 := by rw [← hw1]; exact S1
  rw [hw1]
  clear hw1 hG S S1
  go_loopw [11] (fun i wr => ∃ k : Nat, k ≤ 2 ∧ i = .int .i64 k ∧ Hid ((1 ≤ k → (0 ≤ t.n1 ∧ t.n1 ≤ 65535) ∧ (0 ≤ t.n2 ∧ t.n2 ≤ 65535) ∧ (0 ≤ t.n3 ∧ t.n3 ≤ 65535)) ∧ (2 ≤ k → (0 ≤ t.m1 ∧ t.m1 ≤ 65535) ∧ (0 ≤ t.m2 ∧ t.m2 ≤ 65535) ∧ (0 ≤ t.m3 ∧ t.m3 ≤ 65535))) ∧ Hs w [(G, 26, [.int .i64 t.n1, .int .i64 t.n2, .int .i64 t.n3, .int .i64 t.m1, .int .i64 t.m2, .int .i64 t.m3]), (X, 31, lT t A n cap)] wr) (fun i _ => 2 - (intOf i).toNat)
  case atStart => exact ⟨0, by omega, rfl, Lib.hid ⟨fun h => by omega, fun h => by omega⟩, S2⟩
  case round =>
    clear S2
    obtain ⟨k, hk, rfl, hb, S⟩ := hrel
    match k, hk with
    | 0, _ =>
      have g0 := S.cell 0 0 rfl rfl
      have g1 := S.cell 0 1 rfl rfl
      have g2 := S.cell 0 2 rfl rfl
      by_cases k3 : t.n1 < 0
      · go_wp2
        go_ret
        exact ⟨false, rfl, (fun e => by cases e), (S.al rfl 26 [.int .i64 t.n1, .int .i64 t.n2, .int .i64 t.n3]).old⟩
      by_cases k7 : 65535 < t.n1
      · go_wp2
        go_ret
        exact ⟨false, rfl, (fun e => by cases e), (S.al rfl 26 [.int .i64 t.n1, .int .i64 t.n2, .int .i64 t.n3]).old⟩
      by_cases k11 : t.n2 < 0
      · go_wp2
        go_ret
        exact ⟨false, rfl, (fun e => by cases e), (S.al rfl 26 [.int .i64 t.n1, .int .i64 t.n2, .int .i64 t.n3]).old⟩
      by_cases k15 : 65535 < t.n2
      · go_wp2
        go_ret
        exact ⟨false, rfl, (fun e => by cases e), (S.al rfl 26 [.int .i64 t.n1, .int .i64 t.n2, .int .i64 t.n3]).old⟩
      by_cases k19 : t.n3 < 0
      · go_wp2
        go_ret
        exact ⟨false, rfl, (fun e => by cases e), (S.al rfl 26 [.int .i64 t.n1, .int .i64 t.n2, .int .i64 t.n3]).old⟩
      by_cases k23 : 65535 < t.n3
      · go_wp2
        go_ret
        exact ⟨false, rfl, (fun e => by cases e), (S.al rfl 26 [.int .i64 t.n1, .int .i64 t.n2, .int .i64 t.n3]).old⟩
      have HN := Lib.hid (show (0 ≤ t.n1 ∧ t.n1 ≤ 65535) ∧ (0 ≤ t.n2 ∧ t.n2 ≤ 65535) ∧ (0 ≤ t.n3 ∧ t.n3 ≤ 65535) from by omega)
      have S3 := (S.al rfl 26 [.int .i64 t.n1, .int .i64 t.n2, .int .i64 t.n3]).tail
      go_wp2
      go_roundw
      case rel => exact ⟨1, by omega, by go_num, Lib.hid ⟨fun _ => HN.out, fun h => by omega⟩, S3⟩
      case measure => simp [intOf]
    | 1, _ =>
      have g0 := S.cell 0 3 rfl rfl
      have g1 := S.cell 0 4 rfl rfl
      have g2 := S.cell 0 5 rfl rfl
      by_cases k3 : t.m1 < 0
      · go_wp2
        go_ret
        exact ⟨false, rfl, (fun e => by cases e), (S.al rfl 26 [.int .i64 t.m1, .int .i64 t.m2, .int .i64 t.m3]).old⟩
      by_cases k7 : 65535 < t.m1
      · go_wp2
        go_ret
        exact ⟨false, rfl, (fun e => by cases e), (S.al rfl 26 [.int .i64 t.m1, .int .i64 t.m2, .int .i64 t.m3]).old⟩
      by_cases k11 : t.m2 < 0
      · go_wp2
        go_ret
        exact ⟨false, rfl, (fun e => by cases e), (S.al rfl 26 [.int .i64 t.m1, .int .i64 t.m2, .int .i64 t.m3]).old⟩
      by_cases k15 : 65535 < t.m2
      · go_wp2
        go_ret
        exact ⟨false, rfl, (fun e => by cases e), (S.al rfl 26 [.int .i64 t.m1, .int .i64 t.m2, .int .i64 t.m3]).old⟩
      by_cases k19 : t.m3 < 0
      · go_wp2
        go_ret
        exact ⟨false, rfl, (fun e => by cases e), (S.al rfl 26 [.int .i64 t.m1, .int .i64 t.m2, .int .i64 t.m3]).old⟩
      by_cases k23 : 65535 < t.m3
      · go_wp2
        go_ret
        exact ⟨false, rfl, (fun e => by cases e), (S.al rfl 26 [.int .i64 t.m1, .int .i64 t.m2, .int .i64 t.m3]).old⟩
      have HN := Lib.hid (show (0 ≤ t.m1 ∧ t.m1 ≤ 65535) ∧ (0 ≤ t.m2 ∧ t.m2 ≤ 65535) ∧ (0 ≤ t.m3 ∧ t.m3 ≤ 65535) from by omega)
      have S3 := (S.al rfl 26 [.int .i64 t.m1, .int .i64 t.m2, .int .i64 t.m3]).tail
      go_wp2
      go_roundw
      case rel => exact ⟨2, by omega, by go_num, Lib.hid ⟨fun _ => hb.out.1 (by omega), fun _ => HN.out⟩, S3⟩
      case measure => simp [intOf]
    | 2, _ =>
      have HB := hb
      go_upto_region 7 with fail
      have hx := S.bk 1 rfl
      go_wp2_with (with_reducible refine wpList_load_row rfl 31 (.tmp 1) rfl X (by kernel_rfl) _ _ (0, 0) _ hx Tryz.underlying31 rfl (by kernel_rfl) ?_)
      (with_reducible refine (HF _ S.old).out.mono ?_); rintro e w2 ⟨q, rfl, hq, b2⟩
      have BO := S.old.trans (b2.mono S.old.size)
      have HQ := Lib.hid hq
      clear S hx HF b2 hq
      go_wp2
      go_ret
      refine ⟨q, rfl, fun e => ?_, BO⟩
      obtain ⟨q1, q2, q3, q4⟩ := HQ.out e
      have h1 := HB.out.1 (by omega)
      have h2 := HB.out.2 (by omega)
      exact ⟨⟨h1.1, h1.2.1, h1.2.2, h2.1, h2.2.1, h2.2.2⟩, q1, q2, q3, q4⟩

end Go.Proofs.YtnmnihlhcokjpaaGreatDoor
