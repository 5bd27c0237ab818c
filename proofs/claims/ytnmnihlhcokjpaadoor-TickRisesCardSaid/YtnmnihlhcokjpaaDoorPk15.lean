/- Several texts in one, one behind the other: TickTm. -/
import Derived.Test.YtnmnihlhcokjpaaDoorPk14

/- Timers stay such as there are: no program. -/
namespace Go.Proofs.YtnmnihlhcokjpaaDoor
set_option maxRecDepth 100000
open Go.ChangeShapes Go.WideShapes Go.ChangeAt Go.RowKit
set_option linter.unusedVariables false

theorem fir_fit {o : Bool} {v l : Int} (h : TmFit o v) : TmFit (firO o v l).1.1 (firO o v l).1.2 := by
  obtain ⟨h1, h2, h3⟩ := h
  have hb := laterI_bd v h1
  unfold firO
  split
  · split
    · exact ⟨by decide, (by decide : (0 : Int) ≤ 1073741824), .inr rfl⟩
    · exact ⟨by show 0 ≤ laterI v; omega, hb.2, .inl rfl⟩
  · refine ⟨h1, h2, .inr ?_⟩
    rcases h3 with e | e
    · rename_i q
      exact absurd e q
    · exact e
theorem fit_zero (o : Bool) : TmFit o 0 := ⟨by decide, by decide, .inr rfl⟩
theorem poTm_keeps (o : Int) : KeepsP o PoTm where
  sent p h := ⟨h.1, h.2.1, fit_zero true⟩
  owing p h := h
  next p h := by
    unfold nextP
    split
    · exact ⟨fit_zero true, h.2.1, h.2.2⟩
    · split
      · exact h
      · exact h
  become t p _ h := h
  st t j p _ h := by
    unfold stP
    split
    · unfold riseP owesP
      split
      · exact ⟨fit_zero true, h.2.1, h.2.2⟩
      · exact h
    · split
      · unfold riseP restP
        split
        · exact ⟨fit_zero true, fit_zero false, h.2.2⟩
        · exact ⟨h.1, fit_zero false, h.2.2⟩
      · unfold blockP owesP
        split
        · exact h
        · exact ⟨fit_zero false, h.2.1, h.2.2⟩
theorem po_tick {t : Th} {p : Po} (h : PoTm p) : PoTm (tkP t p) := ⟨fir_fit h.1, fir_fit h.2.1, fir_fit h.2.2⟩
theorem th_det {t : Th} (h : ThTm t) : ThTm (detT t) := by
  unfold detT
  split
  · exact ⟨h.1, h.2.1, fit_zero true⟩
  · split
    · exact h
    · exact ⟨h.1, fit_zero true, h.2.2⟩
theorem th_sel {t : Th} (L : List Po) (h : ThTm t) : ThTm (selectT t L) := by
  rcases sel_cases t L with ⟨_, e, _⟩ | ⟨j, p, hj, hbj, e, _⟩ <;> rw [e] <;> exact h
theorem th_settle {t : Th} (L : List Po) (h : ThTm t) : ThTm (settleR t L).1.1 := by
  unfold settleR
  split
  · exact th_det (th_sel L h)
  · exact th_sel L h
theorem th_lead {t : Th} (h : ThTm t) : ThTm (leadT t) := by
  have := th_det (t := { t with n1 := t.m1, n2 := t.m2, n3 := t.m3 }) h
  exact ⟨this.1, fit_zero false, this.2.2⟩
theorem th_tk {t : Th} (h : ThTm t) : ThTm (tkT t) := ⟨fir_fit h.1, fir_fit h.2.1, fir_fit h.2.2⟩
theorem th_tick1 {t : Th} (L : List Po) (h : ThTm t) : ThTm (tick1 t L).1.1 := by
  have h0 := th_tk h
  have h1 : ThTm (helloS (hellB t) (tkT t, L.map (tkP t))).1.1 := by
    unfold helloS
    split
    · exact ⟨fit_zero true, h0.2.1, h0.2.2⟩
    · exact h0
  have h2 : ThTm (tcnS (tcnB' t) (helloS (hellB t) (tkT t, L.map (tkP t)))).1.1 := by
    unfold tcnS
    split
    · exact ⟨h1.1, fit_zero true, h1.2.2⟩
    · exact h1
  unfold tick1 toldS
  split
  · exact h2
  · exact h2
theorem th_fold {f : Tk → Nat → Tk} {fl : Nat → Bool} (hf : ∀ s i, ThTm s.1.1 → ThTm (f s i).1.1) {s : Tk} (h : ThTm s.1.1) : ∀ k, ThTm (foldS f fl k s).1.1
  | 0 => h
  | k + 1 => by
    have ih := th_fold (fl := fl) hf h k
    unfold foldS
    split
    · exact hf _ _ ih
    · exact ih
theorem th_tick {t : Th} (L : List Po) (h : ThTm t) : ThTm (tickR t L).1.1 := by
  unfold tickR
  refine th_fold (fun s i h => by rw [hold_t]; exact h) (th_fold (fun s i h => ?_) (th_fold (fun s i h => ?_) (th_tick1 L h) _) _) _
  · unfold ageS
    split
    · exact h
    · rename_i p hp
      dsimp only
      split
      · have := th_lead (th_settle (s.1.2.set i (becomeP s.1.1 p)) h)
        exact ⟨fit_zero true, this.2.1, this.2.2⟩
      · exact th_settle _ h
  · unfold delayS
    split
    · exact h
    · split
      · exact th_det h
      · exact h
theorem po_settle {t : Th} {L : List Po} (h : ∀ p ∈ L, PoTm p) : ∀ p ∈ (settleR t L).1.2, PoTm p := (settle_keeps (poTm_keeps t.ow) ⟨rfl, h⟩).2
theorem po_ticks {t : Th} {L : List Po} (h : ∀ p ∈ L, PoTm p) : ∀ p ∈ (tickR t L).1.2, PoTm p := (TI.tick (poTm_keeps t.ow) rfl (fun p hp => po_tick (h p hp))).2
/-- All that a second asks of a view, and leaves. -/
def TickOk (t : Th) (L : List Po) (n : Nat) : Prop := TkB (t, L) n ∧ ThTm t ∧ ∀ p ∈ L, PoTm p
theorem TickOk.tick {t : Th} {L : List Po} {n : Nat} (hf : n ≤ 200) (h : TickOk t L n) : TickOk (tickR t L).1.1 (tickR t L).1.2 n := ⟨h.1.tick hf h.2.2, th_tick L h.2.1, po_ticks h.2.2⟩
theorem TickOk.settle {t : Th} {L : List Po} {n : Nat} (hf : n ≤ 200) (h : TickOk t L n) : TickOk (settleR t L).1.1 (settleR t L).1.2 n := ⟨TkB.settle hf h.1, th_settle L h.2.1, po_settle h.2.2⟩
theorem TickOk.bd {t : Th} {L : List Po} {n : Nat} (h : TickOk t L n) : TkF t ∧ ThTm t ∧ (∀ p ∈ L, PoTm p) ∧ Unlike L ∧ L.length = n ∧ ThB t ∧ (∀ p ∈ L, PoB p) := ⟨h.1.2.1, h.2.1, h.2.2, h.1.2.2.2.2, h.1.2.2.2.1, h.1.1, h.1.2.2.1⟩
/-- What a bridge begins with. -/
theorem begin_unlike {c : Cf} {C : List PV} (hC : C.length ≤ 200) (hb : ∀ x ∈ C, PB x) : Unlike (statesL (newT c) (newL c C)) := by
  intro i j p q hp hq hn
  obtain ⟨x, hx, rfl⟩ := begin_port hp
  obtain ⟨y, hy, rfl⟩ := begin_port hq
  have hi := (List.getElem?_eq_some_iff.1 hx).1
  have hj := (List.getElem?_eq_some_iff.1 hy).1
  have e1 : (riseP (newP c C i x)).id = x.pr * 256 + (i + 1) := by
    rw [(rise_parts _).1]
    show pidI C i = _
    unfold pidI
    rw [if_pos (by omega), Int.toNat_natCast, hx]
  have e2 : (riseP (newP c C j y)).id = y.pr * 256 + (j + 1) := by
    rw [(rise_parts _).1]
    show pidI C j = _
    unfold pidI
    rw [if_pos (by omega), Int.toNat_natCast, hy]
  rw [e1, e2]
  have h1 := hb x (List.mem_of_getElem? hx)
  have h2 := hb y (List.mem_of_getElem? hy)
  unfold PB at h1 h2
  omega
theorem ofI_bd (v : Int) : 0 ≤ ofI v ∧ ofI v ≤ 65535 := by
  unfold ofI
  exact cutI_bd _
theorem begin_ok {c : Cf} {C : List PV} (hC : C.length ≤ 200) (hb : ∀ x ∈ C, PB x) (hi : 0 ≤ idI c ∧ idI c ≤ 18446744073709551615) : TickOk { newT c with ho := true, hv := 0 } (statesL (newT c) (newL c C)) C.length := by
  have h1 := ofI_bd c.ma
  have h2 := ofI_bd c.he
  have h3 := ofI_bd c.de
  have mem : ∀ p ∈ statesL (newT c) (newL c C), ∃ (j : Nat) (x : PV), C[j]? = some x ∧ p = riseP (newP c C j x) := fun p hp => by
    obtain ⟨j, hj, e⟩ := List.getElem_of_mem hp
    obtain ⟨x, hx, e2⟩ := begin_port (show (statesL (newT c) (newL c C))[j]? = some p by rw [List.getElem?_eq_getElem hj, e])
    exact ⟨j, x, hx, e2⟩
  refine ⟨⟨?_, ⟨h1, h2, h3, h1, h2, h3⟩, fun p hp => ?_, begin_len c C, begin_unlike hC hb⟩, ⟨fit_zero true, fit_zero false, fit_zero false⟩, fun p hp => ?_⟩
  · unfold ThB newT
    dsimp only
    omega
  · obtain ⟨j, x, hx, rfl⟩ := mem p hp
    have hj := (List.getElem?_eq_some_iff.1 hx).1
    have hpx := hb x (List.mem_of_getElem? hx)
    have e : pidI C j = x.pr * 256 + (j + 1) := by
      unfold pidI
      rw [if_pos (by omega), Int.toNat_natCast, hx]
    unfold PB at hpx
    have hN : PoB (newP c C j x) := by
      unfold PoB newP
      dsimp only
      rw [e]
      cases x.on
      · simp only [Bool.false_eq_true, if_false]
        omega
      · simp only [if_true]
        omega
    unfold riseP
    split
    · unfold PoB at *
      dsimp only at *
      omega
    · exact hN
  · obtain ⟨j, x, hx, rfl⟩ := mem p hp
    unfold riseP
    split
    · exact ⟨fit_zero true, fit_zero false, fit_zero false⟩
    · exact ⟨fit_zero false, fit_zero false, fit_zero false⟩

end Go.Proofs.YtnmnihlhcokjpaaDoor
