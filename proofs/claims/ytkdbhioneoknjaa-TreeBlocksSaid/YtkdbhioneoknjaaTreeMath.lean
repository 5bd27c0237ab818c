/- What becomes of a view: which port leads to the root, which ones are designated, which ones rise: no memory. -/
import Derived.Test.YtkdbhioneoknjaaTreeSmall
namespace Go.Proofs.Ytkdbhioneoknjaa
set_option linter.unusedVariables false

/-- Does p lead better than q? -/
def betterB (p q : Po) : Bool := decide (orI (cmpV (thruV p) (thruV q)) (cmpI p.id q.id) < 0)
theorem betterB_iff (p q : Po) : betterB p q = true ↔ ((thruV p).r < (thruV q).r ∨ (thruV p).r = (thruV q).r ∧ ((thruV p).c < (thruV q).c ∨ (thruV p).c = (thruV q).c ∧ ((thruV p).b < (thruV q).b ∨ (thruV p).b = (thruV q).b ∧ ((thruV p).p < (thruV q).p ∨ (thruV p).p = (thruV q).p ∧ p.id < q.id)))) := by
  unfold betterB orI
  rw [decide_eq_true_eq]
  generalize thruV p = a
  generalize thruV q = b
  have h1 := wpI_cases a b; have h2 := cmpV_cases a b; have h3 := cmpI_cases p.id q.id
  split <;> omega
theorem betterB_anti {p q : Po} (h : betterB p q = true) : betterB q p = false := by
  rw [betterB_iff] at h
  cases e : betterB q p with
  | false => rfl
  | true => rw [betterB_iff] at e; omega
theorem betterB_trans {p q r : Po} (h : betterB p q = true) (k : betterB q r = true) : betterB p r = true := by
  rw [betterB_iff] at h k ⊢
  generalize thruV p = a at *
  generalize thruV q = b at *
  generalize thruV r = c at *
  omega
theorem betterB_total {p q : Po} (h : betterB p q = false) (k : betterB q p = false) : p.id = q.id := by
  have h' : ¬ betterB p q = true := by rw [h]; decide
  have k' : ¬ betterB q p = true := by rw [k]; decide
  rw [betterB_iff] at h' k'
  omega
/-- As the document says it. -/
theorem betterB_ref (p q : Po) : betterB p q = (lessB (thruV p) (thruV q) || (!lessB (thruV q) (thruV p) && decide (p.id < q.id))) := by
  have h1 := betterB_iff p q; have h2 := lessB_iff (thruV p) (thruV q); have h3 := lessB_iff (thruV q) (thruV p)
  rw [Bool.eq_iff_iff, h1]
  cases a : lessB (thruV p) (thruV q) with
  | true => have := h2.1 a; simp; omega
  | false =>
    have n2 := lessB_no _ _ a
    cases b : lessB (thruV q) (thruV p) with
    | true => have := h3.1 b; simp; omega
    | false => have n3 := lessB_no _ _ b; simp; omega

/-- The place of the port that leads best, among the first k. -/
def bst (o : Int) (L : List Po) : Nat → Option Nat
  | 0 => none
  | k + 1 => match L[k]? with
    | none => bst o L k
    | some p => if mayB p o then (match bst o L k with
      | none => some k
      | some j => match L[j]? with
        | none => some k
        | some q => if betterB p q then some k else some j) else bst o L k
def toI : Option Nat → Int
  | none => -1
  | some j => (j : Int)
theorem bst_lt {o : Int} {L : List Po} : ∀ {k j : Nat}, bst o L k = some j → j < k ∧ j < L.length := by
  intro k
  induction k with
  | zero => intro j h; cases h
  | succ k ih =>
    intro j h
    simp only [bst] at h
    split at h
    · have := ih h; omega
    · rename_i p hp
      have hk := po_lt hp
      split at h
      · split at h
        · cases h; omega
        · rename_i i hi
          have := ih hi
          split at h
          · cases h; omega
          · split at h <;> cases h <;> omega
      · have := ih h; omega

theorem bst_no {o : Int} {L : List Po} {k : Nat} {x : Po} (hx : L[k]? = some x) (hm : mayB x o = false) : bst o L (k + 1) = bst o L k := by simp [bst, hx, hm]
theorem bst_first {o : Int} {L : List Po} {k : Nat} {x : Po} (hx : L[k]? = some x) (hm : mayB x o = true) (hb : bst o L k = none) : bst o L (k + 1) = some k := by simp [bst, hx, hm, hb]
theorem bst_next {o : Int} {L : List Po} {k j : Nat} {x y : Po} {r : Bool} (hx : L[k]? = some x) (hm : mayB x o = true) (hb : bst o L k = some j) (hy : L[j]? = some y) (hr : betterB x y = r) : bst o L (k + 1) = some (if r = true then k else j) := by
  cases r <;> simp [bst, hx, hm, hb, hy, hr]

/-- Nobody of the first k leads better than number j. -/
def Top (o : Int) (L : List Po) (k j : Nat) : Prop := ∃ p, L[j]? = some p ∧ mayB p o = true ∧ ∀ i, i < k → i ≠ j → ∀ q, L[i]? = some q → mayB q o = true → betterB q p = false

theorem bst_spec (o : Int) (L : List Po) : ∀ k, match bst o L k with
    | none => ∀ i, i < k → ∀ p, L[i]? = some p → mayB p o = false
    | some j => j < k ∧ Top o L k j := by
  intro k
  induction k with
  | zero => intro i h; omega
  | succ k ih =>
    simp only [bst]
    cases hp : L[k]? with
    | none =>
      simp only
      revert ih
      cases hb : bst o L k with
      | none =>
        intro ih i hi p hq
        by_cases e : i = k
        · subst e; rw [hp] at hq; cases hq
        · exact ih i (by omega) p hq
      | some j =>
        intro ih
        obtain ⟨hj, p, h1, h2, h3⟩ := ih
        refine ⟨by omega, p, h1, h2, fun i hi hn q hq hm => ?_⟩
        by_cases e : i = k
        · subst e; rw [hp] at hq; cases hq
        · exact h3 i (by omega) hn q hq hm
    | some p =>
      simp only
      by_cases hm : mayB p o = true
      · rw [if_pos hm]
        revert ih
        cases hb : bst o L k with
        | none =>
          intro ih
          refine ⟨by omega, p, hp, hm, fun i hi hn q hq hmq => ?_⟩
          rw [ih i (by omega) q hq] at hmq
          cases hmq
        | some j =>
          intro ih
          obtain ⟨hj, q, h1, h2, h3⟩ := ih
          simp only [h1]
          by_cases hbt : betterB p q = true
          · rw [if_pos hbt]
            refine ⟨by omega, p, hp, hm, fun i hi hn x hx hmx => ?_⟩
            by_cases e : i = j
            · subst e; rw [h1] at hx; cases hx; exact betterB_anti hbt
            · have := h3 i (by omega) e x hx hmx
              cases hxp : betterB x p with
              | false => rfl
              | true => rw [betterB_trans hxp hbt] at this; cases this
          · rw [if_neg hbt]
            refine ⟨by omega, q, h1, h2, fun i hi hn x hx hmx => ?_⟩
            by_cases e : i = k
            · subst e; rw [hp] at hx; cases hx; simpa using hbt
            · exact h3 i (by omega) hn x hx hmx
      · rw [if_neg hm]
        revert ih
        cases hb : bst o L k with
        | none =>
          intro ih i hi q hq
          by_cases e : i = k
          · subst e; rw [hp] at hq; cases hq; simpa using hm
          · exact ih i (by omega) q hq
        | some j =>
          intro ih
          obtain ⟨hj, q, h1, h2, h3⟩ := ih
          refine ⟨by omega, q, h1, h2, fun i hi hn x hx hmx => ?_⟩
          by_cases e : i = k
          · subst e; rw [hp] at hx; cases hx; rw [hmx] at hm; exact absurd rfl hm
          · exact h3 i (by omega) hn x hx hmx

/-- Ports have unlike numbers. -/
def Unlike (L : List Po) : Prop := ∀ (i j : Nat) (p q : Po), L[i]? = some p → L[j]? = some q → i ≠ j → p.id ≠ q.id
theorem top_one {o : Int} {L : List Po} (hU : Unlike L) {i j : Nat} (h : Top o L L.length i) (k : Top o L L.length j) : i = j := by
  by_cases e : i = j
  · exact e
  · obtain ⟨p, h1, h2, h3⟩ := h
    obtain ⟨q, k1, k2, k3⟩ := k
    exact absurd (betterB_total (k3 i (po_lt h1) e p h1 h2) (h3 j (po_lt k1) (fun q => e q.symm) q k1 k2)) (hU i j p q h1 k1 e)
/-- What the document's loop has found behind the first k. -/
def RS (o : Int) (L : List Po) (k : Nat) : Option Nat → Prop
  | none => ∀ i, i < k → ¬ Top o L L.length i
  | some j => j < k ∧ Top o L L.length j
theorem rs_is {o : Int} {L : List Po} (hU : Unlike L) {r : Option Nat} (h : RS o L L.length r) : r = bst o L L.length := by
  have hb := bst_spec o L L.length
  revert hb
  cases e : bst o L L.length with
  | none =>
    intro hb
    cases r with
    | none => rfl
    | some j =>
      obtain ⟨h1, p, h2, h3, _⟩ := h
      rw [hb j h1 p h2] at h3
      cases h3
  | some j =>
    intro hb
    cases r with
    | none => exact absurd hb.2 (h j hb.1)
    | some i => rw [top_one hU h.2 hb.2]

/-- The view with the root, and the port to it. -/
def selT (t : Th) (L : List Po) : Option Nat → Th
  | none => { t with rp := -1, ro := t.ow, co := 0 }
  | some j => match L[j]? with
    | none => { t with rp := -1, ro := t.ow, co := 0 }
    | some p => { t with rp := (j : Int), ro := p.hr, co := farI p.hc p.co }
def selectT (t : Th) (L : List Po) : Th := selT t L (bst t.ow L L.length)

/-- A port that holds what its bridge tells. -/
def becomeP (t : Th) (p : Po) : Po := { p with hr := t.ro, hc := t.co, hb := t.ow, hp := p.id }
def ownV (t : Th) (p : Po) : Vec := ⟨t.ro, t.co, t.ow, p.id⟩
def heldV (p : Po) : Vec := ⟨p.hr, p.hc, p.hb, p.hp⟩
def takesB (t : Th) (p : Po) : Bool := desB p t.ow || (decide (p.hr ≠ t.ro) || decide (cmpV (ownV t p) (heldV p) ≤ 0))
theorem takesB_ref (t : Th) (p : Po) : decide (cmpV (ownV t p) (heldV p) ≤ 0) = !lessB (heldV p) (ownV t p) := by
  have h1 := wpI_cases (ownV t p) (heldV p); have h2 := cmpV_cases (ownV t p) (heldV p); have h3 := lessB_iff (heldV p) (ownV t p)
  rw [Bool.eq_iff_iff, decide_eq_true_eq]
  cases a : lessB (heldV p) (ownV t p) with
  | true => have := h3.1 a; simp; omega
  | false => have n := lessB_no _ _ a; simp; omega
def desP (t : Th) (p : Po) : Po := if takesB t p = true then becomeP t p else p

/-- The first k made anew. -/
def mixL (f : Nat → Po → Po) (k : Nat) (L : List Po) : List Po := L.mapIdx fun j x => if j < k then f j x else x
theorem mixL_len (f : Nat → Po → Po) (k : Nat) (L : List Po) : (mixL f k L).length = L.length := by simp [mixL]
theorem mixL_get (f : Nat → Po → Po) (k : Nat) (L : List Po) (j : Nat) : (mixL f k L)[j]? = (L[j]?).map fun x => if j < k then f j x else x := by simp [mixL]
theorem mixL_at {f : Nat → Po → Po} {k : Nat} {L : List Po} {x : Po} (h : L[k]? = some x) : (mixL f k L)[k]? = some x := by rw [mixL_get, h]; simp
theorem mixL_zero (f : Nat → Po → Po) (L : List Po) : mixL f 0 L = L := by
  apply List.ext_getElem?
  intro j
  rw [mixL_get]
  cases L[j]? <;> simp
theorem mixL_set {f : Nat → Po → Po} {k : Nat} {L : List Po} {x : Po} (h : L[k]? = some x) : (mixL f k L).set k (f k x) = mixL f (k + 1) L := by
  apply List.ext_getElem?
  intro j
  rw [List.getElem?_set, mixL_get, mixL_get, mixL_len]
  by_cases e : k = j
  · subst e
    have := po_lt h
    rw [h, if_pos rfl, if_pos this]
    simp
  · rw [if_neg e]
    cases L[j]? with
    | none => rfl
    | some y =>
      simp only [Option.map_some]
      by_cases q : j < k
      · rw [if_pos q, if_pos (by omega)]
      · rw [if_neg q, if_neg (by omega)]
theorem mixL_same {f : Nat → Po → Po} {k : Nat} {L : List Po} {x : Po} (h : L[k]? = some x) (e : f k x = x) : mixL f k L = mixL f (k + 1) L := by
  rw [← mixL_set h, e]
  apply List.ext_getElem?
  intro j
  rw [List.getElem?_set, mixL_len]
  by_cases q : k = j
  · subst q
    rw [mixL_at h]
    have := po_lt h
    simp [this]
  · rw [if_neg q]
def allL (f : Nat → Po → Po) (L : List Po) : List Po := L.mapIdx f
theorem allL_len (f : Nat → Po → Po) (L : List Po) : (allL f L).length = L.length := by simp [allL]
theorem allL_get (f : Nat → Po → Po) (L : List Po) (j : Nat) : (allL f L)[j]? = (L[j]?).map (f j) := by simp [allL]
theorem allL_at {f : Nat → Po → Po} {L : List Po} {j : Nat} {x : Po} (h : L[j]? = some x) : (allL f L)[j]? = some (f j x) := by rw [allL_get, h]; rfl
theorem mixL_all {f : Nat → Po → Po} {k : Nat} {L : List Po} (h : L.length ≤ k) : mixL f k L = allL f L := by
  apply List.ext_getElem?
  intro j
  rw [mixL_get, allL_get]
  cases e : L[j]? with
  | none => rfl
  | some x => have := po_lt e; simp [show j < k by omega]
def desL (t : Th) (L : List Po) : List Po := allL (fun _ p => desP t p) L

/-- One port, and whether it learnt, or forwarded, and was blocked. -/
def restP (p : Po) : Po := { p with ao := false, av := 0 }
def stP (t : Th) (j : Nat) (p : Po) : Po × Bool := if (j : Int) = t.rp then (riseP (owesP p), false) else if desB p t.ow = true then (riseP (restP p), false) else blockP (owesP p)
def statesL (t : Th) (L : List Po) : List Po := allL (fun j p => (stP t j p).1) L
def lostB (t : Th) (L : List Po) : Nat → Bool
  | 0 => false
  | k + 1 => lostB t L k || (match L[k]? with | some x => (stP t k x).2 | none => false)
theorem lostB_step {t : Th} {L : List Po} {k : Nat} {x : Po} (h : L[k]? = some x) : lostB t L (k + 1) = (lostB t L k || (stP t k x).2) := by simp only [lostB, h]

end Go.Proofs.Ytkdbhioneoknjaa
