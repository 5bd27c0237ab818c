/- Behind an Update: what holds of a view, and that doing it twice changes nothing; behind States: no memory. -/
import Derived.Test.YtkdbhioneoknjaaTreeMath
namespace Go.Proofs.Ytkdbhioneoknjaa
set_option linter.unusedVariables false

/-- Costs that all configurations, and all that is heard, have. -/
def CostB (p : Po) : Prop := 1 ≤ p.co ∧ p.co ≤ 65535 ∧ 0 ≤ p.hc ∧ p.hc < 2147483648

theorem desB_become (t : Th) (p : Po) : desB (becomeP t p) t.ow = true := by simp [desB, becomeP]
theorem desP_yes {t : Th} {p : Po} (h : takesB t p = true) : desP t p = becomeP t p := by unfold desP; rw [if_pos h]
theorem desP_no {t : Th} {p : Po} (h : takesB t p = false) : desP t p = p := by unfold desP; rw [if_neg (by rw [h]; decide)]
theorem desP_twice (t : Th) (p : Po) : desP t (desP t p) = desP t p := by
  cases h : takesB t p with
  | false => rw [desP_no h, desP_no h]
  | true =>
    rw [desP_yes h, desP_yes (by unfold takesB; rw [desB_become]; rfl)]
    rfl
theorem desL_twice (t : Th) (L : List Po) : desL t (desL t L) = desL t L := by
  unfold desL
  apply List.ext_getElem?
  intro j
  rw [allL_get, allL_get]
  cases L[j]? with
  | none => rfl
  | some x => simp only [Option.map_some, desP_twice]
theorem desP_id (t : Th) (p : Po) : (desP t p).id = p.id := by
  cases h : takesB t p with
  | false => rw [desP_no h]
  | true => rw [desP_yes h]; rfl
theorem desP_st (t : Th) (p : Po) : (desP t p).st = p.st := by
  cases h : takesB t p with
  | false => rw [desP_no h]
  | true => rw [desP_yes h]; rfl

theorem may_parts {p : Po} {o : Int} (h : mayB p o = true) : desB p o = false ∧ p.st ≠ 0 ∧ p.hr < o := by
  unfold mayB at h
  simp only [Bool.and_eq_true, Bool.not_eq_true', decide_eq_true_eq] at h
  exact h
theorem may_of {p : Po} {o : Int} (h1 : desB p o = false) (h2 : p.st ≠ 0) (h3 : p.hr < o) : mayB p o = true := by
  unfold mayB
  simp only [Bool.and_eq_true, Bool.not_eq_true', decide_eq_true_eq]
  exact ⟨h1, h2, h3⟩
theorem may_des {p : Po} {o : Int} (h : desB p o = true) : mayB p o = false := by unfold mayB; rw [h]; rfl

/-- The port to the root stays as it is. -/
theorem root_stays {t : Th} {p : Po} (hm : mayB p t.ow = true) (hr : t.ro = p.hr) (hc : t.co = farI p.hc p.co) (hk : CostB p) : takesB t p = false := by
  obtain ⟨h1, h2, h3⟩ := may_parts hm
  obtain ⟨k1, k2, k3, k4⟩ := hk
  unfold takesB
  rw [h1, hr]
  have e := wpI_cases (ownV t p) (heldV p)
  have e2 := cmpV_cases (ownV t p) (heldV p)
  have o1 : (ownV t p).r = p.hr := hr
  have o2 : (ownV t p).c = p.hc + p.co := by show t.co = _; rw [hc]; unfold farI; omega
  have o3 : (heldV p).r = p.hr := rfl
  have o4 : (heldV p).c = p.hc := rfl
  simp only [ne_eq, not_true_eq_false, decide_false, Bool.false_or, decide_eq_false_iff_not]
  omega

/-- What Select finds. -/
theorem sel_cases (t : Th) (L : List Po) :
    (bst t.ow L L.length = none ∧ selectT t L = { t with rp := -1, ro := t.ow, co := 0 } ∧ ∀ (i : Nat) p, L[i]? = some p → mayB p t.ow = false) ∨
    (∃ (j : Nat) (p : Po), L[j]? = some p ∧ bst t.ow L L.length = some j ∧ selectT t L = { t with rp := (j : Int), ro := p.hr, co := farI p.hc p.co } ∧ mayB p t.ow = true ∧ Top t.ow L L.length j) := by
  have hb := bst_spec t.ow L L.length
  revert hb
  cases e : bst t.ow L L.length with
  | none =>
    intro hb
    exact .inl ⟨rfl, by unfold selectT; rw [e]; rfl, fun i p hp => hb i (po_lt hp) p hp⟩
  | some j =>
    intro hb
    obtain ⟨hj, hT⟩ := hb
    have hT' := hT
    obtain ⟨p, h1, h2, _⟩ := hT'
    exact .inr ⟨j, p, h1, rfl, by unfold selectT; rw [e]; simp only [selT, h1], h2, hT⟩

theorem unlike_des {t : Th} {L : List Po} (h : Unlike L) : Unlike (desL t L) := by
  intro i j p q hp hq hn
  unfold desL at hp hq
  rw [allL_get] at hp hq
  cases hi : L[i]? with
  | none => rw [hi] at hp; cases hp
  | some x =>
    cases hj : L[j]? with
    | none => rw [hj] at hq; cases hq
    | some y =>
      rw [hi] at hp
      rw [hj] at hq
      cases hp
      cases hq
      rw [desP_id, desP_id]
      exact h i j x y hi hj hn
theorem des_may {t : Th} {x : Po} (h : mayB (desP t x) t.ow = true) : desP t x = x ∧ mayB x t.ow = true := by
  cases e : takesB t x with
  | false => rw [desP_no e] at h ⊢; exact ⟨rfl, h⟩
  | true => rw [desP_yes e, may_des (desB_become t x)] at h; cases h

theorem select_twice {t : Th} {L : List Po} (hU : Unlike L) (hk : ∀ x ∈ L, CostB x) : selectT (selectT t L) (desL (selectT t L) L) = selectT t L := by
  have how : (selectT t L).ow = t.ow := by
    rcases sel_cases t L with ⟨_, e, _⟩ | ⟨j, p, _, _, e, _⟩ <;> rw [e]
  rcases sel_cases t L with ⟨_, e, hn⟩ | ⟨j, p, hj, _, e, hm, hT⟩
  · rcases sel_cases (selectT t L) (desL (selectT t L) L) with ⟨_, e', _⟩ | ⟨j', p', hj', _, _, hm', _⟩
    · rw [e', e]
    · exfalso
      unfold desL at hj'
      rw [allL_get] at hj'
      cases hx : L[j']? with
      | none => rw [hx] at hj'; cases hj'
      | some x =>
        rw [hx] at hj'
        cases hj'
        have := (des_may hm').2
        rw [how, hn j' x hx] at this
        cases this
  · have hst : takesB (selectT t L) p = false := root_stays (by rw [how]; exact hm) (by rw [e]) (by rw [e]) (hk p (List.mem_of_getElem? hj))
    have hp' : (desL (selectT t L) L)[j]? = some p := by
      unfold desL
      rw [allL_get, hj]
      simp only [Option.map_some, desP_no hst]
    have hlen : (desL (selectT t L) L).length = L.length := allL_len _ _
    have hT' : Top (selectT t L).ow (desL (selectT t L) L) (desL (selectT t L) L).length j := by
      refine ⟨p, hp', by rw [how]; exact hm, fun i hi hne q hq hmq => ?_⟩
      obtain ⟨p0, h1, h2, h3⟩ := hT
      rw [hj] at h1
      cases h1
      unfold desL at hq
      rw [allL_get] at hq
      cases hx : L[i]? with
      | none => rw [hx] at hq; cases hq
      | some x =>
        rw [hx] at hq
        cases hq
        have hd := des_may hmq
        simp only at hd ⊢
        rw [hd.1]
        exact h3 i (by rw [hlen] at hi; exact hi) hne x hx (by have := hd.2; rwa [how] at this)
    rcases sel_cases (selectT t L) (desL (selectT t L) L) with ⟨_, _, hn⟩ | ⟨j', p', hj', _, e', hm', hT''⟩
    · exfalso
      have := hn j p hp'
      rw [how, hm] at this
      cases this
    · obtain rfl := top_one (unlike_des hU) hT'' hT'
      rw [hp'] at hj'
      cases hj'
      rw [e', e]

/-- What holds of each port behind an Update. -/
theorem upd_root {t : Th} {L : List Po} (hk : ∀ x ∈ L, CostB x) {i : Nat} {x : Po} (hx : L[i]? = some x) (hi : (i : Int) = (selectT t L).rp) :
    desP (selectT t L) x = x ∧ desB x t.ow = false ∧ x.st ≠ 0 ∧ x.hr = (selectT t L).ro := by
  rcases sel_cases t L with ⟨_, e, _⟩ | ⟨j, p, hj, _, e, hm, _⟩
  · rw [e] at hi
    simp only at hi
    omega
  · have hij : i = j := by rw [e] at hi; simp only at hi; omega
    subst hij
    rw [hj] at hx
    cases hx
    have how : (selectT t L).ow = t.ow := by rw [e]
    obtain ⟨m1, m2, m3⟩ := may_parts hm
    exact ⟨desP_no (root_stays (by rw [how]; exact hm) (by rw [e]) (by rw [e]) (hk _ (List.mem_of_getElem? hj))), m1, m2, by rw [e]⟩
theorem upd_least {t : Th} {L : List Po} {i : Nat} {x : Po} (hx : L[i]? = some x) (h1 : x.st ≠ 0) (h2 : desB x t.ow = false) : ¬ x.hr < (selectT t L).ro := by
  intro h3
  rcases sel_cases t L with ⟨_, e, hn⟩ | ⟨j, p, hj, _, e, hm, hT⟩
  · rw [e] at h3
    have := hn i x hx
    rw [may_of h2 h1 h3] at this
    cases this
  · rw [e] at h3
    have h3' : x.hr < p.hr := h3
    obtain ⟨m1, m2, m3⟩ := may_parts hm
    have hmx := may_of h2 h1 (show x.hr < t.ow by omega)
    obtain ⟨p0, q1, q2, q3⟩ := hT
    rw [hj] at q1
    cases q1
    by_cases hij : i = j
    · subst hij
      rw [hj] at hx
      cases hx
      omega
    · have := q3 i (po_lt hx) hij x hx hmx
      rw [← Bool.not_eq_true, betterB_iff] at this
      exact this (.inl h3')
theorem upd_is (t : Th) (L : List Po) : ((selectT t L).rp = -1 ∧ (selectT t L).ro = t.ow) ∨ (∃ j : Nat, j < L.length ∧ (selectT t L).rp = j ∧ (selectT t L).ro < t.ow) := by
  rcases sel_cases t L with ⟨_, e, _⟩ | ⟨j, p, hj, _, e, hm, _⟩
  · exact .inl (by rw [e]; exact ⟨rfl, rfl⟩)
  · exact .inr ⟨j, po_lt hj, by rw [e], by rw [e]; exact (may_parts hm).2.2⟩
theorem sel_ow (t : Th) (L : List Po) : (selectT t L).ow = t.ow := by
  rcases sel_cases t L with ⟨_, e, _⟩ | ⟨j, p, _, _, e, _⟩ <;> rw [e]

/-- Behind States. -/
def foreB (t : Th) (j : Nat) (y : Po) : Bool := decide ((j : Int) = t.rp) || desB y t.ow
theorem rise_parts (p : Po) : (riseP p).id = p.id ∧ (riseP p).hb = p.hb ∧ (riseP p).hp = p.hp ∧ (riseP p).ak = p.ak ∧ (riseP p).pe = p.pe ∧ (riseP p).ao = p.ao ∧ (riseP p).av = p.av ∧ (riseP p).st ≠ 1 ∧ ((riseP p).st = 0 ↔ p.st = 0) := by
  unfold riseP
  split
  · rename_i h
    refine ⟨rfl, rfl, rfl, rfl, rfl, rfl, rfl, by (show ¬ (2 : Int) = 1; decide), ?_⟩
    show (2 : Int) = 0 ↔ _
    omega
  · rename_i h
    exact ⟨rfl, rfl, rfl, rfl, rfl, rfl, rfl, h, Iff.rfl⟩
theorem rise_twice {p : Po} (h : p.st ≠ 1) : riseP p = p := by unfold riseP; rw [if_neg h]
theorem block_parts (p : Po) : (blockP p).1.id = p.id ∧ (blockP p).1.hb = p.hb ∧ (blockP p).1.hp = p.hp ∧ (blockP p).1.ak = p.ak ∧ (blockP p).1.pe = p.pe ∧ ((blockP p).1.st = 0 ∨ (blockP p).1.st = 1) ∧ ((blockP p).1.st = 0 ↔ p.st = 0) := by
  unfold blockP
  split
  · rename_i h
    exact ⟨rfl, rfl, rfl, rfl, rfl, h, Iff.rfl⟩
  · rename_i h
    refine ⟨rfl, rfl, rfl, rfl, rfl, .inr rfl, ?_⟩
    simp only
    omega
theorem block_twice {p : Po} (h : p.st = 0 ∨ p.st = 1) : blockP p = (p, false) := by unfold blockP; rw [if_pos h]
theorem owes_twice {p : Po} (h : p.ak = false) (h' : p.pe = false) : owesP p = p := by cases p; simp_all [owesP]
theorem rest_twice {p : Po} (h : p.ao = false) (h' : p.av = 0) : restP p = p := by cases p; simp_all [restP]
theorem desB_keep {p q : Po} {o : Int} (h1 : q.id = p.id) (h2 : q.hb = p.hb) (h3 : q.hp = p.hp) : desB q o = desB p o := by unfold desB; rw [h1, h2, h3]
theorem st_all (t : Th) (j : Nat) (y : Po) :
    desB (stP t j y).1 t.ow = desB y t.ow ∧ ((stP t j y).1.st = 0 ↔ y.st = 0) ∧ ((stP t j y).1.st ≠ 0 → ((stP t j y).1.st = 1 ↔ foreB t j y = false)) ∧ (foreB t j y = false → (stP t j y).1.pe = false ∧ (stP t j y).1.ak = false) ∧ stP t j (stP t j y).1 = ((stP t j y).1, false) := by
  unfold stP foreB
  by_cases h : (j : Int) = t.rp
  · simp only [h, if_true, decide_true, Bool.true_or]
    obtain ⟨a1, a2, a3, a4, a5, a6, a7, a8, a9⟩ := rise_parts (owesP y)
    refine ⟨desB_keep a1 a2 a3, a9, fun _ => ⟨fun e => absurd e a8, (fun e => by cases e)⟩, (fun e => by cases e), ?_⟩
    rw [owes_twice a4 a5, rise_twice a8]
  · simp only [h, if_false, decide_false, Bool.false_or]
    cases d : desB y t.ow with
    | true =>
      obtain ⟨a1, a2, a3, a4, a5, a6, a7, a8, a9⟩ := rise_parts (restP y)
      have hd : desB (riseP (restP y)) t.ow = true := (desB_keep a1 a2 a3).trans d
      simp only [if_true]
      refine ⟨hd, a9, fun _ => ⟨fun e => absurd e a8, (fun e => by cases e)⟩, (fun e => by cases e), ?_⟩
      rw [hd, if_pos rfl, rest_twice a6 a7, rise_twice a8]
    | false =>
      obtain ⟨a1, a2, a3, a4, a5, a6, a7⟩ := block_parts (owesP y)
      have hd : desB (blockP (owesP y)).1 t.ow = false := (desB_keep a1 a2 a3).trans d
      simp only [Bool.false_eq_true, if_false]
      refine ⟨hd, a7, fun e => ⟨fun _ => trivial, fun _ => by rcases a6 with q | q; exact absurd q e; exact q⟩, fun _ => ⟨a5, a4⟩, ?_⟩
      rw [hd]
      simp only [Bool.false_eq_true, if_false]
      rw [owes_twice a4 a5, block_twice a6]
theorem states_twice (t : Th) (L : List Po) : statesL t (statesL t L) = statesL t L := by
  unfold statesL
  apply List.ext_getElem?
  intro j
  rw [allL_get, allL_get]
  cases L[j]? with
  | none => rfl
  | some y => simp only [Option.map_some]; rw [(st_all t j y).2.2.2.2]
theorem lost_twice (t : Th) (L : List Po) : ∀ k, lostB t (statesL t L) k = false
  | 0 => rfl
  | k + 1 => by
    simp only [lostB, lost_twice t L k, Bool.false_or]
    unfold statesL
    rw [allL_get]
    cases L[k]? with
    | none => rfl
    | some y => simp only [Option.map_some]; rw [(st_all t k y).2.2.2.2]

end Go.Proofs.Ytkdbhioneoknjaa
