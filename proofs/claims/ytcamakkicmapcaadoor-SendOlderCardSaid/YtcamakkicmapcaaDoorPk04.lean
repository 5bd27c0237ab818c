/- Several texts in one, one behind the other: TreeMath, TreeLeads, TreeBest, TreeCopy, TreeSelect, TreeDesig, Inv, TreeJoin, IdsPlain, IdsBase. -/
import Derived.Test.YtcamakkicmapcaaDoorPk03
import Derived.LoopTactic
import Derived.Deep.RegionHeld3
import Derived.Test.YtcamakkicmapcaaDoorPk01
import Derived.WalkKit
import Derived.Test.YtcamakkicmapcaaDoorRows

/- What becomes of a view: which port leads to the root, which ones are designated, which ones rise: no memory. -/
namespace Go.Proofs.YtcamakkicmapcaaDoor
set_option maxRecDepth 100000
set_option linter.unusedVariables false

/-- Does p lead better than q? -/
def betterB (p q : Po) : Bool := decide (orI (cmpV (thruV p) (thruV q)) (cmpI p.id q.id) < 0)
theorem betterB_iff (p q : Po) : betterB p q = true ↔ ((thruV p).r < (thruV q).r ∨ (thruV p).r = (thruV q).r ∧ ((thruV p).c < (thruV q).c ∨ (thruV p).c = (thruV q).c ∧ ((thruV p).b < (thruV q).b ∨ (thruV p).b = (thruV q).b ∧ ((thruV p).p < (thruV q).p ∨ (thruV p).p = (thruV q).p ∧ p.id < q.id)))) := by
  unfold betterB orI
  rw [decide_eq_true_eq]
  generalize thruV p = a
  generalize thruV q = b
  have h1 := wpI_cases a b; have h2 := cmpV_cases a b; have h3 := cmpI_cases p.id q.id
  split <;> omega
theorem betterB_anti {p q : Po} (h : betterB p q = true) : betterB q p = false := by
  rw [betterB_iff] at h
  cases e : betterB q p with
  | false => rfl
  | true => rw [betterB_iff] at e; omega
theorem betterB_trans {p q r : Po} (h : betterB p q = true) (k : betterB q r = true) : betterB p r = true := by
  rw [betterB_iff] at h k ⊢
  generalize thruV p = a at *
  generalize thruV q = b at *
  generalize thruV r = c at *
  omega
theorem betterB_total {p q : Po} (h : betterB p q = false) (k : betterB q p = false) : p.id = q.id := by
  have h' : ¬ betterB p q = true := by rw [h]; decide
  have k' : ¬ betterB q p = true := by rw [k]; decide
  rw [betterB_iff] at h' k'
  omega
/-- As the document says it. -/
theorem betterB_ref (p q : Po) : betterB p q = (lessB (thruV p) (thruV q) || (!lessB (thruV q) (thruV p) && decide (p.id < q.id))) := by
  have h1 := betterB_iff p q; have h2 := lessB_iff (thruV p) (thruV q); have h3 := lessB_iff (thruV q) (thruV p)
  rw [Bool.eq_iff_iff, h1]
  cases a : lessB (thruV p) (thruV q) with
  | true => have := h2.1 a; simp; omega
  | false =>
    have n2 := lessB_no _ _ a
    cases b : lessB (thruV q) (thruV p) with
    | true => have := h3.1 b; simp; omega
    | false => have n3 := lessB_no _ _ b; simp; omega

/-- The place of the port that leads best, among the first k. -/
def bst (o : Int) (L : List Po) : Nat → Option Nat
  | 0 => none
  | k + 1 => match L[k]? with
    | none => bst o L k
    | some p => if mayB p o then (match bst o L k with
      | none => some k
      | some j => match L[j]? with
        | none => some k
        | some q => if betterB p q then some k else some j) else bst o L k
def toI : Option Nat → Int
  | none => -1
  | some j => (j : Int)
theorem bst_lt {o : Int} {L : List Po} : ∀ {k j : Nat}, bst o L k = some j → j < k ∧ j < L.length := by
  intro k
  induction k with
  | zero => intro j h; cases h
  | succ k ih =>
    intro j h
    simp only [bst] at h
    split at h
    · have := ih h; omega
    · rename_i p hp
      have hk := po_lt hp
      split at h
      · split at h
        · cases h; omega
        · rename_i i hi
          have := ih hi
          split at h
          · cases h; omega
          · split at h <;> cases h <;> omega
      · have := ih h; omega

theorem bst_no {o : Int} {L : List Po} {k : Nat} {x : Po} (hx : L[k]? = some x) (hm : mayB x o = false) : bst o L (k + 1) = bst o L k := by simp [bst, hx, hm]
theorem bst_first {o : Int} {L : List Po} {k : Nat} {x : Po} (hx : L[k]? = some x) (hm : mayB x o = true) (hb : bst o L k = none) : bst o L (k + 1) = some k := by simp [bst, hx, hm, hb]
theorem bst_next {o : Int} {L : List Po} {k j : Nat} {x y : Po} {r : Bool} (hx : L[k]? = some x) (hm : mayB x o = true) (hb : bst o L k = some j) (hy : L[j]? = some y) (hr : betterB x y = r) : bst o L (k + 1) = some (if r = true then k else j) := by
  cases r <;> simp [bst, hx, hm, hb, hy, hr]

/-- Nobody of the first k leads better than number j. -/
def Top (o : Int) (L : List Po) (k j : Nat) : Prop := ∃ p, L[j]? = some p ∧ mayB p o = true ∧ ∀ i, i < k → i ≠ j → ∀ q, L[i]? = some q → mayB q o = true → betterB q p = false

theorem bst_spec (o : Int) (L : List Po) : ∀ k, match bst o L k with
    | none => ∀ i, i < k → ∀ p, L[i]? = some p → mayB p o = false
    | some j => j < k ∧ Top o L k j := by
  intro k
  induction k with
  | zero => intro i h; omega
  | succ k ih =>
    simp only [bst]
    cases hp : L[k]? with
    | none =>
      simp only
      revert ih
      cases hb : bst o L k with
      | none =>
        intro ih i hi p hq
        by_cases e : i = k
        · subst e; rw [hp] at hq; cases hq
        · exact ih i (by omega) p hq
      | some j =>
        intro ih
        obtain ⟨hj, p, h1, h2, h3⟩ := ih
        refine ⟨by omega, p, h1, h2, fun i hi hn q hq hm => ?_⟩
        by_cases e : i = k
        · subst e; rw [hp] at hq; cases hq
        · exact h3 i (by omega) hn q hq hm
    | some p =>
      simp only
      by_cases hm : mayB p o = true
      · rw [if_pos hm]
        revert ih
        cases hb : bst o L k with
        | none =>
          intro ih
          refine ⟨by omega, p, hp, hm, fun i hi hn q hq hmq => ?_⟩
          rw [ih i (by omega) q hq] at hmq
          cases hmq
        | some j =>
          intro ih
          obtain ⟨hj, q, h1, h2, h3⟩ := ih
          simp only [h1]
          by_cases hbt : betterB p q = true
          · rw [if_pos hbt]
            refine ⟨by omega, p, hp, hm, fun i hi hn x hx hmx => ?_⟩
            by_cases e : i = j
            · subst e; rw [h1] at hx; cases hx; exact betterB_anti hbt
            · have := h3 i (by omega) e x hx hmx
              cases hxp : betterB x p with
              | false => rfl
              | true => rw [betterB_trans hxp hbt] at this; cases this
          · rw [if_neg hbt]
            refine ⟨by omega, q, h1, h2, fun i hi hn x hx hmx => ?_⟩
            by_cases e : i = k
            · subst e; rw [hp] at hx; cases hx; simpa using hbt
            · exact h3 i (by omega) hn x hx hmx
      · rw [if_neg hm]
        revert ih
        cases hb : bst o L k with
        | none =>
          intro ih i hi q hq
          by_cases e : i = k
          · subst e; rw [hp] at hq; cases hq; simpa using hm
          · exact ih i (by omega) q hq
        | some j =>
          intro ih
          obtain ⟨hj, q, h1, h2, h3⟩ := ih
          refine ⟨by omega, q, h1, h2, fun i hi hn x hx hmx => ?_⟩
          by_cases e : i = k
          · subst e; rw [hp] at hx; cases hx; rw [hmx] at hm; exact absurd rfl hm
          · exact h3 i (by omega) hn x hx hmx

/-- Ports have unlike numbers. -/
def Unlike (L : List Po) : Prop := ∀ (i j : Nat) (p q : Po), L[i]? = some p → L[j]? = some q → i ≠ j → p.id ≠ q.id
theorem top_one {o : Int} {L : List Po} (hU : Unlike L) {i j : Nat} (h : Top o L L.length i) (k : Top o L L.length j) : i = j := by
  by_cases e : i = j
  · exact e
  · obtain ⟨p, h1, h2, h3⟩ := h
    obtain ⟨q, k1, k2, k3⟩ := k
    exact absurd (betterB_total (k3 i (po_lt h1) e p h1 h2) (h3 j (po_lt k1) (fun q => e q.symm) q k1 k2)) (hU i j p q h1 k1 e)
/-- What the document's loop has found behind the first k. -/
def RS (o : Int) (L : List Po) (k : Nat) : Option Nat → Prop
  | none => ∀ i, i < k → ¬ Top o L L.length i
  | some j => j < k ∧ Top o L L.length j
theorem rs_is {o : Int} {L : List Po} (hU : Unlike L) {r : Option Nat} (h : RS o L L.length r) : r = bst o L L.length := by
  have hb := bst_spec o L L.length
  revert hb
  cases e : bst o L L.length with
  | none =>
    intro hb
    cases r with
    | none => rfl
    | some j =>
      obtain ⟨h1, p, h2, h3, _⟩ := h
      rw [hb j h1 p h2] at h3
      cases h3
  | some j =>
    intro hb
    cases r with
    | none => exact absurd hb.2 (h j hb.1)
    | some i => rw [top_one hU h.2 hb.2]

/-- The view with the root, and the port to it. -/
def selT (t : Th) (L : List Po) : Option Nat → Th
  | none => { t with rp := -1, ro := t.ow, co := 0 }
  | some j => match L[j]? with
    | none => { t with rp := -1, ro := t.ow, co := 0 }
    | some p => { t with rp := (j : Int), ro := p.hr, co := farI p.hc p.co }
def selectT (t : Th) (L : List Po) : Th := selT t L (bst t.ow L L.length)

/-- A port that holds what its bridge tells. -/
def becomeP (t : Th) (p : Po) : Po := { p with hr := t.ro, hc := t.co, hb := t.ow, hp := p.id }
def ownV (t : Th) (p : Po) : Vec := ⟨t.ro, t.co, t.ow, p.id⟩
def heldV (p : Po) : Vec := ⟨p.hr, p.hc, p.hb, p.hp⟩
def takesB (t : Th) (p : Po) : Bool := desB p t.ow || (decide (p.hr ≠ t.ro) || decide (cmpV (ownV t p) (heldV p) ≤ 0))
theorem takesB_ref (t : Th) (p : Po) : decide (cmpV (ownV t p) (heldV p) ≤ 0) = !lessB (heldV p) (ownV t p) := by
  have h1 := wpI_cases (ownV t p) (heldV p); have h2 := cmpV_cases (ownV t p) (heldV p); have h3 := lessB_iff (heldV p) (ownV t p)
  rw [Bool.eq_iff_iff, decide_eq_true_eq]
  cases a : lessB (heldV p) (ownV t p) with
  | true => have := h3.1 a; simp; omega
  | false => have n := lessB_no _ _ a; simp; omega
def desP (t : Th) (p : Po) : Po := if takesB t p = true then becomeP t p else p

/-- The first k made anew. -/
def mixL (f : Nat → Po → Po) (k : Nat) (L : List Po) : List Po := L.mapIdx fun j x => if j < k then f j x else x
theorem mixL_len (f : Nat → Po → Po) (k : Nat) (L : List Po) : (mixL f k L).length = L.length := by simp [mixL]
theorem mixL_get (f : Nat → Po → Po) (k : Nat) (L : List Po) (j : Nat) : (mixL f k L)[j]? = (L[j]?).map fun x => if j < k then f j x else x := by simp [mixL]
theorem mixL_at {f : Nat → Po → Po} {k : Nat} {L : List Po} {x : Po} (h : L[k]? = some x) : (mixL f k L)[k]? = some x := by rw [mixL_get, h]; simp
theorem mixL_zero (f : Nat → Po → Po) (L : List Po) : mixL f 0 L = L := by
  apply List.ext_getElem?
  intro j
  rw [mixL_get]
  cases L[j]? <;> simp
theorem mixL_set {f : Nat → Po → Po} {k : Nat} {L : List Po} {x : Po} (h : L[k]? = some x) : (mixL f k L).set k (f k x) = mixL f (k + 1) L := by
  apply List.ext_getElem?
  intro j
  rw [List.getElem?_set, mixL_get, mixL_get, mixL_len]
  by_cases e : k = j
  · subst e
    have := po_lt h
    rw [h, if_pos rfl, if_pos this]
    simp
  · rw [if_neg e]
    cases L[j]? with
    | none => rfl
    | some y =>
      simp only [Option.map_some]
      by_cases q : j < k
      · rw [if_pos q, if_pos (by omega)]
      · rw [if_neg q, if_neg (by omega)]
theorem mixL_same {f : Nat → Po → Po} {k : Nat} {L : List Po} {x : Po} (h : L[k]? = some x) (e : f k x = x) : mixL f k L = mixL f (k + 1) L := by
  rw [← mixL_set h, e]
  apply List.ext_getElem?
  intro j
  rw [List.getElem?_set, mixL_len]
  by_cases q : k = j
  · subst q
    rw [mixL_at h]
    have := po_lt h
    simp [this]
  · rw [if_neg q]
def allL (f : Nat → Po → Po) (L : List Po) : List Po := L.mapIdx f
theorem allL_len (f : Nat → Po → Po) (L : List Po) : (allL f L).length = L.length := by simp [allL]
theorem allL_get (f : Nat → Po → Po) (L : List Po) (j : Nat) : (allL f L)[j]? = (L[j]?).map (f j) := by simp [allL]
theorem allL_at {f : Nat → Po → Po} {L : List Po} {j : Nat} {x : Po} (h : L[j]? = some x) : (allL f L)[j]? = some (f j x) := by rw [allL_get, h]; rfl
theorem mixL_all {f : Nat → Po → Po} {k : Nat} {L : List Po} (h : L.length ≤ k) : mixL f k L = allL f L := by
  apply List.ext_getElem?
  intro j
  rw [mixL_get, allL_get]
  cases e : L[j]? with
  | none => rfl
  | some x => have := po_lt e; simp [show j < k by omega]
def desL (t : Th) (L : List Po) : List Po := allL (fun _ p => desP t p) L

/-- One port, and whether it learnt, or forwarded, and was blocked. -/
def restP (p : Po) : Po := { p with ao := false, av := 0 }
def stP (t : Th) (j : Nat) (p : Po) : Po × Bool := if (j : Int) = t.rp then (riseP (owesP p), false) else if desB p t.ow = true then (riseP (restP p), false) else blockP (owesP p)
def statesL (t : Th) (L : List Po) : List Po := allL (fun j p => (stP t j p).1) L
def lostB (t : Th) (L : List Po) : Nat → Bool
  | 0 => false
  | k + 1 => lostB t L k || (match L[k]? with | some x => (stP t k x).2 | none => false)
theorem lostB_step {t : Th} {L : List Po} {k : Nat} {x : Po} (h : L[k]? = some x) : lostB t L (k + 1) = (lostB t L k || (stP t k x).2) := by simp only [lostB, h]

end Go.Proofs.YtcamakkicmapcaaDoor

/- leadsBetter: contract. -/
namespace Go.Proofs.YtcamakkicmapcaaDoor
set_option maxRecDepth 100000
open Go.ChangeShapes Go.WideShapes Go.ChangeAt Go.RowKit
set_option linter.unusedVariables false
set_option linter.unusedSimpArgs false

theorem exec_load_row {P : Program} {a : Act} {o : Oper} {w : World} (ty : TypeId) (x : Operand) (ho : o.op = .load ty x)
    (g : Nat) (hx : a.eval x = .pointer (some ⟨g, 0, none⟩)) (t : TypeId) (cs : Array Value) (fr : Nat × Nat) (d : TypeDesc) (hg : w.heap[g]? = some (.cells cs t fr))
    (hu : P.underlying ty = some d) (hd : (match d with | .struct _ | .array _ _ => true | _ => false) = true) (hi : (P.info? ty).map (·.size) = some cs.size) :
    (execOp a.eval o).run P w = .ok (.value (.agg cs)) w := by
  unfold execOp
  simp only [ho, hx, Instr.loadAt, Instr.sureAddr, Sem.run_bind, Sem.run_pure, Result.andThen_ok, run_loadVar_row w g t ty cs fr d hg hu hd hi]

theorem exec_load_at {P : Program} {a : Act} {o : Oper} {w : World} (ty : TypeId) (x : Operand) (ho : o.op = .load ty x)
    (ad : Addr) (hx : a.eval x = .pointer (some ad)) (cs : List Value) (d : TypeDesc) (hc : ∀ i v, cs[i]? = some v → w.cell? (ad.add i) = some v)
    (hu : P.underlying ty = some d) (hd : (match d with | .struct _ | .array _ _ => true | _ => false) = true) (hi : (P.info? ty).map (·.size) = some cs.length) :
    (execOp a.eval o).run P w = .ok (.value (.agg cs.toArray)) w := by
  unfold execOp
  simp only [ho, hx, Instr.loadAt, Instr.sureAddr, Sem.run_bind, Sem.run_pure, Result.andThen_ok, run_loadVar_at w ad ty cs d hc hu hd hi]
theorem exec_if_row {P : Program} {ops : Array Oper} {o : Oper} {a : Act} {w : World} {K : Act → World → Prop} {Q : Exit → Act → World → Prop} (hw : Region.wanted o (yielded ops a.tmps) = true) (ty : TypeId) (x : Operand) (ho : o.op = .load ty x)
    (g : Nat) (hx : a.eval x = .pointer (some ⟨g, 0, none⟩)) (t : TypeId) (cs : Array Value) (fr : Nat × Nat) (d : TypeDesc) (hg : w.heap[g]? = some (.cells cs t fr))
    (hu : P.underlying ty = some d) (hd : (match d with | .struct _ | .array _ _ => true | _ => false) = true) (hi : (P.info? ty).map (·.size) = some cs.size)
    (h : K (a.put o.dst (.agg cs)) w) : if Region.wanted o (yielded ops a.tmps) = true then Oper.wp P o a w K Q else K (a.put o.dst undef) w := by
  rw [if_pos hw]
  exact wp_load_row ty x ho g hx t cs fr d hg hu hd hi h

end Go.Proofs.YtcamakkicmapcaaDoor

/- best: contract. -/
namespace Go.Proofs.YtcamakkicmapcaaDoor
set_option maxRecDepth 100000
open Go.ChangeShapes Go.WideShapes Go.ChangeAt Go.RowKit
set_option linter.unusedVariables false

end Go.Proofs.YtcamakkicmapcaaDoor

/- Copy, and the document's: one like it, its ports in memory of the call's own. -/
namespace Go.Proofs.YtcamakkicmapcaaDoor
set_option maxRecDepth 100000
open Go.ChangeShapes Go.WideShapes Go.ChangeAt Go.RowKit
set_option linter.unusedVariables false

theorem po_cells_one : ∀ (L : List Po), ∀ u ∈ cellsOf lP L, u.oneCell' = true
  | [], u, hu => by simp [cellsOf] at hu
  | p :: r, u, hu => by
    simp only [cellsOf, List.mem_append] at hu
    rcases hu with h | h
    · exact (List.all_eq_true.1 (lP_one p)) u h
    · exact po_cells_one r u h

theorem append_po (w : World) {ops : Array Oper} {rest : List Oper} {o : Oper} {a : Act} {Q : Exit → Act → World → Prop} (hgd : o.guard = none) (s x : Operand)
    (ho : o.op = .call { callee := .builtin .append, args := #[s, x], argTypes := #[29, 29] })
    (sv : Value) (hs : a.eval s = sv) (base : Nat) (hown : w.ownsRow base 48 15 sv 0 []) (A : Option Addr) (m c : Nat) (L : List Po) (hx : a.eval x = .slice A m c) (K : Nat) (hp : PoAt w A K L) (hl : Hid (L.length = m)) (hc : Hid (A = none → c = 0)) (hm : m ≤ 200)
    (hbase : base ≤ w.heap.size) (w0 : World) (hb : Below base w0 w)
    (h : ∀ D cap w', OwnL lP 15 48 w' base (.slice D m cap) L → Below base w0 w' → (D = none → cap = 0) → wpList Tryd.prog ops Q rest (a.put o.dst (.slice D m cap)) w') :
    wpList Tryd.prog ops Q (o :: rest) a w := by
  obtain ⟨i0, hi0, hz0, hz1, hz2⟩ := info_parts Tryd.infoPo
  cases A with
  | none =>
    have h0 := hp.nil
    subst h0
    have hm0 := hl.out
    subst hm0
    have hc0 := hc.out rfl
    subst hc0
    refine wpList_append_own_none hgd s x 29 ho base 48 i0 15 Tryd.underlying29 hi0 _ 0 [] hs hown hx ?_
    have hown' : OwnL lP 15 48 w base sv ([] : List Po) := hown
    rcases hown.2 with ⟨rfl, -⟩ | ⟨g, cap, cur, rfl, -⟩
    · exact h none 0 w hown' hb (fun _ => rfl)
    · exact h _ cap w hown' hb (fun e => by cases e)
  | some ad =>
    have hm0 := hl.out
    subst hm0
    refine wpList_append_own w hgd s x 29 ho base 48 i0 _ 15 112 Tryd.underlying29 hi0 hz0 hz1 hz2 rfl (by decide) _ 0 [] hs hown ad L.length c (cellsOf lP L) hx (cellsOf_len lP_len L) hp.src (po_cells_one L) (by unfold maxLen; omega) (by omega) hbase ?_
    intro v' w' hown2 hgrow hv
    rw [Nat.zero_add, List.nil_append] at hown2
    have hown' : OwnL lP 15 48 w' base v' L := hown2
    obtain ⟨D, cap, rfl⟩ := hown'.shape
    have hbw : Below base w0 w' := hb.grown hgrow hbase (fun k hk => (World.ownsRow.lt hown k hk).1)
    refine h D cap w' hown' hbw fun e => ?_
    subst e
    rcases hown'.2 with ⟨h2, _⟩ | ⟨g, cap', cur, h2, _⟩
    · injection h2
    · injection h2 with e1
      cases e1

set_option maxHeartbeats 1000000 in
theorem tcopy_is (t : Th) (A : Option Addr) (n cap : Nat) (L : List Po) (hL : Hid (L.length = n)) (hf : n ≤ 200) (hc : Hid (A = none → cap = 0)) (w : World) (hp : Hid (PoAt w A w.heap.size L)) :
    Calls Tryd.prog 30 #[.agg (lT t A n cap).toArray] w (TOut w t n L) := by
  obtain ⟨wb, hwb, S⟩ := hs_two w 31 31 (lT t A n cap) [.int .u64 0, .int .u64 0, .int .u32 0, .int .i64 0, .int .i64 0, .int .i64 0, .int .i64 0, .int .i64 0, .int .i64 0, .int .i64 0, .bool false, .bool false, .bool false, .int .i64 0, .bool false, .int .i64 0, .bool false, .int .i64 0, .slice none 0 0]
  go_enter Tryd.func30, Tryd.ntmps30
  go_upto_region 1 with fail
  clear hwb
  obtain ⟨X, hX⟩ : ∃ X, w.heap.size = X := ⟨_, rfl⟩
  rw [hX] at S
  obtain ⟨Y, hY⟩ : ∃ Y, X + 1 = Y := ⟨_, rfl⟩
  rw [hY] at S
  have hsX := hX
  rw [hX]
  rw [hY]
  have HX := Lib.hid hX
  clear hX hY hsX
  have c18 := S.cell 1 18 rfl rfl
  have hp1 := Lib.hid (hp.out.below S.old (Nat.le_refl _))
  go_upto_region 2 with (at_builtin; refine append_po _ rfl (.const (.slice none 0 0)) (.tmp 4) rfl (.slice none 0 0) rfl wb.heap.size (World.ownsRow_nil wb _ _ 15) A n cap L rfl w.heap.size hp1.out hL hc hf (Nat.le_refl _) wb (Below.refl _ _) ?_; intro D cap' w3 hown hb3 hz; have HZ := Lib.hid hz; have S3 := TS.take S (own_ts hb3 (Nat.le_refl _) hown); clear hown hb3 hz S c18 hp1; have c18 := S3.hs.cell 1 18 rfl rfl; have f18 := S3.hs.thaw 1 18 rfl)
  have S4 := S3.set 1 rfl 18 (.slice D n cap')
  generalize w3.setCell ⟨X, 18, none⟩ (.slice D n cap') = w4 at S4 ⊢
  clear S3 c18 f18
  have hx : w4.heap[X]? = some (.cells (lT t D n cap').toArray 31 (0, 0)) := S4.hs.bk 1 rfl
  have hy := S4.hs.bk 0 rfl
  go_wp2_with (first | (refine wpList_load_row rfl 31 _ rfl X rfl _ _ (0, 0) _ hx Tryd.underlying31 rfl (by kernel_rfl) ?_) | (refine wpList_store_row rfl 31 _ _ rfl Y _ rfl rfl _ _ hy (by kernel_rfl) (by kernel_rfl) (by kernel_rfl) ?_))
  exact bodyPost_ret (v := .agg (lT t D n cap').toArray) (results_cell_row rfl _ _ Y _ _ _ _ rfl (setRow_heap _ _ _ _ _ _ hy) Tryd.underlying31 rfl (by kernel_rfl)) rfl ⟨D, cap', rfl, HZ.out, (S4.row 0 rfl (lT t D n cap')).nobox⟩

end Go.Proofs.YtcamakkicmapcaaDoor

/- Select: contract. -/
namespace Go.Proofs.YtcamakkicmapcaaDoor
set_option maxRecDepth 100000
open Go.ChangeShapes Go.WideShapes Go.ChangeAt Go.RowKit
set_option linter.unusedVariables false
set_option linter.unusedSimpArgs false

end Go.Proofs.YtcamakkicmapcaaDoor

/- Designate and Update: contracts. -/
namespace Go.Proofs.YtcamakkicmapcaaDoor
set_option maxRecDepth 100000
open Go.ChangeShapes Go.WideShapes Go.ChangeAt Go.RowKit
set_option linter.unusedVariables false

theorem become_row (p : Po) (t : Th) (w : World) :
    Calls Tryd.prog 63 #[.agg (lP p).toArray, .agg #[.int .u64 t.ro, .int .u32 t.co, .int .u64 t.ow, .int .u16 0]] w fun e w' => e = .returned (.agg (lP (becomeP t p)).toArray) ∧ Below w.heap.size w w' := become_is p ⟨t.ro, t.co, t.ow, 0⟩ w
end Go.Proofs.YtcamakkicmapcaaDoor

/- A region that draws its order, by an invariant: what holds of each state, by which operations have come up, is kept by each operation that may come next. So many steps as operations, however many orders. Over any program. -/
namespace Go.Proofs.YtcamakkicmapcaaDoor
set_option maxRecDepth 100000
open Go.ChangeShapes Go.WideShapes Go.ChangeAt Go.RowKit
set_option linter.unusedVariables false

section
variable {P : Program} {ops : Array Oper} {Q : Exit → Act → World → Prop} {md : Region.Mode} {S : World → Prop}

theorem put_none (a : Act) (v : Value) : a.put none v = a := rfl
/-- What has come up, and i too. -/
def upB (f : Nat → Bool) (i : Nat) : Nat → Bool := fun j => if j = i then true else f j
theorem upB_self (f : Nat → Bool) (i : Nat) : upB f i i = true := by simp [upB]
theorem upB_ne (f : Nat → Bool) {i j : Nat} (h : j ≠ i) : upB f i j = f j := by simp [upB, h]

/-- Each of the operations 'rs' keeps the invariant. -/
def StepsI (P : Program) (md : Region.Mode) (ops : Array Oper) (Q : Exit → Act → World → Prop) (S : World → Prop) (I : (Nat → Bool) → Act → World → Prop) (rs : List Nat) : Prop :=
  ∀ i ∈ rs, ∀ f a w, f i = false → (∀ o, ops[i]? = some o → ∀ e ∈ o.after, Region.binds md e = true → f e.on = true) → S w → I f a w → wpOp P ops Q i (fun a' w' => S w' ∧ I (upB f i) a' w') a w

theorem StepsI.nil {I : (Nat → Bool) → Act → World → Prop} : StepsI P md ops Q S I [] := fun _ h => by cases h
theorem StepsI.cons {I : (Nat → Bool) → Act → World → Prop} {i : Nat} {o : Oper} {rs : List Nat} (ho : ops[i]? = some o)
    (h : ∀ f a w, f i = false → (∀ e ∈ o.after, Region.binds md e = true → f e.on = true) → S w → I f a w → ∀ K' : Act → World → Prop, Shut (∀ a' w', S w' → I (upB f i) a' w' → K' a' w') →
      if Region.wanted o (yielded ops a.tmps) = true then Oper.wp P o a w K' Q else K' (a.put o.dst undef) w)
    (hs : StepsI P md ops Q S I rs) : StepsI P md ops Q S I (i :: rs) := fun j hj => by
  rcases List.mem_cons.1 hj with rfl | hj
  · exact fun f a w h1 h2 h3 h4 => wpOp_step ho (fun K' hK => h f a w h1 (h2 o ho) h3 h4 K' (fun a' w' hS hI => hK a' w' ⟨hS, hI⟩))
  · exact hs j hj

theorem all_listed (hord : ∀ i o, ops[i]? = some o → ∀ e ∈ o.after, Region.binds md e = true → e.on < i) {listed : Array Bool} (hsz : listed.size = ops.size) (hr : Region.ready md ops listed = []) :
    ∀ n i, i < n → i < ops.size → listed.getD i false = true := by
  intro n
  induction n with
  | zero => intro i h; omega
  | succ n ih =>
    intro i hi hlt
    cases e : listed.getD i false with
    | true => rfl
    | false =>
      exfalso
      have hd : listed.getD i true = false := by
        have hl : i < listed.size := by omega
        simp [hl] at e ⊢
        exact e
      have : i ∈ Region.ready md ops listed := mem_ready.2 ⟨hd, ops[i], Array.getElem?_eq_getElem hlt, fun q hq hb => by
        have h1 := hord i ops[i] (Array.getElem?_eq_getElem hlt) q hq hb
        exact ih q.on (by omega) (by omega)⟩
      rw [hr] at this
      cases this

theorem wpAnyH_inv {I : (Nat → Bool) → Act → World → Prop} (hord : ∀ i o, ops[i]? = some o → ∀ e ∈ o.after, Region.binds md e = true → e.on < i)
    (rs : List Nat) (hs : StepsI P md ops Q S I rs) (hd : ∀ f a w, (∀ i, i < ops.size → f i = true) → S w → I f a w → Q .normal a w) :
    ∀ (fuel : Nat) (l : List Nat) (listed : Array Bool) (a : Act) (w : World), l.length ≤ fuel → (∀ i, i < ops.size → listed.getD i false = false → i ∈ l) → (∀ i ∈ l, i ∈ rs) → listed.size = ops.size → S w → I (fun j => listed.getD j false) a w →
      wpAnyH P md ops Q S fuel listed a w := by
  intro fuel
  induction fuel with
  | zero =>
    intro l listed a w hl hin _ hsz hS hI
    have h0 : l = [] := List.length_eq_zero_iff.1 (by omega)
    subst h0
    have hall : ∀ i, i < ops.size → listed.getD i false = true := fun i hi => by
      cases e : listed.getD i false with
      | true => rfl
      | false => exact absurd (hin i hi e) (by simp)
    refine ⟨?_, hd _ a w hall hS hI⟩
    cases e : Region.ready md ops listed with
    | nil => rfl
    | cons j r =>
      have hj : j ∈ Region.ready md ops listed := by rw [e]; simp
      obtain ⟨h1, o, h2, _⟩ := mem_ready.1 hj
      have hlt : j < ops.size := (Array.getElem?_eq_some_iff.1 h2).1
      have := hall j hlt
      have hl : j < listed.size := by omega
      simp [hl] at h1 this
      rw [h1] at this
      cases this
  | succ fuel ih =>
    intro l listed a w hl hin hrs hsz hS hI
    refine ⟨fun hr => hd _ a w (fun i hi => all_listed hord hsz hr _ i (Nat.lt_succ_self i) hi) hS hI, fun i hi => ?_⟩
    obtain ⟨h1, o, h2, h3⟩ := mem_ready.1 hi
    have hlt : i < ops.size := (Array.getElem?_eq_some_iff.1 h2).1
    have hll : i < listed.size := by omega
    have h1' : listed.getD i false = false := by
      simp [hll] at h1 ⊢
      exact h1
    have hil := hin i hlt h1'
    have hst := hs i (hrs i hil) (fun j => listed.getD j false) a w h1' (fun o' ho' e he hb => by rw [h2] at ho'; cases ho'; exact h3 e he hb) hS hI
    refine wpOp_mono (fun a' w' ⟨hS', hI'⟩ => ⟨hS', ?_⟩) hst
    have hf : upB (fun j => listed.getD j false) i = fun j => (listed.setIfInBounds i true).getD j false := by
      funext j
      by_cases e : j = i
      · subst e
        rw [upB_self]
        simp [hll]
      · rw [upB_ne _ e, getD_set_ne false (fun q => e q.symm)]
    rw [hf] at hI'
    refine ih (l.erase i) _ a' w' ?_ ?_ ?_ (by simp [hsz]) hS' hI'
    · rw [List.length_erase_of_mem hil]
      have : 0 < l.length := List.length_pos_of_mem hil
      omega
    · intro j hj hu
      by_cases e : j = i
      · subst e
        simp [hll] at hu
      · rw [getD_set_ne false (fun q => e q.symm)] at hu
        exact (List.mem_erase_of_ne e).2 (hin j hj hu)
    · exact fun j hj => hrs j (List.mem_of_mem_erase hj)

/-- The order of a region's operations, as a Bool. -/
def ordB (md : Region.Mode) (ops : Array Oper) : Bool := (List.range ops.size).all fun i => match ops[i]? with | none => true | some o => o.after.all fun e => !Region.binds md e || decide (e.on < i)
theorem ordB_spec (h : ordB md ops = true) : ∀ i o, ops[i]? = some o → ∀ e ∈ o.after, Region.binds md e = true → e.on < i := by
  intro i o ho e he hb
  have hlt : i < ops.size := (Array.getElem?_eq_some_iff.1 ho).1
  have := (List.all_eq_true.1 h) i (List.mem_range.2 hlt)
  rw [ho] at this
  have := (Array.all_eq_true_iff_forall_mem.1 this) e he
  simpa [hb] using this
/-- What is left, as a Bool. -/
def leftB (ops : Array Oper) (listed : Array Bool) (rs : List Nat) : Bool := (List.range ops.size).all fun i => listed.getD i false || rs.contains i
theorem leftB_spec {listed : Array Bool} {rs : List Nat} (h : leftB ops listed rs = true) : ∀ i, i < ops.size → listed.getD i false = false → i ∈ rs := by
  intro i hi hu
  have := (List.all_eq_true.1 h) i (List.mem_range.2 hi)
  rw [hu] at this
  simpa using this

/-- The law, its side conditions as Bools. -/
theorem wpAnyH_by {I : (Nat → Bool) → Act → World → Prop} {fuel : Nat} {listed : Array Bool} {a : Act} {w : World} (rs : List Nat) (ho : ordB md ops = true) (hl : leftB ops listed rs = true) (hz : (listed.size == ops.size) = true) (hf : Nat.ble rs.length fuel = true)
    (hS : S w) (hI : I (fun j => listed.getD j false) a w) (hd : ∀ f a w, (∀ i, i < ops.size → f i = true) → S w → I f a w → Q .normal a w) (hs : StepsI P md ops Q S I rs) : wpAnyH P md ops Q S fuel listed a w :=
  wpAnyH_inv (ordB_spec ho) rs hs hd fuel rs listed a w (Nat.le_of_ble_eq_true hf) (leftB_spec hl) (fun _ h => h) (by simpa using hz) hS hI


/-- The slots that change, 4 of them. -/
def puts4 (a : Act) (d1 d2 d3 d4 : Tmp) (v1 v2 v3 v4 : Value) : Act := (((a.put (some d1) v1).put (some d2) v2).put (some d3) v3).put (some d4) v4
def IX4 (a : Act) (d1 d2 d3 d4 : Tmp) (J : (Nat → Bool) → Value → Value → Value → Value → World → Prop) (f : Nat → Bool) (b : Act) (w : World) : Prop := ∃ v1 v2 v3 v4, b = puts4 a d1 d2 d3 d4 v1 v2 v3 v4 ∧ J f v1 v2 v3 v4 w
/-- The law, where but 4 slots change. -/
theorem wpAnyH_by4 {fuel : Nat} {listed : Array Bool} {a : Act} {w : World} (d1 d2 d3 d4 : Tmp) (J : (Nat → Bool) → Value → Value → Value → Value → World → Prop) (h0 : puts4 a d1 d2 d3 d4 (a.tmps.getD d1 undef) (a.tmps.getD d2 undef) (a.tmps.getD d3 undef) (a.tmps.getD d4 undef) = a) (rs : List Nat) (ho : ordB md ops = true) (hl : leftB ops listed rs = true) (hz : (listed.size == ops.size) = true) (hf : Nat.ble rs.length fuel = true)
    (hS : S w) (hJ : J (fun j => listed.getD j false) (a.tmps.getD d1 undef) (a.tmps.getD d2 undef) (a.tmps.getD d3 undef) (a.tmps.getD d4 undef) w) (hd : ∀ f v1 v2 v3 v4 w, (∀ i, i < ops.size → f i = true) → S w → J f v1 v2 v3 v4 w → Q .normal (puts4 a d1 d2 d3 d4 v1 v2 v3 v4) w)
    (hs : StepsI P md ops Q S (IX4 a d1 d2 d3 d4 J) rs) : wpAnyH P md ops Q S fuel listed a w :=
  wpAnyH_by rs ho hl hz hf hS ⟨_, _, _, _, h0.symm, hJ⟩ (fun f b w hall hS ⟨v1, v2, v3, v4, hb, hJ⟩ => by rw [hb]; exact hd f v1 v2 v3 v4 w hall hS hJ) hs
theorem StepsI.cons4 {a : Act} {d1 d2 d3 d4 : Tmp} {J : (Nat → Bool) → Value → Value → Value → Value → World → Prop} {i : Nat} {o : Oper} {rs : List Nat} (ho : ops[i]? = some o)
    (h : ∀ f v1 v2 v3 v4 w, f i = false → (∀ e ∈ o.after, Region.binds md e = true → f e.on = true) → S w → J f v1 v2 v3 v4 w → ∀ K' : Act → World → Prop, Shut (∀ u1 u2 u3 u4 b w', S w' → b = puts4 a d1 d2 d3 d4 u1 u2 u3 u4 → J (upB f i) u1 u2 u3 u4 w' → K' b w') →
      if Region.wanted o (yielded ops (puts4 a d1 d2 d3 d4 v1 v2 v3 v4).tmps) = true then Oper.wp P o (puts4 a d1 d2 d3 d4 v1 v2 v3 v4) w K' Q else K' ((puts4 a d1 d2 d3 d4 v1 v2 v3 v4).put o.dst undef) w)
    (hs : StepsI P md ops Q S (IX4 a d1 d2 d3 d4 J) rs) : StepsI P md ops Q S (IX4 a d1 d2 d3 d4 J) (i :: rs) :=
  StepsI.cons ho (fun f b w h1 h2 h3 ⟨v1, v2, v3, v4, hb, hJ⟩ K' hK => by
    subst hb
    exact h f v1 v2 v3 v4 w h1 h2 h3 hJ K' (fun u1 u2 u3 u4 b w' hS hb hJ => hK.out b w' hS ⟨u1, u2, u3, u4, hb, hJ⟩)) hs

/-- The slots that change, 6 of them. -/
def puts6 (a : Act) (d1 d2 d3 d4 d5 d6 : Tmp) (v1 v2 v3 v4 v5 v6 : Value) : Act := (((((a.put (some d1) v1).put (some d2) v2).put (some d3) v3).put (some d4) v4).put (some d5) v5).put (some d6) v6
def IX6 (a : Act) (d1 d2 d3 d4 d5 d6 : Tmp) (J : (Nat → Bool) → Value → Value → Value → Value → Value → Value → World → Prop) (f : Nat → Bool) (b : Act) (w : World) : Prop := ∃ v1 v2 v3 v4 v5 v6, b = puts6 a d1 d2 d3 d4 d5 d6 v1 v2 v3 v4 v5 v6 ∧ J f v1 v2 v3 v4 v5 v6 w
/-- The law, where but 6 slots change. -/
theorem wpAnyH_by6 {fuel : Nat} {listed : Array Bool} {a : Act} {w : World} (d1 d2 d3 d4 d5 d6 : Tmp) (J : (Nat → Bool) → Value → Value → Value → Value → Value → Value → World → Prop) (h0 : puts6 a d1 d2 d3 d4 d5 d6 (a.tmps.getD d1 undef) (a.tmps.getD d2 undef) (a.tmps.getD d3 undef) (a.tmps.getD d4 undef) (a.tmps.getD d5 undef) (a.tmps.getD d6 undef) = a) (rs : List Nat) (ho : ordB md ops = true) (hl : leftB ops listed rs = true) (hz : (listed.size == ops.size) = true) (hf : Nat.ble rs.length fuel = true)
    (hS : S w) (hJ : J (fun j => listed.getD j false) (a.tmps.getD d1 undef) (a.tmps.getD d2 undef) (a.tmps.getD d3 undef) (a.tmps.getD d4 undef) (a.tmps.getD d5 undef) (a.tmps.getD d6 undef) w) (hd : ∀ f v1 v2 v3 v4 v5 v6 w, (∀ i, i < ops.size → f i = true) → S w → J f v1 v2 v3 v4 v5 v6 w → Q .normal (puts6 a d1 d2 d3 d4 d5 d6 v1 v2 v3 v4 v5 v6) w)
    (hs : StepsI P md ops Q S (IX6 a d1 d2 d3 d4 d5 d6 J) rs) : wpAnyH P md ops Q S fuel listed a w :=
  wpAnyH_by rs ho hl hz hf hS ⟨_, _, _, _, _, _, h0.symm, hJ⟩ (fun f b w hall hS ⟨v1, v2, v3, v4, v5, v6, hb, hJ⟩ => by rw [hb]; exact hd f v1 v2 v3 v4 v5 v6 w hall hS hJ) hs
theorem StepsI.cons6 {a : Act} {d1 d2 d3 d4 d5 d6 : Tmp} {J : (Nat → Bool) → Value → Value → Value → Value → Value → Value → World → Prop} {i : Nat} {o : Oper} {rs : List Nat} (ho : ops[i]? = some o)
    (h : ∀ f v1 v2 v3 v4 v5 v6 w, f i = false → (∀ e ∈ o.after, Region.binds md e = true → f e.on = true) → S w → J f v1 v2 v3 v4 v5 v6 w → ∀ K' : Act → World → Prop, Shut (∀ u1 u2 u3 u4 u5 u6 b w', S w' → b = puts6 a d1 d2 d3 d4 d5 d6 u1 u2 u3 u4 u5 u6 → J (upB f i) u1 u2 u3 u4 u5 u6 w' → K' b w') →
      if Region.wanted o (yielded ops (puts6 a d1 d2 d3 d4 d5 d6 v1 v2 v3 v4 v5 v6).tmps) = true then Oper.wp P o (puts6 a d1 d2 d3 d4 d5 d6 v1 v2 v3 v4 v5 v6) w K' Q else K' ((puts6 a d1 d2 d3 d4 d5 d6 v1 v2 v3 v4 v5 v6).put o.dst undef) w)
    (hs : StepsI P md ops Q S (IX6 a d1 d2 d3 d4 d5 d6 J) rs) : StepsI P md ops Q S (IX6 a d1 d2 d3 d4 d5 d6 J) (i :: rs) :=
  StepsI.cons ho (fun f b w h1 h2 h3 ⟨v1, v2, v3, v4, v5, v6, hb, hJ⟩ K' hK => by
    subst hb
    exact h f v1 v2 v3 v4 v5 v6 w h1 h2 h3 hJ K' (fun u1 u2 u3 u4 u5 u6 b w' hS hb hJ => hK.out b w' hS ⟨u1, u2, u3, u4, u5, u6, hb, hJ⟩)) hs

theorem StepsI.store4 {a : Act} {d1 d2 d3 d4 : Tmp} {J : (Nat → Bool) → Value → Value → Value → Value → World → Prop} {i : Nat} {o : Oper} {rs : List Nat} (ho : ops[i]? = some o) (ty : TypeId) (x y : Operand) (hop : o.op = .store ty x y) (hgd : o.guard = none) (hdst : o.dst = none)
    (h : ∀ f v1 v2 v3 v4 w, f i = false → (∀ e ∈ o.after, Region.binds md e = true → f e.on = true) → S w → J f v1 v2 v3 v4 w →
      ∃ (g : Nat) (cs old : List Value), (puts4 a d1 d2 d3 d4 v1 v2 v3 v4).eval x = .pointer (some ⟨g, 0, none⟩) ∧ (puts4 a d1 d2 d3 d4 v1 v2 v3 v4).eval y = .agg cs.toArray ∧ Bk w g ty old ∧ old.length = cs.length ∧ (P.info? ty).map (·.size) = some cs.length ∧ cs.all (·.oneCell') = true ∧ S (w.setRow g cs.toArray) ∧ J (upB f i) v1 v2 v3 v4 (w.setRow g cs.toArray))
    (hs : StepsI P md ops Q S (IX4 a d1 d2 d3 d4 J) rs) : StepsI P md ops Q S (IX4 a d1 d2 d3 d4 J) (i :: rs) :=
  StepsI.cons4 ho (fun f v1 v2 v3 v4 w h1 h2 h3 hJ K' hK => by
    obtain ⟨g, cs, old, e1, e2, e3, e4, e5, e6, e7, e8⟩ := h f v1 v2 v3 v4 w h1 h2 h3 hJ
    have hw : Region.wanted o (yielded ops (puts4 a d1 d2 d3 d4 v1 v2 v3 v4).tmps) = true := by unfold Region.wanted; rw [hgd]
    rw [if_pos hw]
    have s1 : (P.info? ty).map (·.size) = some cs.toArray.size := by rw [e5, List.size_toArray]
    have s2 : old.toArray.size = cs.toArray.size := by rw [List.size_toArray, List.size_toArray, e4]
    have s3 : cs.toArray.all (·.oneCell') = true := Array.all_eq_true_iff_forall_mem.2 fun v hv => (List.all_eq_true.1 e6) v (by simpa using hv)
    refine wp_store_row ty x y hop g cs.toArray e1 e2 ty old.toArray e3 s1 s2 s3 ?_
    have hp : (puts4 a d1 d2 d3 d4 v1 v2 v3 v4).put o.dst undef = (puts4 a d1 d2 d3 d4 v1 v2 v3 v4) := by rw [hdst]; exact put_none _ _
    rw [hp]
    exact hK.out v1 v2 v3 v4 _ _ e7 rfl e8) hs
theorem StepsI.store6 {a : Act} {d1 d2 d3 d4 d5 d6 : Tmp} {J : (Nat → Bool) → Value → Value → Value → Value → Value → Value → World → Prop} {i : Nat} {o : Oper} {rs : List Nat} (ho : ops[i]? = some o) (ty : TypeId) (x y : Operand) (hop : o.op = .store ty x y) (hgd : o.guard = none) (hdst : o.dst = none)
    (h : ∀ f v1 v2 v3 v4 v5 v6 w, f i = false → (∀ e ∈ o.after, Region.binds md e = true → f e.on = true) → S w → J f v1 v2 v3 v4 v5 v6 w →
      ∃ (g : Nat) (cs old : List Value), (puts6 a d1 d2 d3 d4 d5 d6 v1 v2 v3 v4 v5 v6).eval x = .pointer (some ⟨g, 0, none⟩) ∧ (puts6 a d1 d2 d3 d4 d5 d6 v1 v2 v3 v4 v5 v6).eval y = .agg cs.toArray ∧ Bk w g ty old ∧ old.length = cs.length ∧ (P.info? ty).map (·.size) = some cs.length ∧ cs.all (·.oneCell') = true ∧ S (w.setRow g cs.toArray) ∧ J (upB f i) v1 v2 v3 v4 v5 v6 (w.setRow g cs.toArray))
    (hs : StepsI P md ops Q S (IX6 a d1 d2 d3 d4 d5 d6 J) rs) : StepsI P md ops Q S (IX6 a d1 d2 d3 d4 d5 d6 J) (i :: rs) :=
  StepsI.cons6 ho (fun f v1 v2 v3 v4 v5 v6 w h1 h2 h3 hJ K' hK => by
    obtain ⟨g, cs, old, e1, e2, e3, e4, e5, e6, e7, e8⟩ := h f v1 v2 v3 v4 v5 v6 w h1 h2 h3 hJ
    have hw : Region.wanted o (yielded ops (puts6 a d1 d2 d3 d4 d5 d6 v1 v2 v3 v4 v5 v6).tmps) = true := by unfold Region.wanted; rw [hgd]
    rw [if_pos hw]
    have s1 : (P.info? ty).map (·.size) = some cs.toArray.size := by rw [e5, List.size_toArray]
    have s2 : old.toArray.size = cs.toArray.size := by rw [List.size_toArray, List.size_toArray, e4]
    have s3 : cs.toArray.all (·.oneCell') = true := Array.all_eq_true_iff_forall_mem.2 fun v hv => (List.all_eq_true.1 e6) v (by simpa using hv)
    refine wp_store_row ty x y hop g cs.toArray e1 e2 ty old.toArray e3 s1 s2 s3 ?_
    have hp : (puts6 a d1 d2 d3 d4 d5 d6 v1 v2 v3 v4 v5 v6).put o.dst undef = (puts6 a d1 d2 d3 d4 d5 d6 v1 v2 v3 v4 v5 v6) := by rw [hdst]; exact put_none _ _
    rw [hp]
    exact hK.out v1 v2 v3 v4 v5 v6 _ _ e7 rfl e8) hs

end

/-- A box that operation j made, and operation s fills. -/
def BoxF (f : Nat → Bool) (j s : Nat) (T : TypeId) (len : Nat) (B : Nat) (w : World) (p v : Value) : Prop :=
  f j = true → ∃ g cs, p = .pointer (some ⟨g, 0, none⟩) ∧ B ≤ g ∧ Bk w g T cs ∧ cs.length = len ∧ (f s = true → v = .agg cs.toArray)

section
variable {f : Nat → Bool} {j s i : Nat} {T : TypeId} {len B : Nat} {w w' : World} {p v : Value}
theorem BoxF.below (h : BoxF f j s T len B w p v) (b : Below w.heap.size w w') : BoxF f j s T len B w' p v := fun hj => by
  obtain ⟨g, cs, h1, h2, h3, h4, h5⟩ := h hj
  exact ⟨g, cs, h1, h2, h3.below b h3.lt, h4, h5⟩
theorem BoxF.up (h : BoxF f j s T len B w p v) (hi : i ≠ j) (hi' : i ≠ s) : BoxF (upB f i) j s T len B w p v := fun hj => by
  rw [upB_ne _ (fun e => hi e.symm)] at hj
  obtain ⟨g, cs, h1, h2, h3, h4, h5⟩ := h hj
  exact ⟨g, cs, h1, h2, h3, h4, fun hs => h5 (by rwa [upB_ne _ (fun e => hi' e.symm)] at hs)⟩
theorem BoxF.off (h : f j = false) : BoxF f j s T len B w p v := fun e => by rw [h] at e; cases e
/-- Its value is known now; it isn't filled. -/
theorem BoxF.val {u : Value} (h : BoxF f j s T len B w p u) (hs : f s = false) : BoxF f j s T len B w p v := fun hj => by
  obtain ⟨g, cs, h1, h2, h3, h4, h5⟩ := h hj
  exact ⟨g, cs, h1, h2, h3, h4, fun e => by rw [hs] at e; cases e⟩
/-- It is made. -/
theorem BoxF.new (hs : f s = false) (hjs : s ≠ j) (hB : B ≤ w.heap.size) (cs : List Value) (hl : cs.length = len) : BoxF (upB f j) j s T len B (w.alloc (.cells cs.toArray T)) (.pointer (some ⟨w.heap.size, 0, none⟩)) v := fun _ =>
  ⟨w.heap.size, cs, rfl, hB, heap_alloc_new w _, hl, fun e => by rw [upB_ne _ hjs, hs] at e; cases e⟩
/-- It is filled. -/
theorem BoxF.fill {g : Nat} {cs cs' : List Value} (hg : B ≤ g) (hb : Bk w g T cs') (hl : cs.length = len) (hv : v = .agg cs.toArray) : BoxF (upB f s) j s T len B (w.setRow g cs.toArray) (.pointer (some ⟨g, 0, none⟩)) v := fun _ =>
  ⟨g, cs, rfl, hg, setRow_heap w g _ cs.toArray T (0, 0) hb, hl, fun _ => hv⟩
/-- Another one is filled. -/
theorem BoxF.far {g : Nat} {cs : List Value} (h : BoxF f j s T len B w p v) (hne : p ≠ .pointer (some ⟨g, 0, none⟩)) : BoxF f j s T len B (w.setRow g cs.toArray) p v := fun hj => by
  obtain ⟨g', cs', h1, h2, h3, h4, h5⟩ := h hj
  refine ⟨g', cs', h1, h2, (setRow_other w g g' _ (fun e => hne (by rw [h1, e]))).trans h3, h4, h5⟩
theorem BoxF.use {C : Prop} (h : BoxF f j s T len B w p v) (hj : f j = true) (k : ∀ g cs, p = .pointer (some ⟨g, 0, none⟩) → B ≤ g → Bk w g T cs → cs.length = len → (f s = true → v = .agg cs.toArray) → C) : C := by
  obtain ⟨g, cs, h1, h2, h3, h4, h5⟩ := h hj
  exact k g cs h1 h2 h3 h4 h5
/-- It is unlike a new one. -/
theorem BoxF.ne (h : BoxF f j s T len B w p v) (hj : f j = true) : p ≠ .pointer (some ⟨w.heap.size, 0, none⟩) := by
  obtain ⟨g, cs, h1, _, h3, _⟩ := h hj
  have := h3.lt
  rw [h1]
  intro e
  injection e with e
  injection e with e
  injection e with e
  omega
end

/-- What an operation waits for has come up. -/
theorem after_at {md : Region.Mode} {o : Oper} {f : Nat → Bool} (h : ∀ e ∈ o.after, Region.binds md e = true → f e.on = true) (c : Nat) (hb : (o.after.any fun e => e.on == c && Region.binds md e) = true) : f c = true := by
  obtain ⟨i, hi, hp⟩ := Array.any_eq_true.1 hb
  have hp' : (o.after[i].on == c && Region.binds md o.after[i]) = true := hp
  rw [Bool.and_eq_true, beq_iff_eq] at hp'
  rw [← hp'.1]
  exact h _ (Array.getElem_mem hi) hp'.2
theorem off_imp {b : Bool} {p : Prop} (h : b = false) : b = true → p := fun e => by rw [h] at e; cases e
theorem upB_imp {f : Nat → Bool} {i j : Nat} {p : Prop} (h : f j = true → p) (e : j ≠ i) : upB f i j = true → p := fun q => h (by rwa [upB_ne _ e] at q)
/-- What operation j yields. -/
def ValF (f : Nat → Bool) (j : Nat) (u v : Value) : Prop := f j = true → v = u
theorem ValF.up {f : Nat → Bool} {i j : Nat} {u v : Value} (h : ValF f j u v) (e : i ≠ j) : ValF (upB f i) j u v := upB_imp h (fun q => e q.symm)
/-- A whole store that comes up. -/
theorem exec_if_store {P : Program} {ops : Array Oper} {o : Oper} {a : Act} {w : World} {K : Act → World → Prop} {Q : Exit → Act → World → Prop} (hw : Region.wanted o (yielded ops a.tmps) = true) (ty : TypeId) (x y : Operand) (ho : o.op = .store ty x y)
    (g : Nat) (cells : Array Value) (hx : a.eval x = .pointer (some ⟨g, 0, none⟩)) (hy : a.eval y = .agg cells)
    (t : TypeId) (old : Array Value) (hg : w.heap[g]? = some (.cells old t (0, 0))) (hi : (P.info? ty).map (·.size) = some cells.size)
    (hold : old.size = cells.size) (h1 : cells.all (·.oneCell') = true)
    (h : K (a.put o.dst undef) (w.setRow g cells)) : if Region.wanted o (yielded ops a.tmps) = true then Oper.wp P o a w K Q else K (a.put o.dst undef) w := by
  rw [if_pos hw]
  exact wp_store_row ty x y ho g cells hx hy t old hg hi hold h1 h
/-- No store has come up yet, where one of those ahead of all stores has not. -/
theorem no_store {f : Nat → Bool} {l r : List Nat} (h : ∀ s ∈ l, f s = true → ∀ c ∈ r, f c = true) {c : Nat} (hc : c ∈ r) (hf : f c = false) : ∀ s ∈ l, f s = false := fun s hs => by
  cases e : f s with
  | false => rfl
  | true => rw [h s hs e c hc] at hf; cases hf
theorem store_up {f : Nat → Bool} {l r : List Nat} (h : ∀ s ∈ l, f s = true → ∀ c ∈ r, f c = true) {i : Nat} (hi : i ∈ r) (hf : f i = false) (hl : ∀ s ∈ l, s ≠ i) : ∀ s ∈ l, upB f i s = true → ∀ c ∈ r, upB f i c = true := fun s hs e => by
  rw [upB_ne _ (hl s hs), no_store h hi hf s hs] at e
  cases e
theorem store_at {f : Nat → Bool} {l r : List Nat} {i : Nat} (hr : ∀ c ∈ r, f c = true) (hn : ∀ c ∈ r, c ≠ i) : ∀ s ∈ l, upB f i s = true → ∀ c ∈ r, upB f i c = true := fun s _ _ c hc => by rw [upB_ne _ (hn c hc)]; exact hr c hc

/-- Ports that a call laid. -/
def RowT (w : World) (D : Option Addr) (L : List Po) : Prop := L = [] ∨ ∃ g rest, D = some ⟨g, 0, none⟩ ∧ Bk w g 48 (cellsOf lP L ++ rest)
/-- A view that operation j laid. -/
def CallF (f : Nat → Bool) (j : Nat) (t : Th) (n : Nat) (L : List Po) (w : World) (v : Value) : Prop :=
  f j = true → ∃ D cap, v = .agg (lT t D n cap).toArray ∧ (D = none → cap = 0) ∧ RowT w D L
section
variable {f : Nat → Bool} {i j : Nat} {t : Th} {n : Nat} {L : List Po} {w w' : World} {v : Value} {D : Option Addr}
theorem RowT.below (h : RowT w D L) (b : Below w.heap.size w w') : RowT w' D L := h.imp id fun ⟨g, r, e, k⟩ => ⟨g, r, e, k.below b k.lt⟩
theorem RowT.row {g : Nat} {cs cs' : List Value} (h : RowT w D L) (hb : Bk w g 31 cs') : RowT (w.setRow g cs.toArray) D L := h.imp id fun ⟨g', r, e, k⟩ =>
  ⟨g', r, e, (setRow_other w g g' _ (fun q => by subst q; unfold Bk at k hb; rw [k] at hb; injection hb with hb; injection hb with _ hb; cases hb)).trans k⟩
theorem TS.rowT {w0 : World} (h : TS w0 [] D L w) : RowT w D L := h.2.imp id fun ⟨g, r, e, s⟩ => ⟨g, r, e, (s.1 0 _ _ _ rfl).1⟩
theorem RowT.ports (h : RowT w D L) : PoAt w D w.heap.size L := fun k x hx => by
  rcases h with rfl | ⟨g, r, rfl, hb⟩
  · simp at hx
  · refine ⟨_, rfl, hb.lt, fun i v hv => ?_⟩
    have hi : i < 15 := by
      rcases Nat.lt_or_ge i 15 with q | q
      · exact q
      · rw [List.getElem?_eq_none (by rw [lP_len]; exact q)] at hv; cases hv
    have hl : k < L.length := po_lt hx
    rw [addr_add, addr_add, Nat.zero_add, hb.cell, List.getElem?_append_left (by rw [cellsOf_len lP_len]; omega), cellsOf_get lP_len L k x i hx hi]
    exact hv
theorem CallF.below (h : CallF f j t n L w v) (b : Below w.heap.size w w') : CallF f j t n L w' v := fun hj => by
  obtain ⟨D, cap, h1, h2, h3⟩ := h hj
  exact ⟨D, cap, h1, h2, h3.below b⟩
theorem CallF.up (h : CallF f j t n L w v) (hi : i ≠ j) : CallF (upB f i) j t n L w v := fun hj => h (by rwa [upB_ne _ (fun e => hi e.symm)] at hj)
theorem CallF.use {C : Prop} (h : CallF f j t n L w v) (hj : f j = true) (k : ∀ D cap, v = .agg (lT t D n cap).toArray → (D = none → cap = 0) → RowT w D L → C) : C := by
  obtain ⟨D, cap, h1, h2, h3⟩ := h hj
  exact k D cap h1 h2 h3
theorem CallF.off (h : f j = false) : CallF f j t n L w v := fun e => by rw [h] at e; cases e
theorem CallF.new {cap : Nat} (hz : D = none → cap = 0) (hr : RowT w D L) : CallF (upB f j) j t n L w (.agg (lT t D n cap).toArray) := fun _ => ⟨D, cap, rfl, hz, hr⟩
theorem CallF.row {g : Nat} {cs cs' : List Value} (h : CallF f j t n L w v) (hb : Bk w g 31 cs') : CallF f j t n L (w.setRow g cs.toArray) v := fun hj => by
  obtain ⟨D, cap, h1, h2, h3⟩ := h hj
  exact ⟨D, cap, h1, h2, h3.row hb⟩
end

end Go.Proofs.YtcamakkicmapcaaDoor

/- Boxes of a call's own beside elder ones; ports made anew. -/
namespace Go.Proofs.YtcamakkicmapcaaDoor
set_option maxRecDepth 100000
open Go.ChangeShapes Go.WideShapes Go.ChangeAt Go.RowKit
set_option linter.unusedVariables false

/-- As sets. -/
theorem hs_iff {w wx : World} {l : List (Nat × TypeId × List Value)} : Hs w l wx ↔ (∀ x ∈ l, Bk wx x.1 x.2.1 x.2.2 ∧ w.heap.size ≤ x.1) ∧ l.Pairwise (fun a b => a.1 ≠ b.1) ∧ Below w.heap.size w wx := by
  constructor
  · intro h
    refine ⟨fun x hx => ?_, ?_, h.2.2⟩
    · obtain ⟨k, hk, e⟩ := List.getElem_of_mem hx
      exact h.1 k x.1 x.2.1 x.2.2 (by rw [List.getElem?_eq_getElem hk, e])
    · rw [List.pairwise_iff_getElem]
      intro i j hi hj hij
      exact h.2.1 i j _ _ (by omega) (List.getElem?_eq_getElem hi) (List.getElem?_eq_getElem hj)
  · intro h
    refine ⟨fun k g T cs hk => h.1 (g, T, cs) (List.mem_of_getElem? hk), fun j k a b hn hj hk => ?_, h.2.2⟩
    obtain ⟨hj', ej⟩ := List.getElem?_eq_some_iff.1 hj
    obtain ⟨hk', ek⟩ := List.getElem?_eq_some_iff.1 hk
    have hp := List.pairwise_iff_getElem.1 h.2.1
    rw [← ej, ← ek]
    rcases Nat.lt_or_ge j k with q | q
    · exact hp j k hj' hk' q
    · exact (hp k j hk' hj' (by omega)).symm
theorem Hs.perm {w wx : World} {l l' : List (Nat × TypeId × List Value)} (h : Hs w l wx) (p : l.Perm l') : Hs w l' wx := by
  rw [hs_iff] at h ⊢
  exact ⟨fun x hx => h.1 x (p.mem_iff.2 hx), p.pairwise h.2.1 (fun q e => q e.symm), h.2.2⟩
/-- Blocks that were made later. -/
theorem Hs.join {w wx wy : World} {l m : List (Nat × TypeId × List Value)} (h : Hs w l wx) (k : Hs wx m wy) : Hs w (m ++ l) wy := by
  have hb := hs_iff.1 (h.below k.old)
  have h' := hs_iff.1 h
  have k' := hs_iff.1 k
  rw [hs_iff]
  refine ⟨fun x hx => ?_, ?_, hb.2.2⟩
  · rcases List.mem_append.1 hx with q | q
    · exact ⟨(k'.1 x q).1, Nat.le_trans h.old.size (k'.1 x q).2⟩
    · exact hb.1 x q
  · rw [List.pairwise_append]
    refine ⟨k'.2.1, h'.2.1, fun a ha b hbm => ?_⟩
    have e1 := (k'.1 a ha).2
    have e2 := (h'.1 b hbm).1.lt
    omega
theorem TS.join {w wx wy : World} {l m : List (Nat × TypeId × List Value)} {D : Option Addr} {L : List Po} (h : Hs w l wx) (k : TS wx m D L wy) : TS w (m ++ l) D L wy := by
  refine ⟨h.join k.1, k.2.imp id fun ⟨g, r, e, s⟩ => ⟨g, r, e, ?_⟩⟩
  refine (h.join s).perm ?_
  rw [List.append_assoc, List.append_assoc]
  exact List.Perm.append_left m List.perm_append_comm
/-- One box, and a row. -/
theorem hs_box {w wy : World} {g : Nat} {T : TypeId} {cs : List Value} (b : Below w.heap.size w wy) (hk : Bk wy g T cs) (hg : w.heap.size ≤ g) : Hs w [(g, T, cs)] wy :=
  hs_iff.2 ⟨fun x hx => by obtain rfl := List.mem_singleton.1 hx; exact ⟨hk, hg⟩, List.pairwise_singleton _ _, b⟩
theorem hs_box2 {w wy : World} {g g' : Nat} {T T' : TypeId} {cs cs' : List Value} (b : Below w.heap.size w wy) (hk : Bk wy g T cs) (hg : w.heap.size ≤ g) (hk' : Bk wy g' T' cs') (hg' : w.heap.size ≤ g') (hne : g ≠ g') : Hs w [(g, T, cs), (g', T', cs')] wy :=
  hs_iff.2 ⟨fun x hx => by rcases List.mem_cons.1 hx with rfl | q; exact ⟨hk, hg⟩; obtain rfl := List.mem_singleton.1 q; exact ⟨hk', hg'⟩, List.pairwise_cons.2 ⟨fun x hx => by obtain rfl := List.mem_singleton.1 hx; exact hne, List.pairwise_singleton _ _⟩, b⟩
theorem hs_box3 {w wy : World} {g g' g'' : Nat} {T T' T'' : TypeId} {cs cs' cs'' : List Value} (b : Below w.heap.size w wy) (hk : Bk wy g T cs) (hg : w.heap.size ≤ g) (hk' : Bk wy g' T' cs') (hg' : w.heap.size ≤ g') (hk'' : Bk wy g'' T'' cs'') (hg'' : w.heap.size ≤ g'') (hne : g ≠ g') (hne' : g ≠ g'') (hne'' : g' ≠ g'') : Hs w [(g, T, cs), (g', T', cs'), (g'', T'', cs'')] wy := by
  have h2 := hs_iff.1 (hs_box2 b hk' hg' hk'' hg'' hne'')
  refine hs_iff.2 ⟨List.forall_mem_cons.2 ⟨⟨hk, hg⟩, h2.1⟩, List.pairwise_cons.2 ⟨fun x hx => ?_, h2.2.1⟩, b⟩
  rcases List.mem_cons.1 hx with rfl | q
  · exact hne
  · obtain rfl := List.mem_singleton.1 q
    exact hne'
theorem bk_ne {w : World} {g g' : Nat} {T T' : TypeId} {cs cs' : List Value} (h : Bk w g T cs) (h' : Bk w g' T' cs') (hT : T ≠ T') : g ≠ g' := by
  rintro rfl
  unfold Bk at h h'
  rw [h] at h'
  injection h' with e
  injection e with _ e
  exact hT e

def zeroP : Po := ⟨0, 0, 0, 0, 0, 0, 0, false, false, false, 0, false, 0, false, 0⟩
theorem made_at (z : Array Value) (m i : Nat) (h : i < (madeCells z m).size) : (madeCells z m)[i] = z[i % z.size]! := by simp [madeCells]
theorem made_ports (n : Nat) : madeCells (Value.agg (lP zeroP).toArray).cells (n * 15) = (cellsOf lP (List.replicate n zeroP)).toArray := by
  apply Array.ext
  · rw [size_madeCells, List.size_toArray, cellsOf_len lP_len, List.length_replicate]
  · intro i h1 h2
    have h3 : i < n * 15 := by rwa [size_madeCells] at h1
    have e := cellsOf_get lP_len (List.replicate n zeroP) (i / 15) zeroP (i % 15) (by rw [List.getElem?_replicate, if_pos (by omega)]) (by omega)
    rw [show i / 15 * 15 + i % 15 = i by omega] at e
    have hq : i % 15 < (lP zeroP).length := by rw [lP_len]; omega
    rw [List.getElem?_eq_getElem hq] at e
    have e2 : (cellsOf lP (List.replicate n zeroP)).toArray[i] = (lP zeroP)[i % 15] := by
      have := List.getElem?_eq_some_iff.1 e
      simpa using this.2
    rw [e2]
    rw [made_at]
    show (lP zeroP).toArray[i % (lP zeroP).toArray.size]! = _
    rw [List.size_toArray, lP_len, getElem!_pos (lP zeroP).toArray (i % 15) (by rw [List.size_toArray]; exact hq)]
    rfl
theorem make_ports (n : Nat) (h : n ≤ 1000) (w : World) :
    (Instr.makeSlice 29 (.int .i64 (n : Int)) (.int .i64 (n : Int))).run Tryd.prog w = .ok (.slice (some ⟨w.heap.size, 0, none⟩) n n) (w.alloc (.cells (cellsOf lP (List.replicate n zeroP)).toArray 48)) := by
  obtain ⟨i0, hi, hz0, hz1, hz2⟩ := info_parts Tryd.infoPo
  have hr := run_make (P := Tryd.prog) w 29 48 i0 _ Tryd.underlying29 hi hz0 .i64 .i64 (n : Int) (n : Int) (by omega) (by omega) (by rw [hz2]; omega) (by omega)
  rw [hz1] at hr
  simp only [Int.toNat_natCast] at hr
  rw [hr]
  exact congrArg (fun c => Result.ok (Value.slice (some ⟨w.heap.size, 0, none⟩) n n) (w.alloc (.cells c 48))) (made_ports n)

/-- A row that operation j made. -/
def MkF (f : Nat → Bool) (j B n : Nat) (cs : List Value) (w : World) (v : Value) : Prop := f j = true → ∃ g, v = .slice (some ⟨g, 0, none⟩) n n ∧ B ≤ g ∧ Bk w g 48 cs
section
variable {f : Nat → Bool} {i j B n : Nat} {cs : List Value} {w w' : World} {v : Value}
theorem MkF.below (h : MkF f j B n cs w v) (b : Below w.heap.size w w') : MkF f j B n cs w' v := fun hj => by
  obtain ⟨g, h1, h2, h3⟩ := h hj
  exact ⟨g, h1, h2, h3.below b h3.lt⟩
theorem MkF.up (h : MkF f j B n cs w v) (hi : i ≠ j) : MkF (upB f i) j B n cs w v := fun hj => h (by rwa [upB_ne _ (fun e => hi e.symm)] at hj)
theorem MkF.off (h : f j = false) : MkF f j B n cs w v := fun e => by rw [h] at e; cases e
theorem MkF.new (hB : B ≤ w.heap.size) : MkF (upB f j) j B n cs (w.alloc (.cells cs.toArray 48)) (.slice (some ⟨w.heap.size, 0, none⟩) n n) := fun _ => ⟨_, rfl, hB, heap_alloc_new w _⟩
theorem MkF.row {g : Nat} {ds es : List Value} (h : MkF f j B n cs w v) (hb : Bk w g 31 es) : MkF f j B n cs (w.setRow g ds.toArray) v := fun hj => by
  obtain ⟨g', h1, h2, h3⟩ := h hj
  exact ⟨g', h1, h2, (setRow_other w g g' _ (bk_ne h3 hb (by decide))).trans h3⟩
end

/-- A store into a row's midst that comes up. -/
theorem exec_if_store_mid {P : Program} {ops : Array Oper} {o : Oper} {a : Act} {w : World} {K : Act → World → Prop} {Q : Exit → Act → World → Prop} (hw : Region.wanted o (yielded ops a.tmps) = true) (ty : TypeId) (x y : Operand) (ho : o.op = .store ty x y)
    (b off : Nat) (cells : Array Value) (hx : a.eval x = .pointer (some ⟨b, off, none⟩)) (hy : a.eval y = .agg cells)
    (ht : w.there b off cells.size) (hi : (P.info? ty).map (·.size) = some cells.size) (h1 : cells.all (·.oneCell') = true)
    (h : K (a.put o.dst undef) (w.setCells b off cells.toList)) : if Region.wanted o (yielded ops a.tmps) = true then Oper.wp P o a w K Q else K (a.put o.dst undef) w := by
  rw [if_pos hw]
  exact wp_store_mid ty x y ho b off cells hx hy ht hi h1 h

/-- Boxes, while a row grows. -/
theorem Hs.grow {w wx wy : World} {l : List (Nat × TypeId × List Value)} {row : Option Nat} {base : Nat} (h : Hs w l wx) (gr : wx.grownBy wy row) (hr : ∀ k, row = some k → base ≤ k) (hl : ∀ x ∈ l, x.1 < base) (hb : w.heap.size ≤ base) : Hs w l wy := by
  have hB : Below w.heap.size w wy := h.old.grown gr h.old.size (fun k hk => Nat.le_trans hb (hr k hk))
  have h' := hs_iff.1 h
  refine hs_iff.2 ⟨fun x hx => ⟨?_, (h'.1 x hx).2⟩, h'.2.1, hB⟩
  have e := (h'.1 x hx).1
  unfold Bk at e ⊢
  rw [gr.block x.1 (Bk.lt e) (fun q => by have := hr x.1 q.symm; have := hl x hx; omega)]
  exact e

end Go.Proofs.YtcamakkicmapcaaDoor

/- The text of an address, its bytes, and what is read of a text: as lists. No program in sight. -/
namespace Go.Proofs.YtcamakkicmapcaaDoor
set_option maxRecDepth 100000
open Go

def hexU (d : Nat) : UInt8 := if d < 10 then UInt8.ofNat (48 + d) else UInt8.ofNat (87 + d)
def hx (q : Int) : UInt8 := hexU (q % 16).toNat
def txt (a : Int) : List UInt8 :=
  [hx (a / 17592186044416), hx (a / 1099511627776), 58, hx (a / 68719476736), hx (a / 4294967296), 58, hx (a / 268435456), hx (a / 16777216), 58,
   hx (a / 1048576), hx (a / 65536), 58, hx (a / 4096), hx (a / 256), 58, hx (a / 16), hx a]

theorem hexcell (d : Int) (h0 : 0 ≤ d) (h1 : d < 16) (h : d.toNat < (ByteArray.mk #[48, 49, 50, 51, 52, 53, 54, 55, 56, 57, 97, 98, 99, 100, 101, 102]).size) :
    ((ByteArray.mk #[48, 49, 50, 51, 52, 53, 54, 55, 56, 57, 97, 98, 99, 100, 101, 102])[d.toNat]'h) = hexU d.toNat := by
  have hd : d = 0 ∨ d = 1 ∨ d = 2 ∨ d = 3 ∨ d = 4 ∨ d = 5 ∨ d = 6 ∨ d = 7 ∨ d = 8 ∨ d = 9 ∨ d = 10 ∨ d = 11 ∨ d = 12 ∨ d = 13 ∨ d = 14 ∨ d = 15 := by omega
  rcases hd with rfl | rfl | rfl | rfl | rfl | rfl | rfl | rfl | rfl | rfl | rfl | rfl | rfl | rfl | rfl | rfl <;> rfl

theorem txt_len (a : Int) : (txt a).length = 17 := rfl

theorem hx_of (x q : Int) (h : x = q % 16) : hexU x.toNat = hx q := by rw [h]; rfl
theorem str_app (l : List UInt8) (m : Array UInt8) : (ByteArray.mk l.toArray ++ ByteArray.mk m : ByteArray) = ⟨(l ++ m.toList).toArray⟩ := by
  apply ByteArray.ext; simp [ByteArray.data_append]

end Go.Proofs.YtcamakkicmapcaaDoor

/- Facts on this seat's program that several texts use. -/
namespace Go.Proofs.YtcamakkicmapcaaDoor
set_option maxRecDepth 100000
theorem Tryd.infoByteI : (Tryd.prog.info? 5).map (fun i => (i.zero, i.size, i.bytes)) = some (some (.int .u8 0), 1, 1) := by kernel_rfl
end Go.Proofs.YtcamakkicmapcaaDoor
