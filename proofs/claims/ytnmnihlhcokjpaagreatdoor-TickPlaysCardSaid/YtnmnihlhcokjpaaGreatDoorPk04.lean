/- Several texts in one, one behind the other: TreeSmall, TreeMath, TreeLeads, TreeBest, TreeCopy. -/
import Derived.Test.YtnmnihlhcokjpaaGreatDoorPk03
import Derived.LoopTactic
import Derived.Deep.RegionHeld3

/- IsRoot, Telling, through, mayLead, owesNothing: contracts. -/
namespace Go.Proofs.YtnmnihlhcokjpaaGreatDoor
set_option maxRecDepth 100000
open Go.ChangeShapes Go.WideShapes Go.ChangeAt Go.RowKit
set_option linter.unusedVariables false

theorem desig_row (p : Po) (o : Int) (q : Bool) (hq : Hid ((decide (p.hb = o) && decide (p.hp = p.id)) = q)) (w : World) :
    Calls Tryz.prog 31 #[.agg (lP p).toArray, .int .u64 o] w fun e w' => e = .returned (.bool q) ∧ Below w.heap.size w w' := desig_is p o q hq w

theorem isroot_is (t : Th) (A : Option Addr) (n cap : Nat) (q : Bool) (hq : Hid (decide (t.ro = t.ow) = q)) (w : World) :
    Calls Tryz.prog 70 #[.agg (lT t A n cap).toArray] w fun e w' => e = .returned (.bool q) ∧ Below w.heap.size w w' := by
  obtain ⟨wb, hwb, S⟩ := hs_one w 31 (lT t A n cap)
  go_enter Tryz.func70, Tryz.ntmps70
  go_upto_region 1 with fail
  clear hwb
  have c0 := S.cell 0 0 rfl rfl
  have c1 := S.cell 0 1 rfl rfl
  go_wp2
  go_ret
  exact ⟨ret_bool (by rw [← hq.out]; exact (Bool.eq_iff_iff.2 (by simp))), S.old⟩

theorem telling_is (t : Th) (A : Option Addr) (n cap : Nat) (w : World) :
    Calls Tryz.prog 44 #[.agg (lT t A n cap).toArray] w fun e w' => e = .returned (.agg #[.int .u64 t.ro, .int .u32 t.co, .int .u64 t.ow, .int .u16 0]) ∧ Below w.heap.size w w' := by
  obtain ⟨wb, hwb, S⟩ := hs_two w 31 61 (lT t A n cap) [.int .u64 0, .int .u32 0, .int .u64 0, .int .u16 0]
  go_enter Tryz.func44, Tryz.ntmps44
  go_upto_region 1 with fail
  clear hwb
  obtain ⟨X, hX⟩ : ∃ X, w.heap.size = X := ⟨_, rfl⟩
  rw [hX] at S ⊢
  obtain ⟨Y, hY⟩ : ∃ Y, X + 1 = Y := ⟨_, rfl⟩
  rw [hY] at S ⊢
  have c0 := S.cell 1 0 rfl rfl
  have c1 := S.cell 1 1 rfl rfl
  have c2 := S.cell 1 2 rfl rfl
  have hy := S.bk 0 rfl
  go_wp2_with (refine wpList_store_row rfl 61 _ _ rfl Y _ rfl rfl _ _ hy (by kernel_rfl) (by kernel_rfl) (by kernel_rfl) ?_)
  exact bodyPost_ret (v := .agg #[.int .u64 t.ro, .int .u32 t.co, .int .u64 t.ow, .int .u16 0]) (results_cell_row rfl _ _ Y _ _ _ _ rfl (setRow_heap _ _ _ _ _ _ hy) Tryz.underlying61 rfl (by kernel_rfl)) rfl ⟨rfl, (S.row 0 rfl [.int .u64 t.ro, .int .u32 t.co, .int .u64 t.ow, .int .u16 0]).old⟩

/-- What its LAN tells, through a port. -/
def thruV (p : Po) : Vec := ⟨p.hr, farI p.hc p.co, p.hb, p.hp⟩

theorem through_is (p : Po) (hb : PoB p) (w : World) :
    Calls Tryz.prog 132 #[.agg (lP p).toArray] w fun e w' => e = .returned (.agg #[.int .u64 (thruV p).r, .int .u32 (thruV p).c, .int .u64 (thruV p).b, .int .u16 (thruV p).p]) ∧ Below w.heap.size w w' := by
  have HV := fun W => Lib.hid (via_is ⟨p.hr, p.hc, p.hb, p.hp⟩ p.co (by unfold PoB at hb; unfold VB; dsimp only; omega) (by unfold PoB at hb; omega) (by unfold PoB at hb; omega) W)
  dsimp only at HV
  clear hb
  obtain ⟨wb, hwb, S⟩ := hs_two w 63 61 (lP p) [.int .u64 0, .int .u32 0, .int .u64 0, .int .u16 0]
  go_enter Tryz.func132, Tryz.ntmps132
  go_upto_region 1 with fail
  clear hwb
  obtain ⟨X, hX⟩ : ∃ X, w.heap.size = X := ⟨_, rfl⟩
  rw [hX] at S ⊢
  obtain ⟨Y, hY⟩ : ∃ Y, X + 1 = Y := ⟨_, rfl⟩
  rw [hY] at S ⊢
  have c2 := S.cell 1 2 rfl rfl
  have c3 := S.cell 1 3 rfl rfl
  have c4 := S.cell 1 4 rfl rfl
  have c5 := S.cell 1 5 rfl rfl
  have c6 := S.cell 1 6 rfl rfl
  go_wp2_with fail
  (with_reducible refine (HV _).out.mono ?_); rintro e w1 ⟨rfl, b1⟩
  have S1 := S.below b1
  have hy := S1.bk 0 rfl
  clear S HV c2 c3 c4 c5 c6
  go_wp2_with (refine wpList_store_row rfl 61 _ _ rfl Y _ rfl rfl _ _ hy (by kernel_rfl) (by kernel_rfl) (by kernel_rfl) ?_)
  exact bodyPost_ret (v := .agg #[.int .u64 (thruV p).r, .int .u32 (thruV p).c, .int .u64 (thruV p).b, .int .u16 (thruV p).p]) (results_cell_row rfl _ _ Y _ _ _ _ rfl (setRow_heap _ _ _ _ _ _ hy) Tryz.underlying61 rfl (by kernel_rfl)) rfl ⟨rfl, (S1.row 0 rfl [.int .u64 (thruV p).r, .int .u32 (thruV p).c, .int .u64 (thruV p).b, .int .u16 (thruV p).p]).old⟩

/-- May a port lead to the root? -/
def desB (p : Po) (o : Int) : Bool := decide (p.hb = o) && decide (p.hp = p.id)
def mayB (p : Po) (o : Int) : Bool := !desB p o && (decide (p.st ≠ 0) && decide (p.hr < o))

theorem may_is (p : Po) (o : Int) (q : Bool) (hq : Hid (mayB p o = q)) (w : World) :
    Calls Tryz.prog 135 #[.agg (lP p).toArray, .int .u64 o] w fun e w' => e = .returned (.bool q) ∧ Below w.heap.size w w' := by
  obtain ⟨d, hd⟩ : ∃ d, desB p o = d := ⟨_, rfl⟩
  have HD := fun W => Lib.hid (desig_row p o d (Lib.hid hd) W)
  have HQ := Lib.hid hq.out
  unfold mayB at HQ
  rw [hd] at HQ
  clear hq hd
  obtain ⟨wb, hwb, S⟩ := hs_one w 63 (lP p)
  go_enter Tryz.func135, Tryz.ntmps135
  go_upto_region 1 with fail
  clear hwb
  obtain ⟨X, hX⟩ : ∃ X, w.heap.size = X := ⟨_, rfl⟩
  rw [hX] at S ⊢
  have hx := S.bk 0 rfl
  go_wp2_with (refine wpList_load_row rfl 63 _ rfl X rfl _ _ (0, 0) _ hx Tryz.underlying63 rfl (by kernel_rfl) ?_)
  (with_reducible refine (HD _).out.mono ?_); rintro e w1 ⟨rfl, b1⟩
  have S1 := S.below b1
  clear S HD hx
  have c1 := S1.cell 0 1 rfl rfl
  have c3 := S1.cell 0 3 rfl rfl
  cases d with
  | true =>
    go_wp2
    go_ret
    exact ⟨ret_bool (by rw [← HQ.out]; rfl), S1.old⟩
  | false =>
    by_cases h1 : p.st = 0
    · have e := HQ.out
      rw [show decide (p.st ≠ 0) = false from decide_eq_false (fun k => k h1)] at e
      have HQ := Lib.hid e
      rw [h1] at c1
      clear h1
      go_wp2
      go_ret
      exact ⟨ret_bool (by rw [← HQ.out]; rfl), S1.old⟩
    · have hb : (p.st == 0) = false := by simpa using h1
      have hb' : (p.st != 0) = true := by simp [bne, hb]
      have e := HQ.out
      rw [show decide (p.st ≠ 0) = true from decide_eq_true h1] at e
      have HQ := Lib.hid e
      clear h1 e
      go_wp2
      go_ret
      exact ⟨ret_bool (by rw [← HQ.out]; simp), S1.old⟩

/-- A port without what its LAN waits for. -/
def owesP (p : Po) : Po := { p with ak := false, pe := false }
theorem owes_is (p : Po) (w : World) :
    Calls Tryz.prog 120 #[.agg (lP p).toArray] w fun e w' => e = .returned (.agg (lP (owesP p)).toArray) ∧ Below w.heap.size w w' := by
  obtain ⟨wb, hwb, S⟩ := hs_two w 63 63 (lP p) [.int .u16 0, .int .i64 0, .int .u32 0, .int .u64 0, .int .u32 0, .int .u64 0, .int .u16 0, .bool false, .bool false, .bool false, .int .i64 0, .bool false, .int .i64 0, .bool false, .int .i64 0]
  go_enter Tryz.func120, Tryz.ntmps120
  go_upto_region 1 with fail
  clear hwb
  obtain ⟨X, hX⟩ : ∃ X, w.heap.size = X := ⟨_, rfl⟩
  rw [hX] at S ⊢
  obtain ⟨Y, hY⟩ : ∃ Y, X + 1 = Y := ⟨_, rfl⟩
  rw [hY] at S ⊢
  have c7 := S.cell 1 7 rfl rfl
  have c8 := S.cell 1 8 rfl rfl
  have f7 := S.thaw 1 7 rfl
  have f8 := S.thaw 1 8 rfl
  go_upto_region 2 with fail
  have S3 : Hs w [(Y, 63, [.int .u16 0, .int .i64 0, .int .u32 0, .int .u64 0, .int .u32 0, .int .u64 0, .int .u16 0, .bool false, .bool false, .bool false, .int .i64 0, .bool false, .int .i64 0, .bool false, .int .i64 0]), (X, 63, lP (owesP p))] _ := (S.set 1 rfl 8 (.bool false)).set 1 rfl 7 (.bool false)
  generalize (wb.setCell ⟨X, 8, none⟩ (.bool false)).setCell ⟨X, 7, none⟩ (.bool false) = w2 at S3 ⊢
  clear S c7 c8 f7 f8
  have hx := S3.bk 1 rfl
  have hy := S3.bk 0 rfl
  go_wp2_with (first | (refine wpList_load_row rfl 63 _ rfl X rfl _ _ (0, 0) _ hx Tryz.underlying63 rfl (by kernel_rfl) ?_) | (refine wpList_store_row rfl 63 _ _ rfl Y _ rfl rfl _ _ hy (by kernel_rfl) (by kernel_rfl) (by kernel_rfl) ?_))
  exact bodyPost_ret (v := .agg (lP (owesP p)).toArray) (results_cell_row rfl _ _ Y _ _ _ _ rfl (setRow_heap _ _ _ _ _ _ hy) Tryz.underlying63 rfl (by kernel_rfl)) rfl ⟨rfl, (S3.row 0 rfl (lP (owesP p))).old⟩

end Go.Proofs.YtnmnihlhcokjpaaGreatDoor

/- What becomes of a view: which port leads to the root, which ones are designated, which ones rise: no memory. -/
namespace Go.Proofs.YtnmnihlhcokjpaaGreatDoor
set_option maxRecDepth 100000
set_option linter.unusedVariables false

/-- Does p lead better than q? -/
def betterB (p q : Po) : Bool := decide (orI (cmpV (thruV p) (thruV q)) (cmpI p.id q.id) < 0)
theorem betterB_iff (p q : Po) : betterB p q = true ↔ ((thruV p).r < (thruV q).r ∨ (thruV p).r = (thruV q).r ∧ ((thruV p).c < (thruV q).c ∨ (thruV p).c = (thruV q).c ∧ ((thruV p).b < (thruV q).b ∨ (thruV p).b = (thruV q).b ∧ ((thruV p).p < (thruV q).p ∨ (thruV p).p = (thruV q).p ∧ p.id < q.id)))) := by
  unfold betterB orI
  rw [decide_eq_true_eq]
  generalize thruV p = a
  generalize thruV q = b
  have h1 := wpI_cases a b; have h2 := cmpV_cases a b; have h3 := cmpI_cases p.id q.id
  split <;> omega
theorem betterB_anti {p q : Po} (h : betterB p q = true) : betterB q p = false := by
  rw [betterB_iff] at h
  cases e : betterB q p with
  | false => rfl
  | true => rw [betterB_iff] at e; omega
theorem betterB_trans {p q r : Po} (h : betterB p q = true) (k : betterB q r = true) : betterB p r = true := by
  rw [betterB_iff] at h k ⊢
  generalize thruV p = a at *
  generalize thruV q = b at *
  generalize thruV r = c at *
  omega
theorem betterB_total {p q : Po} (h : betterB p q = false) (k : betterB q p = false) : p.id = q.id := by
  have h' : ¬ betterB p q = true := by rw [h]; decide
  have k' : ¬ betterB q p = true := by rw [k]; decide
  rw [betterB_iff] at h' k'
  omega
/-- As the document says it. -/
theorem betterB_ref (p q : Po) : betterB p q = (lessB (thruV p) (thruV q) || (!lessB (thruV q) (thruV p) && decide (p.id < q.id))) := by
  have h1 := betterB_iff p q; have h2 := lessB_iff (thruV p) (thruV q); have h3 := lessB_iff (thruV q) (thruV p)
  rw [Bool.eq_iff_iff, h1]
  cases a : lessB (thruV p) (thruV q) with
  | true => have := h2.1 a; simp; omega
  | false =>
    have n2 := lessB_no _ _ a
    cases b : lessB (thruV q) (thruV p) with
    | true => have := h3.1 b; simp; omega
    | false => have n3 := lessB_no _ _ b; simp; omega

/-- The place of the port that leads best, among the first k. -/
def bst (o : Int) (L : List Po) : Nat → Option Nat
  | 0 => none
  | k + 1 => match L[k]? with
    | none => bst o L k
    | some p => if mayB p o then (match bst o L k with
      | none => some k
      | some j => match L[j]? with
        | none => some k
        | some q => if betterB p q then some k else some j) else bst o L k
def toI : Option Nat → Int
  | none => -1
  | some j => (j : Int)
theorem bst_lt {o : Int} {L : List Po} : ∀ {k j : Nat}, bst o L k = some j → j < k ∧ j < L.length := by
  intro k
  induction k with
  | zero => intro j h; cases h
  | succ k ih =>
    intro j h
    simp only [bst] at h
    split at h
    · have := ih h; omega
    · rename_i p hp
      have hk := po_lt hp
      split at h
      · split at h
        · cases h; omega
        · rename_i i hi
          have := ih hi
          split at h
          · cases h; omega
          · split at h <;> cases h <;> omega
      · have := ih h; omega

theorem bst_no {o : Int} {L : List Po} {k : Nat} {x : Po} (hx : L[k]? = some x) (hm : mayB x o = false) : bst o L (k + 1) = bst o L k := by simp [bst, hx, hm]
theorem bst_first {o : Int} {L : List Po} {k : Nat} {x : Po} (hx : L[k]? = some x) (hm : mayB x o = true) (hb : bst o L k = none) : bst o L (k + 1) = some k := by simp [bst, hx, hm, hb]
theorem bst_next {o : Int} {L : List Po} {k j : Nat} {x y : Po} {r : Bool} (hx : L[k]? = some x) (hm : mayB x o = true) (hb : bst o L k = some j) (hy : L[j]? = some y) (hr : betterB x y = r) : bst o L (k + 1) = some (if r = true then k else j) := by
  cases r <;> simp [bst, hx, hm, hb, hy, hr]

/-- Nobody of the first k leads better than number j. -/
def Top (o : Int) (L : List Po) (k j : Nat) : Prop := ∃ p, L[j]? = some p ∧ mayB p o = true ∧ ∀ i, i < k → i ≠ j → ∀ q, L[i]? = some q → mayB q o = true → betterB q p = false

theorem bst_spec (o : Int) (L : List Po) : ∀ k, match bst o L k with
    | none => ∀ i, i < k → ∀ p, L[i]? = some p → mayB p o = false
    | some j => j < k ∧ Top o L k j := by
  intro k
  induction k with
  | zero => intro i h; omega
  | succ k ih =>
    simp only [bst]
    cases hp : L[k]? with
    | none =>
      simp only
      revert ih
      cases hb : bst o L k with
      | none =>
        intro ih i hi p hq
        by_cases e : i = k
        · subst e; rw [hp] at hq; cases hq
        · exact ih i (by omega) p hq
      | some j =>
        intro ih
        obtain ⟨hj, p, h1, h2, h3⟩ := ih
        refine ⟨by omega, p, h1, h2, fun i hi hn q hq hm => ?_⟩
        by_cases e : i = k
        · subst e; rw [hp] at hq; cases hq
        · exact h3 i (by omega) hn q hq hm
    | some p =>
      simp only
      by_cases hm : mayB p o = true
      · rw [if_pos hm]
        revert ih
        cases hb : bst o L k with
        | none =>
          intro ih
          refine ⟨by omega, p, hp, hm, fun i hi hn q hq hmq => ?_⟩
          rw [ih i (by omega) q hq] at hmq
          cases hmq
        | some j =>
          intro ih
          obtain ⟨hj, q, h1, h2, h3⟩ := ih
          simp only [h1]
          by_cases hbt : betterB p q = true
          · rw [if_pos hbt]
            refine ⟨by omega, p, hp, hm, fun i hi hn x hx hmx => ?_⟩
            by_cases e : i = j
            · subst e; rw [h1] at hx; cases hx; exact betterB_anti hbt
            · have := h3 i (by omega) e x hx hmx
              cases hxp : betterB x p with
              | false => rfl
              | true => rw [betterB_trans hxp hbt] at this; cases this
          · rw [if_neg hbt]
            refine ⟨by omega, q, h1, h2, fun i hi hn x hx hmx => ?_⟩
            by_cases e : i = k
            · subst e; rw [hp] at hx; cases hx; simpa using hbt
            · exact h3 i (by omega) hn x hx hmx
      · rw [if_neg hm]
        revert ih
        cases hb : bst o L k with
        | none =>
          intro ih i hi q hq
          by_cases e : i = k
          · subst e; rw [hp] at hq; cases hq; simpa using hm
          · exact ih i (by omega) q hq
        | some j =>
          intro ih
          obtain ⟨hj, q, h1, h2, h3⟩ := ih
          refine ⟨by omega, q, h1, h2, fun i hi hn x hx hmx => ?_⟩
          by_cases e : i = k
          · subst e; rw [hp] at hx; cases hx; rw [hmx] at hm; exact absurd rfl hm
          · exact h3 i (by omega) hn x hx hmx

/-- Ports have unlike numbers. -/
def Unlike (L : List Po) : Prop := ∀ (i j : Nat) (p q : Po), L[i]? = some p → L[j]? = some q → i ≠ j → p.id ≠ q.id
theorem top_one {o : Int} {L : List Po} (hU : Unlike L) {i j : Nat} (h : Top o L L.length i) (k : Top o L L.length j) : i = j := by
  by_cases e : i = j
  · exact e
  · obtain ⟨p, h1, h2, h3⟩ := h
    obtain ⟨q, k1, k2, k3⟩ := k
    exact absurd (betterB_total (k3 i (po_lt h1) e p h1 h2) (h3 j (po_lt k1) (fun q => e q.symm) q k1 k2)) (hU i j p q h1 k1 e)
/-- What the document's loop has found behind the first k. -/
def RS (o : Int) (L : List Po) (k : Nat) : Option Nat → Prop
  | none => ∀ i, i < k → ¬ Top o L L.length i
  | some j => j < k ∧ Top o L L.length j
theorem rs_is {o : Int} {L : List Po} (hU : Unlike L) {r : Option Nat} (h : RS o L L.length r) : r = bst o L L.length := by
  have hb := bst_spec o L L.length
  revert hb
  cases e : bst o L L.length with
  | none =>
    intro hb
    cases r with
    | none => rfl
    | some j =>
      obtain ⟨h1, p, h2, h3, _⟩ := h
      rw [hb j h1 p h2] at h3
      cases h3
  | some j =>
    intro hb
    cases r with
    | none => exact absurd hb.2 (h j hb.1)
    | some i => rw [top_one hU h.2 hb.2]

/-- The view with the root, and the port to it. -/
def selT (t : Th) (L : List Po) : Option Nat → Th
  | none => { t with rp := -1, ro := t.ow, co := 0 }
  | some j => match L[j]? with
    | none => { t with rp := -1, ro := t.ow, co := 0 }
    | some p => { t with rp := (j : Int), ro := p.hr, co := farI p.hc p.co }
def selectT (t : Th) (L : List Po) : Th := selT t L (bst t.ow L L.length)

/-- A port that holds what its bridge tells. -/
def becomeP (t : Th) (p : Po) : Po := { p with hr := t.ro, hc := t.co, hb := t.ow, hp := p.id }
def ownV (t : Th) (p : Po) : Vec := ⟨t.ro, t.co, t.ow, p.id⟩
def heldV (p : Po) : Vec := ⟨p.hr, p.hc, p.hb, p.hp⟩
def takesB (t : Th) (p : Po) : Bool := desB p t.ow || (decide (p.hr ≠ t.ro) || decide (cmpV (ownV t p) (heldV p) ≤ 0))
theorem takesB_ref (t : Th) (p : Po) : decide (cmpV (ownV t p) (heldV p) ≤ 0) = !lessB (heldV p) (ownV t p) := by
  have h1 := wpI_cases (ownV t p) (heldV p); have h2 := cmpV_cases (ownV t p) (heldV p); have h3 := lessB_iff (heldV p) (ownV t p)
  rw [Bool.eq_iff_iff, decide_eq_true_eq]
  cases a : lessB (heldV p) (ownV t p) with
  | true => have := h3.1 a; simp; omega
  | false => have n := lessB_no _ _ a; simp; omega
def desP (t : Th) (p : Po) : Po := if takesB t p = true then becomeP t p else p

/-- The first k made anew. -/
def mixL (f : Nat → Po → Po) (k : Nat) (L : List Po) : List Po := L.mapIdx fun j x => if j < k then f j x else x
theorem mixL_len (f : Nat → Po → Po) (k : Nat) (L : List Po) : (mixL f k L).length = L.length := by simp [mixL]
theorem mixL_get (f : Nat → Po → Po) (k : Nat) (L : List Po) (j : Nat) : (mixL f k L)[j]? = (L[j]?).map fun x => if j < k then f j x else x := by simp [mixL]
theorem mixL_at {f : Nat → Po → Po} {k : Nat} {L : List Po} {x : Po} (h : L[k]? = some x) : (mixL f k L)[k]? = some x := by rw [mixL_get, h]; simp
theorem mixL_zero (f : Nat → Po → Po) (L : List Po) : mixL f 0 L = L := by
  apply List.ext_getElem?
  intro j
  rw [mixL_get]
  cases L[j]? <;> simp
theorem mixL_set {f : Nat → Po → Po} {k : Nat} {L : List Po} {x : Po} (h : L[k]? = some x) : (mixL f k L).set k (f k x) = mixL f (k + 1) L := by
  apply List.ext_getElem?
  intro j
  rw [List.getElem?_set, mixL_get, mixL_get, mixL_len]
  by_cases e : k = j
  · subst e
    have := po_lt h
    rw [h, if_pos rfl, if_pos this]
    simp
  · rw [if_neg e]
    cases L[j]? with
    | none => rfl
    | some y =>
      simp only [Option.map_some]
      by_cases q : j < k
      · rw [if_pos q, if_pos (by omega)]
      · rw [if_neg q, if_neg (by omega)]
theorem mixL_same {f : Nat → Po → Po} {k : Nat} {L : List Po} {x : Po} (h : L[k]? = some x) (e : f k x = x) : mixL f k L = mixL f (k + 1) L := by
  rw [← mixL_set h, e]
  apply List.ext_getElem?
  intro j
  rw [List.getElem?_set, mixL_len]
  by_cases q : k = j
  · subst q
    rw [mixL_at h]
    have := po_lt h
    simp [this]
  · rw [if_neg q]
def allL (f : Nat → Po → Po) (L : List Po) : List Po := L.mapIdx f
theorem allL_len (f : Nat → Po → Po) (L : List Po) : (allL f L).length = L.length := by simp [allL]
theorem allL_get (f : Nat → Po → Po) (L : List Po) (j : Nat) : (allL f L)[j]? = (L[j]?).map (f j) := by simp [allL]
theorem mixL_all {f : Nat → Po → Po} {k : Nat} {L : List Po} (h : L.length ≤ k) : mixL f k L = allL f L := by
  apply List.ext_getElem?
  intro j
  rw [mixL_get, allL_get]
  cases e : L[j]? with
  | none => rfl
  | some x => have := po_lt e; simp [show j < k by omega]
def desL (t : Th) (L : List Po) : List Po := allL (fun _ p => desP t p) L

/-- One port, and whether it learnt, or forwarded, and was blocked. -/
def restP (p : Po) : Po := { p with ao := false, av := 0 }
def stP (t : Th) (j : Nat) (p : Po) : Po × Bool := if (j : Int) = t.rp then (riseP (owesP p), false) else if desB p t.ow = true then (riseP (restP p), false) else blockP (owesP p)
def statesL (t : Th) (L : List Po) : List Po := allL (fun j p => (stP t j p).1) L
def lostB (t : Th) (L : List Po) : Nat → Bool
  | 0 => false
  | k + 1 => lostB t L k || (match L[k]? with | some x => (stP t k x).2 | none => false)
theorem lostB_step {t : Th} {L : List Po} {k : Nat} {x : Po} (h : L[k]? = some x) : lostB t L (k + 1) = (lostB t L k || (stP t k x).2) := by simp only [lostB, h]

end Go.Proofs.YtnmnihlhcokjpaaGreatDoor

/- leadsBetter: contract. -/
namespace Go.Proofs.YtnmnihlhcokjpaaGreatDoor
set_option maxRecDepth 100000
open Go.ChangeShapes Go.WideShapes Go.ChangeAt Go.RowKit
set_option linter.unusedVariables false
set_option linter.unusedSimpArgs false

theorem exec_load_row {P : Program} {a : Act} {o : Oper} {w : World} (ty : TypeId) (x : Operand) (ho : o.op = .load ty x)
    (g : Nat) (hx : a.eval x = .pointer (some ⟨g, 0, none⟩)) (t : TypeId) (cs : Array Value) (fr : Nat × Nat) (d : TypeDesc) (hg : w.heap[g]? = some (.cells cs t fr))
    (hu : P.underlying ty = some d) (hd : (match d with | .struct _ | .array _ _ => true | _ => false) = true) (hi : (P.info? ty).map (·.size) = some cs.size) :
    (execOp a.eval o).run P w = .ok (.value (.agg cs)) w := by
  unfold execOp
  simp only [ho, hx, Instr.loadAt, Instr.sureAddr, Sem.run_bind, Sem.run_pure, Result.andThen_ok, run_loadVar_row w g t ty cs fr d hg hu hd hi]

theorem exec_load_at {P : Program} {a : Act} {o : Oper} {w : World} (ty : TypeId) (x : Operand) (ho : o.op = .load ty x)
    (ad : Addr) (hx : a.eval x = .pointer (some ad)) (cs : List Value) (d : TypeDesc) (hc : ∀ i v, cs[i]? = some v → w.cell? (ad.add i) = some v)
    (hu : P.underlying ty = some d) (hd : (match d with | .struct _ | .array _ _ => true | _ => false) = true) (hi : (P.info? ty).map (·.size) = some cs.length) :
    (execOp a.eval o).run P w = .ok (.value (.agg cs.toArray)) w := by
  unfold execOp
  simp only [ho, hx, Instr.loadAt, Instr.sureAddr, Sem.run_bind, Sem.run_pure, Result.andThen_ok, run_loadVar_at w ad ty cs d hc hu hd hi]
theorem exec_if_row {P : Program} {ops : Array Oper} {o : Oper} {a : Act} {w : World} {K : Act → World → Prop} {Q : Exit → Act → World → Prop} (hw : Region.wanted o (yielded ops a.tmps) = true) (ty : TypeId) (x : Operand) (ho : o.op = .load ty x)
    (g : Nat) (hx : a.eval x = .pointer (some ⟨g, 0, none⟩)) (t : TypeId) (cs : Array Value) (fr : Nat × Nat) (d : TypeDesc) (hg : w.heap[g]? = some (.cells cs t fr))
    (hu : P.underlying ty = some d) (hd : (match d with | .struct _ | .array _ _ => true | _ => false) = true) (hi : (P.info? ty).map (·.size) = some cs.size)
    (h : K (a.put o.dst (.agg cs)) w) : if Region.wanted o (yielded ops a.tmps) = true then Oper.wp P o a w K Q else K (a.put o.dst undef) w := by
  rw [if_pos hw]
  exact wp_load_row ty x ho g hx t cs fr d hg hu hd hi h

set_option maxHeartbeats 1000000 in
theorem leads_is (p q : Po) (hp : PoB p) (hq : PoB q) (r : Bool) (hr : Hid (betterB p q = r)) (w : World) :
    Calls Tryz.prog 136 #[.agg (lP p).toArray, .agg (lP q).toArray] w fun e w' => e = .returned (.bool r) ∧ Below w.heap.size w w' := by
  have HP := fun W => Lib.hid (through_is p hp W)
  have HQ := fun W => Lib.hid (through_is q hq W)
  have HC := fun W => Lib.hid (cmp_v (thruV p) (thruV q) W)
  have HI := fun W => Lib.hid (cmpP_is p.id q.id W)
  clear hp hq
  obtain ⟨a, ha⟩ : ∃ a, cmpV (thruV p) (thruV q) = a := ⟨_, rfl⟩
  obtain ⟨b, hb⟩ : ∃ b, cmpI p.id q.id = b := ⟨_, rfl⟩
  rw [ha] at HC
  rw [hb] at HI
  have hr2 := hr.out
  unfold betterB at hr2
  rw [ha, hb] at hr2
  have HR := Lib.hid hr2
  clear hr hr2 ha hb
  obtain ⟨wb, hwb, S⟩ := hs_two w 63 63 (lP p) (lP q)
  go_enter Tryz.func136, Tryz.ntmps136
  go_upto_region 1 with fail
  clear hwb
  obtain ⟨X, hX⟩ : ∃ X, w.heap.size = X := ⟨_, rfl⟩
  rw [hX] at S
  obtain ⟨Y, hY⟩ : ∃ Y, X + 1 = Y := ⟨_, rfl⟩
  rw [hY] at S
  rw [hX]
  rw [hY]
  clear hX hY
  refine wp_region_held_drew (S := (fun w' => Hs w [(Y, 63, lP q), (X, 63, lP p)] w')) (by kernel_rfl) S.drew (fun hHeld => ?_)
  refine wpAnyH_take (i := 0) (v := _) rfl (by kernel_rfl) (by kernel_rfl) (by kernel_rfl) (fun _ _ _ h => h) (Or.inl ⟨by kernel_rfl, fun w' hSw => exec_load_row 63 _ rfl X (by kernel_rfl) _ _ (0, 0) _ (hSw.bk 1 rfl) Tryz.underlying63 rfl (by kernel_rfl)⟩) (by assumption) ?_
  try simp only [Act.put, List.setIfInBounds_toArray, List.set_cons_succ]
  refine wpAnyH_take (i := 2) (v := _) rfl (by kernel_rfl) (by kernel_rfl) (by kernel_rfl) (fun _ _ _ h => h) (Or.inl ⟨by kernel_rfl, fun w' hSw => exec_load_row 63 _ rfl Y (by kernel_rfl) _ _ (0, 0) _ (hSw.bk 0 rfl) Tryz.underlying63 rfl (by kernel_rfl)⟩) (by assumption) ?_
  try simp only [Act.put, List.setIfInBounds_toArray, List.set_cons_succ]
  refine wpAnyH_take (i := 5) (v := ?_) rfl (by kernel_rfl) (by kernel_rfl) (by kernel_rfl) (fun _ _ _ h => h) (Or.inl ⟨by kernel_rfl, ?_⟩) (by assumption) ?_
  rotate_left
  · intro w hSw; (try dsimp only at hSw); go_simp; with_reducible rfl
  try simp only [Act.put, List.setIfInBounds_toArray, List.set_cons_succ]
  refine wpAnyH_take (i := 6) (v := ?_) rfl (by kernel_rfl) (by kernel_rfl) (by kernel_rfl) (fun _ _ _ h => h) (Or.inl ⟨by kernel_rfl, ?_⟩) (by assumption) ?_
  rotate_left
  · intro w hSw; (try dsimp only at hSw); have c := hSw.cell 1 0 rfl rfl; go_simp; with_reducible rfl
  try simp only [Act.put, List.setIfInBounds_toArray, List.set_cons_succ]
  refine wpAnyH_take (i := 7) (v := ?_) rfl (by kernel_rfl) (by kernel_rfl) (by kernel_rfl) (fun _ _ _ h => h) (Or.inl ⟨by kernel_rfl, ?_⟩) (by assumption) ?_
  rotate_left
  · intro w hSw; (try dsimp only at hSw); go_simp; with_reducible rfl
  try simp only [Act.put, List.setIfInBounds_toArray, List.set_cons_succ]
  refine wpAnyH_take (i := 8) (v := ?_) rfl (by kernel_rfl) (by kernel_rfl) (by kernel_rfl) (fun _ _ _ h => h) (Or.inl ⟨by kernel_rfl, ?_⟩) (by assumption) ?_
  rotate_left
  · intro w hSw; (try dsimp only at hSw); have c := hSw.cell 0 0 rfl rfl; go_simp; with_reducible rfl
  try simp only [Act.put, List.setIfInBounds_toArray, List.set_cons_succ]
  refine wpAnyH_ready (rs := [1]) (by kernel_rfl) (by simp) ?_
  refine AllReadyH.cons rfl (fun K hK => ?_) AllReadyH.nil
  go_simp
  (with_reducible refine (HP _).out.mono ?_); rintro e w1 ⟨rfl, b1⟩
  refine hK.out _ _ (hHeld.below b1) (fun hHeld => ?_)
  clear hK K
  try simp only [Act.put, List.setIfInBounds_toArray, List.set_cons_succ]
  refine wpAnyH_ready (rs := [3]) (by kernel_rfl) (by simp) ?_
  refine AllReadyH.cons rfl (fun K hK => ?_) AllReadyH.nil
  go_simp
  (with_reducible refine (HQ _).out.mono ?_); rintro e w2 ⟨rfl, b2⟩
  refine hK.out _ _ (hHeld.below b2) (fun hHeld => ?_)
  clear hK K
  try simp only [Act.put, List.setIfInBounds_toArray, List.set_cons_succ]
  refine wpAnyH_ready (rs := [4]) (by kernel_rfl) (by simp) ?_
  refine AllReadyH.cons rfl (fun K hK => ?_) AllReadyH.nil
  go_simp
  (with_reducible refine (HC _).out.mono ?_); rintro e w3 ⟨rfl, b3⟩
  refine hK.out _ _ (hHeld.below b3) (fun hHeld => ?_)
  clear hK K
  try simp only [Act.put, List.setIfInBounds_toArray, List.set_cons_succ]
  refine wpAnyH_ready (rs := [9]) (by kernel_rfl) (by simp) ?_
  refine AllReadyH.cons rfl (fun K hK => ?_) AllReadyH.nil
  go_simp
  (with_reducible refine (HI _).out.mono ?_); rintro e w4 ⟨rfl, rfl⟩
  refine hK.out _ _ (hHeld) (fun hHeld => ?_)
  clear hK K
  try simp only [Act.put, List.setIfInBounds_toArray, List.set_cons_succ]
  refine wpAnyH_ready (rs := [10]) (by kernel_rfl) (by simp) ?_
  refine AllReadyH.cons rfl (fun K hK => ?_) AllReadyH.nil
  go_simp
  refine hK.out _ _ (hHeld.below ((Below.refl _ _).alloc (Nat.le_refl _) _)) (fun hHeld => ?_)
  clear hK K
  try simp only [Act.put, List.getElem_toArray, List.getElem_cons_succ, List.getElem_cons_zero, List.setIfInBounds_toArray, List.set_cons_succ]
  have HO := Lib.hid (or2_at w3 w3.heap.size rfl a b)
  refine wpAnyH_ready (rs := [11]) (by kernel_rfl) (by simp) ?_
  refine AllReadyH.cons rfl (fun K hK => ?_) AllReadyH.nil
  go_simp
  (with_reducible refine HO.out.mono ?_); rintro e w5 ⟨rfl, rfl⟩
  refine hK.out _ _ (hHeld) (fun hHeld => ?_)
  clear hK K
  try simp only [Act.put, List.getElem_toArray, List.getElem_cons_succ, List.getElem_cons_zero, List.setIfInBounds_toArray, List.set_cons_succ]
  refine wpAnyH_take (i := 12) (v := ?_) rfl (by kernel_rfl) (by kernel_rfl) (by kernel_rfl) (fun _ _ _ h => h) (Or.inl ⟨by kernel_rfl, ?_⟩) (by assumption) ?_
  rotate_left
  · intro w hSw; (try dsimp only at hSw); go_simp; with_reducible rfl
  try simp only [Act.put, List.getElem_toArray, List.getElem_cons_succ, List.getElem_cons_zero, List.setIfInBounds_toArray, List.set_cons_succ]
  refine wpAnyH_take (i := 13) (v := ?_) rfl (by kernel_rfl) (by kernel_rfl) (by kernel_rfl) (fun _ _ _ h => h) (Or.inl ⟨by kernel_rfl, ?_⟩) (by assumption) ?_
  rotate_left
  · intro w hSw; (try dsimp only at hSw); go_simp; with_reducible rfl
  try simp only [Act.put, List.getElem_toArray, List.getElem_cons_succ, List.getElem_cons_zero, List.setIfInBounds_toArray, List.set_cons_succ]
  refine wpAnyH_done (by kernel_rfl) ?_ _
  go_wp2
  go_ret
  exact ⟨ret_bool (by first | rfl | exact HR.out), hHeld.old⟩

end Go.Proofs.YtnmnihlhcokjpaaGreatDoor

/- best: contract. -/
namespace Go.Proofs.YtnmnihlhcokjpaaGreatDoor
set_option maxRecDepth 100000
open Go.ChangeShapes Go.WideShapes Go.ChangeAt Go.RowKit
set_option linter.unusedVariables false

set_option maxRecDepth 100000 in
set_option maxHeartbeats 1000000 in
theorem best_is (t : Th) (A : Option Addr) (n cap : Nat) (L : List Po) (hL : Hid (L.length = n)) (hf : n ≤ 200) (hb : Hid (∀ x ∈ L, PoB x)) (w : World) (hp : Hid (PoAt w A w.heap.size L)) :
    Calls Tryz.prog 131 #[.agg (lT t A n cap).toArray] w fun e w' => e = .returned (.int .i64 (toI (bst t.ow L n))) ∧ Below w.heap.size w w' := by
  obtain ⟨wb, hwb, S⟩ := hs_one w 31 (lT t A n cap)
  go_enter Tryz.func131, Tryz.ntmps131
  go_upto_region 1 with fail
  clear hwb
  obtain ⟨X, hX⟩ : ∃ X, w.heap.size = X := ⟨_, rfl⟩
  rw [hX] at S
  rw [hX]
  have HX := Lib.hid hX
  clear hX
  have c18 := S.cell 0 18 rfl rfl
  go_wp2
  clear c18
  go_loopw [3, 9] (fun f i wr => ∃ k : Nat, k ≤ n ∧ i = .int .i64 k ∧ f = .int .i64 (toI (bst t.ow L k)) ∧ Hs w [(X, 31, lT t A n cap)] wr) (fun f i _ => n - (intOf i).toNat)
  case atStart => exact ⟨0, Nat.zero_le _, rfl, rfl, S⟩
  case round =>
    obtain ⟨k, hk, rfl, rfl, S⟩ := hrel
    by_cases hkn : k < n
    · obtain ⟨x, hx⟩ := po_at hL.out hkn
      have hki : (k : Int) < (n : Int) := by omega
      have hkz : ¬ (n : Int) ≤ (k : Int) := by omega
      have HP := Lib.hid (hp.out.below S.old (Nat.le_refl _))
      obtain ⟨ad, hA⟩ := HP.out.some hx
      have HX := Lib.hid hx
      have hat := HP.out.at hx hA
      have HA := Lib.hid hA
      have hPx := Lib.hid (hb.out x (List.mem_of_getElem? hx))
      rw [hA]
      go_upto_region 5 with (first | (with_reducible refine wpList_load_at rfl 63 (.tmp 12) rfl (ad.add (k * 15)) (by kernel_rfl) _ _ hat Tryz.underlying63 rfl (by kernel_rfl) ?_) | (refine wpList_store_row rfl 63 _ _ rfl _ _ rfl rfl _ _ (heap_alloc_new _ _) (by kernel_rfl) (by kernel_rfl) (by kernel_rfl) ?_))
      rw [alloc_row]
      have S2 := S.al rfl 63 (lP x)
      obtain ⟨Z, hZ⟩ : ∃ Z, wr.heap.size = Z := ⟨_, rfl⟩
      rw [hZ] at S2 ⊢
      have HP2 := Lib.hid (HP.out.below ((Below.refl wr.heap.size wr).alloc (Nat.le_refl _) (.cells (lP x).toArray 63)) S.old.size)
      generalize wr.alloc (.cells (lP x).toArray 63) = w2 at S2 HP2 ⊢
      clear S HP hat hZ
      have hs2 := S2.old.size
      obtain ⟨m, hm⟩ : ∃ m, mayB x t.ow = m := ⟨_, rfl⟩
      have HM := fun q : LaterW w2 => Lib.hid (may_is x t.ow m (Lib.hid hm) q.w')
      have HMM := Lib.hid hm
      clear hm
      have c0 := fun q : LaterW w2 => (S2.below q.h).cell 1 0 rfl rfl
      cases m with
      | false =>
        refine region_later mixedL (by kernel_rfl) ?_
        (refine BigFrame.wpQuiet_want (by kernel_rfl) (fun K hK => ?_); refine quiet_load_row 63 _ rfl Z (by kernel_rfl) _ _ (0, 0) _ (S2.bkq 0 rfl) Tryz.underlying63 rfl (by kernel_rfl) ?_; refine hK _ ?_; clear hK; go_simp)
        go_big_quiet_step (fail)
        go_big_quiet_step (fail)
        go_big_quiet_step ((go_at_call 135; with_reducible exact Calls.later (HM _).out))
        repeat (go_big_quiet_step (fail))
        refine wpQuiet_nil ?_
        intro r
        have S3 := S2.below r.h
        generalize r.w' = w3 at S3 ⊢
        clear HM c0 S2
        go_wp2
        rw [← hA]
        go_roundw
        case rel => exact ⟨k + 1, by omega, by go_num, by rw [bst_no HX.out HMM.out], S3.tail⟩
        case measure => simp [intOf]; omega
      | true =>
        obtain ⟨bk, hbk⟩ : ∃ bk, bst t.ow L k = bk := ⟨_, rfl⟩
        rw [hbk]
        have HB := Lib.hid hbk
        clear hbk
        cases bk with
        | none =>
          have hj0 : toI none = -1 := rfl
          rw [hj0]
          clear hj0
          refine region_later mixedL (by kernel_rfl) ?_
          (refine BigFrame.wpQuiet_want (by kernel_rfl) (fun K hK => ?_); refine quiet_load_row 63 _ rfl Z (by kernel_rfl) _ _ (0, 0) _ (S2.bkq 0 rfl) Tryz.underlying63 rfl (by kernel_rfl) ?_; refine hK _ ?_; clear hK; go_simp)
          go_big_quiet_step (fail)
          go_big_quiet_step (fail)
          go_big_quiet_step ((go_at_call 135; with_reducible exact Calls.later (HM _).out))
          repeat (go_big_quiet_step (fail))
          refine wpQuiet_nil ?_
          intro r
          have S3 := S2.below r.h
          generalize r.w' = w3 at S3 ⊢
          clear HM c0 S2
          go_wp2
          rw [← hA]
          go_roundw
          case rel => exact ⟨k + 1, by omega, by go_num, by rw [bst_first HX.out HMM.out HB.out]; rfl, S3.tail⟩
          case measure => simp [intOf]; omega
        | some j =>
          have hj := bst_lt HB.out
          obtain ⟨y, hy⟩ := po_at (L := L) rfl hj.2
          have HY := Lib.hid hy
          have hPy := Lib.hid (hb.out y (List.mem_of_getElem? hy))
          obtain ⟨b, hbt⟩ : ∃ b, betterB x y = b := ⟨_, rfl⟩
          have HW := fun q : LaterW w2 => Lib.hid (leads_is x y hPx.out hPy.out b (Lib.hid hbt) q.w')
          have HBT := Lib.hid hbt
          have hj1 : ((toI (some j)) == -1) = false := by simp [toI] <;> omega
          have hj2 : toI (some j) = (j : Int) := rfl
          rw [hj2] at hj1 ⊢
          have c18 := fun q : LaterW w2 => (S2.below q.h).cell 1 18 rfl rfl
          rw [hA] at c18
          have hjn : j < n := by have := hL.out; omega
          have hj3 : (j : Int) < (n : Int) := by omega
          have hj4 : ¬ (n : Int) ≤ (j : Int) := by omega
          clear hbt hy hj2
          refine region_later mixedL (by kernel_rfl) ?_
          (refine BigFrame.wpQuiet_want (by kernel_rfl) (fun K hK => ?_); refine quiet_load_row 63 _ rfl Z (by kernel_rfl) _ _ (0, 0) _ (S2.bkq 0 rfl) Tryz.underlying63 rfl (by kernel_rfl) ?_; refine hK _ ?_; clear hK; go_simp)
          go_big_quiet_step (fail)
          go_big_quiet_step (fail)
          go_big_quiet_step ((go_at_call 135; with_reducible exact Calls.later (HM _).out))
          go_big_quiet_step (fail)
          go_big_quiet_step (fail)
          go_big_quiet_step (fail)
          go_big_quiet_step (fail)
          (refine BigFrame.wpQuiet_want (by kernel_rfl) (fun K hK => ?_); refine quiet_load_row 63 _ rfl Z (by kernel_rfl) _ _ (0, 0) _ (S2.bkq 0 rfl) Tryz.underlying63 rfl (by kernel_rfl) ?_; refine hK _ ?_; clear hK; go_simp)
          go_big_quiet_step (fail)
          go_big_quiet_step (fail)
          go_big_quiet_step (fail)
          go_big_quiet_step (fail)
          (refine BigFrame.wpQuiet_want (by kernel_rfl) (fun K hK => ?_); refine quiet_load_at 63 _ rfl (ad.add (j * 15)) (by kernel_rfl) _ _ (HP2.out.atq (by omega) HY.out HA.out) Tryz.underlying63 rfl (by kernel_rfl) ?_; refine hK _ ?_; clear hK; go_simp)
          go_big_quiet_step ((go_at_call 136; with_reducible exact Calls.later (HW _).out))
          repeat (go_big_quiet_step (fail))
          refine wpQuiet_nil ?_
          intro r
          have S3 := S2.below r.h
          generalize r.w' = w3 at S3 ⊢
          clear HM HW c0 c18 S2 HP2
          cases b with
          | false =>
            go_wp2
            rw [← hA]
            go_roundw
            case rel => exact ⟨k + 1, by omega, by go_num, by rw [bst_next HX.out HMM.out HB.out HY.out HBT.out]; rfl, S3.tail⟩
            case measure => simp [intOf]; omega
          | true =>
            go_wp2
            rw [← hA]
            go_roundw
            case rel => exact ⟨k + 1, by omega, by go_num, by rw [bst_next HX.out HMM.out HB.out HY.out HBT.out]; rfl, S3.tail⟩
            case measure => simp [intOf]; omega
    · have hkz : ¬ (k : Int) < (n : Int) := by omega
      have hke : k = n := by omega
      go_wp2
      go_ret
      exact ⟨rfl, S.old⟩

end Go.Proofs.YtnmnihlhcokjpaaGreatDoor

/- Copy, and the document's: one like it, its ports in memory of the call's own. -/
namespace Go.Proofs.YtnmnihlhcokjpaaGreatDoor
set_option maxRecDepth 100000
open Go.ChangeShapes Go.WideShapes Go.ChangeAt Go.RowKit
set_option linter.unusedVariables false

theorem po_cells_one : ∀ (L : List Po), ∀ u ∈ cellsOf lP L, u.oneCell' = true
  | [], u, hu => by simp [cellsOf] at hu
  | p :: r, u, hu => by
    simp only [cellsOf, List.mem_append] at hu
    rcases hu with h | h
    · exact (List.all_eq_true.1 (lP_one p)) u h
    · exact po_cells_one r u h

theorem append_po (w : World) {ops : Array Oper} {rest : List Oper} {o : Oper} {a : Act} {Q : Exit → Act → World → Prop} (hgd : o.guard = none) (s x : Operand)
    (ho : o.op = .call { callee := .builtin .append, args := #[s, x], argTypes := #[29, 29] })
    (sv : Value) (hs : a.eval s = sv) (base : Nat) (hown : w.ownsRow base 63 15 sv 0 []) (A : Option Addr) (m c : Nat) (L : List Po) (hx : a.eval x = .slice A m c) (K : Nat) (hp : PoAt w A K L) (hl : Hid (L.length = m)) (hc : Hid (A = none → c = 0)) (hm : m ≤ 200)
    (hbase : base ≤ w.heap.size) (w0 : World) (hb : Below base w0 w)
    (h : ∀ D cap w', OwnL lP 15 63 w' base (.slice D m cap) L → Below base w0 w' → (D = none → cap = 0) → wpList Tryz.prog ops Q rest (a.put o.dst (.slice D m cap)) w') :
    wpList Tryz.prog ops Q (o :: rest) a w := by
  obtain ⟨i0, hi0, hz0, hz1, hz2⟩ := info_parts Tryz.infoPo
  cases A with
  | none =>
    have h0 := hp.nil
    subst h0
    have hm0 := hl.out
    subst hm0
    have hc0 := hc.out rfl
    subst hc0
    refine wpList_append_own_none hgd s x 29 ho base 63 i0 15 Tryz.underlying29 hi0 _ 0 [] hs hown hx ?_
    have hown' : OwnL lP 15 63 w base sv ([] : List Po) := hown
    rcases hown.2 with ⟨rfl, -⟩ | ⟨g, cap, cur, rfl, -⟩
    · exact h none 0 w hown' hb (fun _ => rfl)
    · exact h _ cap w hown' hb (fun e => by cases e)
  | some ad =>
    have hm0 := hl.out
    subst hm0
    refine wpList_append_own w hgd s x 29 ho base 63 i0 _ 15 112 Tryz.underlying29 hi0 hz0 hz1 hz2 rfl (by decide) _ 0 [] hs hown ad L.length c (cellsOf lP L) hx (cellsOf_len lP_len L) hp.src (po_cells_one L) (by unfold maxLen; omega) (by omega) hbase ?_
    intro v' w' hown2 hgrow hv
    rw [Nat.zero_add, List.nil_append] at hown2
    have hown' : OwnL lP 15 63 w' base v' L := hown2
    obtain ⟨D, cap, rfl⟩ := hown'.shape
    have hbw : Below base w0 w' := hb.grown hgrow hbase (fun k hk => (World.ownsRow.lt hown k hk).1)
    refine h D cap w' hown' hbw fun e => ?_
    subst e
    rcases hown'.2 with ⟨h2, _⟩ | ⟨g, cap', cur, h2, _⟩
    · injection h2
    · injection h2 with e1
      cases e1

set_option maxHeartbeats 1000000 in
theorem tcopy_is (t : Th) (A : Option Addr) (n cap : Nat) (L : List Po) (hL : Hid (L.length = n)) (hf : n ≤ 200) (hc : Hid (A = none → cap = 0)) (w : World) (hp : Hid (PoAt w A w.heap.size L)) :
    Calls Tryz.prog 17 #[.agg (lT t A n cap).toArray] w (TOut w t n L) := by
  obtain ⟨wb, hwb, S⟩ := hs_two w 31 31 (lT t A n cap) [.int .u64 0, .int .u64 0, .int .u32 0, .int .i64 0, .int .i64 0, .int .i64 0, .int .i64 0, .int .i64 0, .int .i64 0, .int .i64 0, .bool false, .bool false, .bool false, .int .i64 0, .bool false, .int .i64 0, .bool false, .int .i64 0, .slice none 0 0]
  go_enter Tryz.func17, Tryz.ntmps17
  go_upto_region 1 with fail
  clear hwb
  obtain ⟨X, hX⟩ : ∃ X, w.heap.size = X := ⟨_, rfl⟩
  rw [hX] at S
  obtain ⟨Y, hY⟩ : ∃ Y, X + 1 = Y := ⟨_, rfl⟩
  rw [hY] at S
  have hsX := hX
  rw [hX]
  rw [hY]
  have HX := Lib.hid hX
  clear hX hY hsX
  have c18 := S.cell 1 18 rfl rfl
  have hp1 := Lib.hid (hp.out.below S.old (Nat.le_refl _))
  go_upto_region 2 with (at_builtin; refine append_po _ rfl (.const (.slice none 0 0)) (.tmp 4) rfl (.slice none 0 0) rfl wb.heap.size (World.ownsRow_nil wb _ _ 15) A n cap L rfl w.heap.size hp1.out hL hc hf (Nat.le_refl _) wb (Below.refl _ _) ?_; intro D cap' w3 hown hb3 hz; have HZ := Lib.hid hz; have S3 := TS.take S (own_ts hb3 (Nat.le_refl _) hown); clear hown hb3 hz S c18 hp1; have c18 := S3.hs.cell 1 18 rfl rfl; have f18 := S3.hs.thaw 1 18 rfl)
  have S4 := S3.set 1 rfl 18 (.slice D n cap')
  generalize w3.setCell ⟨X, 18, none⟩ (.slice D n cap') = w4 at S4 ⊢
  clear S3 c18 f18
  have hx : w4.heap[X]? = some (.cells (lT t D n cap').toArray 31 (0, 0)) := S4.hs.bk 1 rfl
  have hy := S4.hs.bk 0 rfl
  go_wp2_with (first | (refine wpList_load_row rfl 31 _ rfl X rfl _ _ (0, 0) _ hx Tryz.underlying31 rfl (by kernel_rfl) ?_) | (refine wpList_store_row rfl 31 _ _ rfl Y _ rfl rfl _ _ hy (by kernel_rfl) (by kernel_rfl) (by kernel_rfl) ?_))
  exact bodyPost_ret (v := .agg (lT t D n cap').toArray) (results_cell_row rfl _ _ Y _ _ _ _ rfl (setRow_heap _ _ _ _ _ _ hy) Tryz.underlying31 rfl (by kernel_rfl)) rfl ⟨D, cap', rfl, HZ.out, (S4.row 0 rfl (lT t D n cap')).nobox⟩

set_option maxHeartbeats 1000000 in
theorem rcopied_is (t : Th) (A : Option Addr) (n cap : Nat) (L : List Po) (hL : Hid (L.length = n)) (hf : n ≤ 200) (hc : Hid (A = none → cap = 0)) (w : World) (hp : Hid (PoAt w A w.heap.size L)) :
    Calls Tryz.prog 89 #[.agg (lT t A n cap).toArray] w (TOut w t n L) := by
  obtain ⟨wb, hwb, S⟩ := hs_two w 31 31 (lT t A n cap) [.int .u64 0, .int .u64 0, .int .u32 0, .int .i64 0, .int .i64 0, .int .i64 0, .int .i64 0, .int .i64 0, .int .i64 0, .int .i64 0, .bool false, .bool false, .bool false, .int .i64 0, .bool false, .int .i64 0, .bool false, .int .i64 0, .slice none 0 0]
  go_enter Tryz.func89, Tryz.ntmps89
  go_upto_region 1 with fail
  clear hwb
  obtain ⟨X, hX⟩ : ∃ X, w.heap.size = X := ⟨_, rfl⟩
  rw [hX] at S
  obtain ⟨Y, hY⟩ : ∃ Y, X + 1 = Y := ⟨_, rfl⟩
  rw [hY] at S
  have hsX := hX
  rw [hX]
  rw [hY]
  have HX := Lib.hid hX
  clear hX hY hsX
  have S2 := S.al rfl 63 []
  have c18 := S2.cell 2 18 rfl rfl
  have hp1 := Lib.hid ((hp.out.below S.old (Nat.le_refl _)).below ((Below.refl wb.heap.size wb).alloc (Nat.le_refl _) (.cells #[] 63)) S.old.size)
  go_upto_region 2 with (at_builtin; refine append_po _ rfl (.tmp 3) (.tmp 5) rfl (.slice (some ⟨wb.heap.size, 0, none⟩) 0 0) rfl wb.heap.size ⟨rfl, .inr ⟨wb.heap.size, 0, #[], rfl, Nat.le_refl _, (MapKept.heap_alloc wb _).1, Nat.le_refl _, Nat.zero_le _, rfl, rfl⟩⟩ A n cap L rfl w.heap.size hp1.out hL hc hf (by simp) wb ((Below.refl _ _).alloc (Nat.le_refl _) _) ?_; intro D cap' w3 hown hb3 hz; have HZ := Lib.hid hz; have S3 := TS.take S (own_ts hb3 (Nat.le_refl _) hown); clear hown hb3 hz S S2 c18 hp1; have c18 := S3.hs.cell 1 18 rfl rfl; have f18 := S3.hs.thaw 1 18 rfl)
  have S4 := S3.set 1 rfl 18 (.slice D n cap')
  generalize w3.setCell ⟨X, 18, none⟩ (.slice D n cap') = w4 at S4 ⊢
  clear S3 c18 f18
  have hx : w4.heap[X]? = some (.cells (lT t D n cap').toArray 31 (0, 0)) := S4.hs.bk 1 rfl
  have hy := S4.hs.bk 0 rfl
  go_wp2_with (first | (refine wpList_load_row rfl 31 _ rfl X rfl _ _ (0, 0) _ hx Tryz.underlying31 rfl (by kernel_rfl) ?_) | (refine wpList_store_row rfl 31 _ _ rfl Y _ rfl rfl _ _ hy (by kernel_rfl) (by kernel_rfl) (by kernel_rfl) ?_))
  exact bodyPost_ret (v := .agg (lT t D n cap').toArray) (results_cell_row rfl _ _ Y _ _ _ _ rfl (setRow_heap _ _ _ _ _ _ hy) Tryz.underlying31 rfl (by kernel_rfl)) rfl ⟨D, cap', rfl, HZ.out, (S4.row 0 rfl (lT t D n cap')).nobox⟩

end Go.Proofs.YtnmnihlhcokjpaaGreatDoor
