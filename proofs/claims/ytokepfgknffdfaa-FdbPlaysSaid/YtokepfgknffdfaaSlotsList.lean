/- Tables as lists of places (no program): what they hold, looking, putting, taking out. -/
import Derived.Test.YtokepfgknffdfaaSlotsMath
namespace Go.Proofs.Ytokepfgknffdfaa
open Go

section
variable {V : Type}

def fAt (l : List (Pl V)) (i : Nat) : Bool := (l[i]?.map Pl.full).getD false
def aAt (l : List (Pl V)) (i : Nat) : Int := (l[i]?.map Pl.addr).getD 0

/-- An open place, as one begins. -/
def noPl [Inhabited V] : Pl V := ⟨false, 0, default⟩

def one (p : Pl V) : List (Int × V) := if p.full = true then [(p.addr, p.val)] else []
/-- What a table holds, place by place. -/
def conts : List (Pl V) → List (Int × V)
  | [] => []
  | p :: r => one p ++ conts r

/-- A table that may be. -/
def OkT (h : Int → Nat) (l : List (Pl V)) : Prop := Inv l.length h (fAt l) (aAt l) ∧ ∀ p ∈ l, 0 ≤ p.addr ∧ p.addr ≤ 18446744073709551615

theorem fAt_get {l : List (Pl V)} {i : Nat} {p : Pl V} (h : l[i]? = some p) : fAt l i = p.full := by simp [fAt, h]
theorem aAt_get {l : List (Pl V)} {i : Nat} {p : Pl V} (h : l[i]? = some p) : aAt l i = p.addr := by simp [aAt, h]

theorem get_of_lt {α : Type} {l : List α} {i : Nat} (h : i < l.length) : ∃ p, l[i]? = some p := ⟨l[i], List.getElem?_eq_getElem h⟩

theorem fAt_full {l : List (Pl V)} {i : Nat} (h : fAt l i = true) : ∃ a v, l[i]? = some ⟨true, a, v⟩ ∧ aAt l i = a := by
  unfold fAt at h
  cases e : l[i]? with
  | none => rw [e] at h; simp at h
  | some p =>
    rw [e] at h
    obtain ⟨f, a, v⟩ := p
    simp at h
    exact ⟨a, v, by rw [h], by simp [aAt, e]⟩

theorem fAt_set {l : List (Pl V)} {q : Nat} (x : Pl V) (hq : q < l.length) (i : Nat) : fAt (l.set q x) i = if i = q then x.full else fAt l i := by
  unfold fAt
  rw [List.getElem?_set]
  by_cases e : i = q
  · subst e; simp [hq]
  · rw [if_neg (fun h => e h.symm), if_neg e]

theorem aAt_set {l : List (Pl V)} {q : Nat} (x : Pl V) (hq : q < l.length) (i : Nat) : aAt (l.set q x) i = if i = q then x.addr else aAt l i := by
  unfold aAt
  rw [List.getElem?_set]
  by_cases e : i = q
  · subst e; simp [hq]
  · rw [if_neg (fun h => e h.symm), if_neg e]

theorem conts_append : ∀ (a b : List (Pl V)), conts (a ++ b) = conts a ++ conts b
  | [], _ => rfl
  | p :: r, b => by simp only [List.cons_append, conts, conts_append r b, List.append_assoc]

theorem conts_at {l : List (Pl V)} {q : Nat} {p : Pl V} (h : l[q]? = some p) : conts l = conts (l.take q) ++ (one p ++ conts (l.drop (q + 1))) := by
  have hq : q < l.length := by
    rcases Nat.lt_or_ge q l.length with k | k
    · exact k
    · rw [List.getElem?_eq_none k] at h; cases h
  have e : l = l.take q ++ (p :: l.drop (q + 1)) := by
    have h2 : l[q] = p := by rw [List.getElem?_eq_getElem hq] at h; exact Option.some.inj h
    rw [← h2, ← List.drop_eq_getElem_cons hq, List.take_append_drop]
  exact (congrArg conts e).trans (by rw [conts_append]; rfl)

theorem conts_set {l : List (Pl V)} {q : Nat} (x : Pl V) (hq : q < l.length) : conts (l.set q x) = conts (l.take q) ++ (one x ++ conts (l.drop (q + 1))) := by
  rw [List.set_eq_take_append_cons_drop, if_pos hq, conts_append]; rfl

theorem mem_conts {l : List (Pl V)} {a : Int} {v : V} : (a, v) ∈ conts l ↔ ∃ i : Nat, l[i]? = some ⟨true, a, v⟩ := by
  induction l with
  | nil => simp [conts]
  | cons p r ih =>
    simp only [conts, List.mem_append, ih]
    constructor
    · rintro (k | ⟨i, k⟩)
      · unfold one at k
        split at k
        · simp at k
          obtain ⟨f, b, u⟩ := p
          simp_all
          exact ⟨0, by simp⟩
        · cases k
      · exact ⟨i + 1, by simpa using k⟩
    · rintro ⟨i, k⟩
      cases i with
      | zero => left; simp at k; subst k; simp [one]
      | succ i => right; exact ⟨i, by simpa using k⟩

theorem conts_le (l : List (Pl V)) : (conts l).length ≤ l.length := by
  induction l with
  | nil => simp [conts]
  | cons p r ih => simp only [conts, List.length_append, List.length_cons]; unfold one; split <;> simp <;> omega

theorem conts_full {l : List (Pl V)} (h : ∀ i, i < l.length → fAt l i = true) : (conts l).length = l.length := by
  induction l with
  | nil => rfl
  | cons p r ih =>
    have h0 := h 0 (by simp)
    have : p.full = true := by simpa [fAt] using h0
    simp only [conts, List.length_append, List.length_cons, one, this, if_pos]
    rw [ih (fun i hi => by have := h (i + 1) (by simp; omega); simpa [fAt] using this)]
    simp; omega

theorem conts_open {l : List (Pl V)} {q : Nat} (hq : q < l.length) (h : fAt l q = false) : (conts l).length < l.length := by
  obtain ⟨p, hp⟩ := get_of_lt hq
  rw [fAt_get hp] at h
  rw [conts_at hp]
  have h1 := conts_le (l.take q)
  have h2 := conts_le (l.drop (q + 1))
  simp only [one, h, List.length_append]
  simp at h1 h2 ⊢
  omega

theorem conts_none [Inhabited V] {n : Nat} : conts (List.replicate n (noPl : Pl V)) = [] := by
  induction n with
  | zero => rfl
  | succ n ih => rw [List.replicate_succ, conts, ih]; rfl

theorem okT_none [Inhabited V] (h : Int → Nat) (n : Nat) : OkT h (List.replicate n (noPl : Pl V)) := by
  constructor
  · exact (Inv.empty (A := aAt (List.replicate n (noPl : Pl V)))).congr (fun i hi => by
      have : i < n := by simpa using hi
      simp [fAt, noPl, this]) (fun _ _ => rfl)
  · intro p hp
    rw [List.eq_of_mem_replicate hp]
    exact ⟨Int.le_refl _, (by decide : (0 : Int) ≤ 18446744073709551615)⟩

/-- No address is held twice. -/
theorem conts_apart {h : Int → Nat} {l : List (Pl V)} (I : OkT h l) : (conts l).Pairwise (fun x y => x.1 ≠ y.1) := by
  have D := I.1.dist
  clear I
  induction l with
  | nil => exact List.Pairwise.nil
  | cons p r ih =>
    have D2 := ih (fun i j hi hj fi fj e => by
      have := D (i + 1) (j + 1) (by simp; omega) (by simp; omega) (by simpa [fAt] using fi) (by simpa [fAt] using fj) (by simpa [aAt] using e)
      omega)
    unfold conts one
    split
    · rename_i hf
      rw [List.singleton_append, List.pairwise_cons]
      refine ⟨fun x hx e => ?_, D2⟩
      obtain ⟨a, v⟩ := x
      obtain ⟨i, hi⟩ := mem_conts.1 hx
      have hi2 : i < r.length := by
        rcases Nat.lt_or_ge i r.length with k | k
        · exact k
        · rw [List.getElem?_eq_none k] at hi; cases hi
      have := D 0 (i + 1) (by simp) (by simp; omega) (by simpa [fAt] using hf) (by simp [fAt, hi]) (by simp [aAt, hi]; exact e)
      omega
    · exact D2

theorem conts_take {l : List (Pl V)} {k : Nat} {p : Pl V} (h : l[k]? = some p) : conts (l.take (k + 1)) = conts (l.take k) ++ one p := by
  rw [List.take_add_one, h, conts_append]
  show _ ++ (one p ++ []) = _
  rw [List.append_nil]

theorem one_len (p : Pl V) : (one p).length = if p.full = true then 1 else 0 := by
  unfold one; split <;> rfl

theorem filter_take {l : List (Pl V)} {k : Nat} {x : Pl V} (h : l[k]? = some x) : (l.take (k + 1)).filter (·.full) = (l.take k).filter (·.full) ++ (if x.full = true then [x] else []) := by
  rw [List.take_add_one, h, List.filter_append]
  congr 1
  show List.filter (·.full) [x] = _
  by_cases e : x.full = true
  · rw [List.filter_cons_of_pos e, if_pos e]; rfl
  · rw [List.filter_cons_of_neg e, if_neg e]; rfl

/-- How an address is looked for: so many places more, from one on. -/
def lookFrom (l : List (Pl V)) (a : Int) : Nat → Nat → Int × Bool
  | 0, _ => (-1, false)
  | k + 1, i => if fAt l i = false then (i, false) else if aAt l i = a then (i, true) else lookFrom l a k (nx l.length i)

theorem look_spec (l : List (Pl V)) (a : Int) (f : Nat) (hf : f < l.length) : ∀ k r i, k + r = l.length → i < l.length → (i = f + r ∨ i + l.length = f + r) →
    (∀ j, j < l.length → ((f ≤ j ∧ j < f + r) ∨ j + l.length < f + r) → fAt l j = true ∧ aAt l j ≠ a) →
    (∃ q, q < l.length ∧ lookFrom l a k i = ((q : Int), true) ∧ fAt l q = true ∧ aAt l q = a) ∨
    (∃ q, q < l.length ∧ lookFrom l a k i = ((q : Int), false) ∧ fAt l q = false ∧ ∀ j, j < l.length → PassB f j q → fAt l j = true ∧ aAt l j ≠ a) ∨
    (lookFrom l a k i = (-1, false) ∧ ∀ j, j < l.length → fAt l j = true ∧ aAt l j ≠ a)
  | 0, r, i, hk, hi, hp, hv => .inr (.inr ⟨rfl, fun j hj => hv j hj (by omega)⟩)
  | k + 1, r, i, hk, hi, hp, hv => by
    unfold lookFrom
    by_cases h1 : fAt l i = false
    · rw [if_pos h1]
      refine .inr (.inl ⟨i, hi, rfl, h1, fun j hj q => hv j hj ?_⟩)
      unfold PassB at q
      omega
    · rw [if_neg h1]
      by_cases h2 : aAt l i = a
      · rw [if_pos h2]
        exact .inl ⟨i, hi, rfl, by simpa using h1, h2⟩
      · rw [if_neg h2]
        refine look_spec l a f hf k (r + 1) (nx l.length i) (by omega) (nx_lt hi) ?_ ?_
        · unfold nx
          split <;> omega
        · intro j hj hq
          by_cases e : j = i
          · subst e; exact ⟨by simpa using h1, h2⟩
          · exact hv j hj (by omega)

/-- What looking for an address comes to. -/
theorem look_cases {h : Int → Nat} (l : List (Pl V)) (I : OkT h l) (hh : 0 < l.length → ∀ a, h a < l.length) (a : Int) :
    (∃ q v, q < l.length ∧ lookFrom l a l.length (h a) = ((q : Int), true) ∧ l[q]? = some ⟨true, a, v⟩) ∨
    (∃ q, q < l.length ∧ lookFrom l a l.length (h a) = ((q : Int), false) ∧ fAt l q = false ∧ (∀ j, j < l.length → fAt l j = true → aAt l j ≠ a) ∧ ∀ j, j < l.length → PassB (h a) j q → fAt l j = true) ∨
    (lookFrom l a l.length (h a) = (-1, false) ∧ (∀ j, j < l.length → fAt l j = true) ∧ ∀ j, j < l.length → fAt l j = true → aAt l j ≠ a) := by
  by_cases h0 : 0 < l.length
  · have hfa0 := hh h0 a
    rcases look_spec l a (h a) (hh h0 a) l.length 0 (h a) (by omega) (hh h0 a) (by omega) (fun j hj q => by omega) with ⟨q, hq, e, e1, e2⟩ | ⟨q, hq, e, e1, e2⟩ | ⟨e, e1⟩
    · obtain ⟨b, v, hv, hb⟩ := fAt_full e1
      exact .inl ⟨q, v, hq, e, by rw [hv, ← e2, hb]⟩
    · refine .inr (.inl ⟨q, hq, e, e1, fun j hj fj ej => ?_, fun j hj p => (e2 j hj p).1⟩)
      -- a place that has it would be passed, or would pass the open one
      by_cases p : PassB (h a) j q
      · exact (e2 j hj p).2 ej
      · have hfa := hh h0 a
        have ne : j ≠ q := fun x => by rw [x, e1] at fj; cases fj
        have p2 : PassB (h (aAt l j)) q j := by rw [ej]; unfold PassB at p ⊢; omega
        have := I.1.path j q hj hq fj p2
        rw [e1] at this; cases this
    · exact .inr (.inr ⟨e, fun j hj => (e1 j hj).1, fun j hj _ => (e1 j hj).2⟩)
  · have e0 : l.length = 0 := by omega
    refine .inr (.inr ⟨by rw [e0]; rfl, fun j hj => by omega, fun j hj => by omega⟩)

theorem not_held {l : List (Pl V)} {a : Int} (h : ∀ j, j < l.length → fAt l j = true → aAt l j ≠ a) (v : V) : (a, v) ∉ conts l := by
  intro hm
  obtain ⟨i, hi⟩ := mem_conts.1 hm
  have hi2 : i < l.length := by
    rcases Nat.lt_or_ge i l.length with k | k
    · exact k
    · rw [List.getElem?_eq_none k] at hi; cases hi
  exact h i hi2 (by simp [fAt, hi]) (by simp [aAt, hi])

theorem mem_set {α : Type} {l : List α} {q : Nat} {x p : α} (h : p ∈ l.set q x) : p = x ∨ p ∈ l := by
  have := List.mem_or_eq_of_mem_set h
  exact this.symm

/-- An address that is there is put anew. -/
theorem put_there {h : Int → Nat} {l : List (Pl V)} (I : OkT h l) {a : Int} {q : Nat} {v0 : V} (v : V) (hq : q < l.length) (hl : l[q]? = some ⟨true, a, v0⟩) :
    OkT h (l.set q ⟨true, a, v⟩) ∧ ∃ R, (conts l).Perm ((a, v0) :: R) ∧ (conts (l.set q ⟨true, a, v⟩)).Perm ((a, v) :: R) := by
  have hw := I.2 _ (List.mem_of_getElem? hl)
  refine ⟨⟨?_, fun p hp => ?_⟩, conts (l.take q) ++ conts (l.drop (q + 1)), ?_, ?_⟩
  · rw [List.length_set]
    refine I.1.again hq (fAt_get hl) (aAt_get hl) (fun i _ => ?_) (fun i _ => ?_)
    · rw [fAt_set _ hq]
    · rw [aAt_set _ hq]
  · rcases mem_set hp with e | e
    · rw [e]; exact hw
    · exact I.2 p e
  · rw [conts_at hl]; exact List.perm_middle
  · rw [conts_set _ hq]; exact List.perm_middle

/-- An address that is not there is put at an open place. -/
theorem put_new {h : Int → Nat} {l : List (Pl V)} (I : OkT h l) {a : Int} (ha : 0 ≤ a ∧ a ≤ 18446744073709551615) {q : Nat} (v : V) (hq : q < l.length) (ho : fAt l q = false) (hv : ∀ j, j < l.length → fAt l j = true → aAt l j ≠ a)
    (hw : ∀ j, j < l.length → PassB (h a) j q → fAt l j = true) :
    OkT h (l.set q ⟨true, a, v⟩) ∧ (conts (l.set q ⟨true, a, v⟩)).Perm ((a, v) :: conts l) := by
  refine ⟨⟨?_, fun p hp => ?_⟩, ?_⟩
  · rw [List.length_set]
    refine I.1.put hq ho hv hw (fun i _ => ?_) (fun i _ => ?_)
    · rw [fAt_set _ hq]
    · rw [aAt_set _ hq]
  · rcases mem_set hp with e | e
    · rw [e]; exact ha
    · exact I.2 p e
  · obtain ⟨p, hp⟩ := get_of_lt hq
    rw [conts_set _ hq, conts_at hp]
    have : one p = [] := by rw [fAt_get hp] at ho; unfold one; rw [if_neg (by rw [ho]; decide)]
    rw [this, List.nil_append]
    exact List.perm_middle

/-- What moves up behind a hole: so many places more, behind the place i. -/
def dropFrom [Inhabited V] (h : Int → Nat) : Nat → List (Pl V) → Nat → Nat → List (Pl V)
  | 0, l, _, _ => l
  | k + 1, l, i, hole =>
    match l[nx l.length i]? with
    | none => l
    | some p =>
      if p.full = false then l
      else if wayN l.length (h p.addr) hole < wayN l.length (h p.addr) (nx l.length i) then dropFrom h k ((l.set hole p).set (nx l.length i) noPl) (nx l.length i) (nx l.length i)
      else dropFrom h k l (nx l.length i) hole

theorem drop_mid [Inhabited V] {h : Int → Nat} {n p c : Nat} (hh : ∀ a, h a < n) (hp : p < n) (hc : c < n) : ∀ k r (l : List (Pl V)) (i hole : Nat), k + r = n → l.length = n → i < n → hole < n → (i = p + r ∨ i + n = p + r) →
    Mid n h (fAt l) (aAt l) p c r hole → l[hole]? = some noPl → (∀ x ∈ l, 0 ≤ x.addr ∧ x.addr ≤ 18446744073709551615) →
    OkT h (dropFrom h k l i hole) ∧ (conts (dropFrom h k l i hole)).Perm (conts l) ∧ (dropFrom h k l i hole).length = n
  | 0, r, l, i, hole, hk, hl, hi, hho, hpos, M, hz, hw => by
    have : r = n := by omega
    subst this
    exact ⟨⟨by rw [dropFrom, hl]; exact M.all hp hc, hw⟩, List.Perm.refl _, hl⟩
  | k + 1, r, l, i, hole, hk, hl, hi, hho, hpos, M, hz, hw => by
    obtain ⟨j, hj⟩ : ∃ j, nx l.length i = j := ⟨_, rfl⟩
    have hjn : j < n := by rw [← hj, hl]; exact nx_lt hi
    have hjp : j = p + (r + 1) ∨ j + n = p + (r + 1) := by
      rw [← hj, hl]; unfold nx
      split <;> omega
    obtain ⟨x, hx⟩ := get_of_lt (l := l) (i := j) (by omega)
    unfold dropFrom
    rw [hj, hx]
    dsimp only
    by_cases h1 : x.full = false
    · rw [if_pos h1]
      have ho : fAt l j = false := by rw [fAt_get hx, h1]
      exact ⟨⟨by rw [hl]; exact M.stop hh hp hho hc hjn (by omega) hjp ho, hw⟩, List.Perm.refl _, hl⟩
    · rw [if_neg h1]
      have hxf : fAt l j = true := by rw [fAt_get hx]; simpa using h1
      have hxa : aAt l j = x.addr := aAt_get hx
      have wp := wayN_pass (n := n) (f := h x.addr) (x := hole) (y := j) (hh _) hho hjn
      by_cases h2 : wayN l.length (h x.addr) hole < wayN l.length (h x.addr) j
      · rw [if_pos h2]
        rw [hl] at h2
        have hq := wp.1 h2
        have hne : j ≠ hole := fun e => by rw [e, M.open_] at hxf; cases hxf
        have hl2 : ((l.set hole x).set j noPl).length = n := by simp [hl]
        have R := drop_mid hh hp hc k (r + 1) ((l.set hole x).set j noPl) j j (by omega) hl2 hjn hjn hjp
          (M.move hh hp hho hc hjn (by omega) hjp hxf (by rw [hxa]; exact hq)
            (fun i' _ => by
              rw [fAt_set _ (by simp; omega), fAt_set _ (by omega)]
              have : x.full = true := by simpa using h1
              rw [this]; rfl)
            (fun i' _ hne' => by
              rw [aAt_set _ (by simp; omega), if_neg hne', aAt_set _ (by omega), hxa]))
          (by simp [hl, hjn]) (fun y hy => by
            rcases mem_set hy with e | e
            · rw [e]; exact ⟨Int.le_refl _, (by decide : (0 : Int) ≤ 18446744073709551615)⟩
            · rcases mem_set e with e | e
              · rw [e]; exact hw _ (List.mem_of_getElem? hx)
              · exact hw _ e)
        refine ⟨R.1, R.2.1.trans ?_, R.2.2⟩
        -- two places exchanged
        have a1 : (l.set hole x)[j]? = some x := by rw [List.getElem?_set, if_neg (fun e => hne e.symm)]; exact hx
        have e1 := conts_set (l := l.set hole x) (q := j) noPl (by simp; omega)
        have e2 := conts_at a1
        have n1 : one (noPl : Pl V) = [] := rfl
        have p1 : (conts (l.set hole x)).Perm (one x ++ conts ((l.set hole x).set j noPl)) := by
          rw [e1, e2, n1, List.nil_append, ← List.append_assoc, ← List.append_assoc]
          exact List.Perm.append_right _ List.perm_append_comm
        have p2 : (conts (l.set hole x)).Perm (one x ++ conts l) := by
          rw [conts_set _ (by omega : hole < l.length), conts_at hz, n1, List.nil_append, ← List.append_assoc, ← List.append_assoc]
          exact List.Perm.append_right _ List.perm_append_comm
        exact (List.perm_append_left_iff (one x)).1 (p1.symm.trans p2)
      · rw [if_neg h2]
        rw [hl] at h2
        exact drop_mid hh hp hc k (r + 1) l j hole (by omega) hl hjn hho hjp (M.stay hp hjn (by omega) hjp (by rw [hxa]; exact fun q => h2 (wp.2 q))) hz hw

/-- An address that is there is taken out. -/
theorem drop_ok [Inhabited V] {h : Int → Nat} {l : List (Pl V)} (I : OkT h l) (hh : ∀ a, h a < l.length) {a : Int} {q : Nat} {v0 : V} (hq : q < l.length) (hl : l[q]? = some ⟨true, a, v0⟩) :
    OkT h (dropFrom h l.length (l.set q noPl) q q) ∧ (conts l).Perm ((a, v0) :: conts (dropFrom h l.length (l.set q noPl) q q)) ∧ (dropFrom h l.length (l.set q noPl) q q).length = l.length := by
  obtain ⟨c, hc, hcut⟩ := I.1.cut (by omega)
  have R := drop_mid hh hq hc l.length 0 (l.set q noPl) q q (by omega) (by simp) hq hq (by omega)
    (Mid.start I.1 hq hc hcut (fAt_get hl) (fun i _ => by rw [fAt_set _ hq]; rfl) (fun i _ hne => by rw [aAt_set _ hq, if_neg hne]))
    (by simp [hq]) (fun y hy => by
      rcases mem_set hy with e | e
      · rw [e]; exact ⟨Int.le_refl _, (by decide : (0 : Int) ≤ 18446744073709551615)⟩
      · exact I.2 _ e)
  refine ⟨R.1, ?_, R.2.2⟩
  have e1 := conts_set (l := l) (q := q) (noPl : Pl V) hq
  rw [conts_at hl]
  have n1 : one (noPl : Pl V) = [] := rfl
  rw [n1, List.nil_append] at e1
  refine List.perm_middle.trans (List.Perm.cons _ ?_)
  have R1 := R.2.1.symm
  rw [e1] at R1
  exact R1
end

end Go.Proofs.Ytokepfgknffdfaa
