/- The document's pairs by rising addresses, in plain words (no program). -/
import Derived.Test.YtokepfgknffdfaaSlotsAssoc
namespace Go.Proofs.Ytokepfgknffdfaa
open Go

section
variable {V : Type}

/-- Rising. -/
def Up (L : List (Int × V)) : Prop := L.Pairwise (fun x y => x.1 < y.1)

theorem Up.ap {L : List (Int × V)} (h : Up L) : Ap L := h.imp fun {x y} hxy => by omega
theorem Up.del {L : List (Int × V)} (h : Up L) (a : Int) : Up (delC L a) := List.Pairwise.filter _ h

theorem up_eq : ∀ {S L : List (Int × V)}, Up S → Up L → S.Perm L → S = L
  | [], L, _, _, p => (List.Perm.nil_eq p)
  | x :: S, [], _, _, p => absurd p.length_eq (by simp)
  | x :: S, y :: L, hs, hl, p => by
    unfold Up at hs hl
    rw [List.pairwise_cons] at hs hl
    have hx : x ∈ y :: L := p.mem_iff.1 List.mem_cons_self
    have hy : y ∈ x :: S := p.mem_iff.2 List.mem_cons_self
    have e : x = y := by
      rcases List.mem_cons.1 hx with h | h
      · exact h
      · rcases List.mem_cons.1 hy with g | g
        · exact g.symm
        · have := hl.1 x h
          have := hs.1 y g
          omega
    subst e
    rw [up_eq hs.2 hl.2 p.cons_inv]

/-- Where an address is, from place k on; -1. -/
def findI : List (Int × V) → Int → Nat → Int
  | [], _, _ => -1
  | x :: r, a, k => if x.1 = a then k else findI r a (k + 1)

theorem findI_no : ∀ (L : List (Int × V)) (a : Int) (k : Nat), inC L a = false → findI L a k = -1
  | [], _, _, _ => rfl
  | x :: r, a, k, h => by
    have h1 : x.1 ≠ a := by intro e; simp [inC, e] at h
    have h2 : inC r a = false := by
      rw [inC_false] at h ⊢
      exact fun v hv => h v (List.mem_cons_of_mem _ hv)
    rw [findI, if_neg h1, findI_no r a (k + 1) h2]

theorem findI_yes : ∀ (L : List (Int × V)) (a : Int) (k : Nat), inC L a = true → ∃ i v, findI L a k = ((k + i : Nat) : Int) ∧ L[i]? = some (a, v) ∧ getC L a = some v
  | [], _, _, h => by cases h
  | x :: r, a, k, h => by
    by_cases h1 : x.1 = a
    · refine ⟨0, x.2, by rw [findI, if_pos h1]; simp, ?_, by rw [getC_cons, if_pos h1]⟩
      rw [← h1]; rfl
    · have h2 : inC r a = true := by simpa [inC, h1] using h
      obtain ⟨i, v, e1, e2, e3⟩ := findI_yes r a (k + 1) h2
      refine ⟨i + 1, v, ?_, by simpa using e2, by rw [getC_cons, if_neg h1]; exact e3⟩
      rw [findI, if_neg h1, e1]
      congr 1
      omega

theorem findI_bd : ∀ (L : List (Int × V)) (a : Int) (k : Nat), -1 ≤ findI L a k ∧ findI L a k ≤ (k + L.length : Nat)
  | [], _, _ => by constructor <;> simp [findI] <;> omega
  | x :: r, a, k => by
    rw [findI]
    have := findI_bd r a (k + 1)
    split
    · simp; omega
    · simp at this ⊢; omega

theorem findI_step {L : List (Int × V)} {a : Int} {k : Nat} {x : Int × V} (h : L[k]? = some x) : findI (L.drop k) a k = if x.1 = a then (k : Int) else findI (L.drop (k + 1)) a (k + 1) := by
  have hk : k < L.length := by
    rcases Nat.lt_or_ge k L.length with q | q
    · exact q
    · rw [List.getElem?_eq_none q] at h; cases h
  rw [List.getElem?_eq_getElem hk] at h
  rw [List.drop_eq_getElem_cons hk, findI, Option.some.inj h]

/-- What is left to build of the document's Put. -/
def insW (a : Int) (v : V) : List (Int × V) → Bool → List (Int × V)
  | [], put => if put = true then [] else [(a, v)]
  | x :: r, put => (if put = false ∧ a ≤ x.1 then [(a, v)] else []) ++ ((if x.1 = a then [] else [x]) ++ insW a v r (put || decide (a ≤ x.1)))

theorem insW_put (a : Int) (v : V) : ∀ L : List (Int × V), (∀ x ∈ L, x.1 ≠ a) → insW a v L true = L
  | [], _ => rfl
  | x :: r, h => by
    rw [insW, if_neg (by simp), if_neg (h x List.mem_cons_self)]
    simp only [Bool.true_or]
    rw [insW_put a v r (fun y hy => h y (List.mem_cons_of_mem _ hy))]
    rfl

theorem insW_ok (a : Int) (v : V) : ∀ L : List (Int × V), Up L → Up (insW a v L false) ∧ (insW a v L false).Perm (putC L a v)
  | [], _ => by
    have e : insW a v [] false = [(a, v)] := rfl
    rw [e]
    exact ⟨List.pairwise_singleton _ _, by simp [putC, delC]⟩
  | x :: r, h => by
    unfold Up at h
    rw [List.pairwise_cons] at h
    by_cases hle : a ≤ x.1
    · have hr : ∀ y ∈ r, y.1 ≠ a := fun y hy => by have := h.1 y hy; omega
      have e1 : insW a v (x :: r) false = (a, v) :: ((if x.1 = a then [] else [x]) ++ r) := by
        rw [insW, if_pos ⟨rfl, hle⟩]
        simp only [Bool.false_or, hle, decide_true]
        rw [insW_put a v r hr]
        rfl
      rw [e1]
      by_cases hxa : x.1 = a
      · rw [if_pos hxa]
        refine ⟨List.pairwise_cons.2 ⟨fun y hy => ?_, h.2⟩, ?_⟩
        · have := h.1 y hy
          show a < y.1; omega
        · unfold putC delC
          rw [List.filter_cons_of_neg (by simp [hxa]), List.filter_eq_self.2 (fun y hy => by simp [hr y hy])]
          rfl
      · rw [if_neg hxa]
        refine ⟨List.pairwise_cons.2 ⟨fun y hy => ?_, List.pairwise_cons.2 h⟩, ?_⟩
        · show a < y.1
          rcases List.mem_cons.1 hy with e | e
          · rw [e]; omega
          · have := h.1 y e; omega
        · unfold putC delC
          rw [List.filter_cons_of_pos (by simp [hxa]), List.filter_eq_self.2 (fun y hy => by simp [hr y hy])]
          rfl
    · have hxa : x.1 ≠ a := by omega
      obtain ⟨i1, i2⟩ := insW_ok a v r h.2
      have e1 : insW a v (x :: r) false = x :: insW a v r false := by
        rw [insW, if_neg (by omega), if_neg hxa]
        have : decide (a ≤ x.1) = false := decide_eq_false hle
        rw [this]
        rfl
      rw [e1]
      refine ⟨List.pairwise_cons.2 ⟨fun y hy => ?_, i1⟩, ?_⟩
      · have := i2.mem_iff.1 hy
        unfold putC at this
        rcases List.mem_cons.1 this with e | e
        · rw [e]; show x.1 < a; omega
        · exact h.1 y (List.mem_filter.1 e).1
      · have e2 : putC (x :: r) a v = (a, v) :: x :: delC r a := by
          unfold putC delC
          rw [List.filter_cons_of_pos (by simp [hxa])]
        rw [e2]
        exact (i2.cons x).trans (List.Perm.swap _ _ _)

theorem insW_step {a : Int} {v : V} {L : List (Int × V)} {k : Nat} {x : Int × V} {put : Bool} (h : L[k]? = some x) :
    insW a v (L.drop k) put = (if put = false ∧ a ≤ x.1 then [(a, v)] else []) ++ ((if x.1 = a then [] else [x]) ++ insW a v (L.drop (k + 1)) (put || decide (a ≤ x.1))) := by
  have hk : k < L.length := by
    rcases Nat.lt_or_ge k L.length with q | q
    · exact q
    · rw [List.getElem?_eq_none q] at h; cases h
  rw [List.getElem?_eq_getElem hk] at h
  rw [List.drop_eq_getElem_cons hk, insW, Option.some.inj h]

theorem delC_step {L : List (Int × V)} {a : Int} {k : Nat} {x : Int × V} (h : L[k]? = some x) : delC (L.take (k + 1)) a = delC (L.take k) a ++ (if x.1 = a then [] else [x]) := by
  unfold delC
  rw [List.take_add_one, h, List.filter_append]
  congr 1
  show List.filter _ [x] = _
  by_cases e : x.1 = a
  · rw [if_pos e, List.filter_cons_of_neg (by simp [e])]; rfl
  · rw [if_neg e, List.filter_cons_of_pos (by simp [e])]; rfl
end

/-- A pair's two cells. -/
def encP (p : Int × Int) : List Value := [.int .u64 p.1, .int .i64 p.2]
theorem encP_len (p : Int × Int) : (encP p).length = 2 := rfl
theorem encP_one (p : Int × Int) : ∀ u ∈ encP p, u.oneCell' = true := by
  intro u hu
  simp [encP] at hu
  rcases hu with rfl | rfl <;> rfl

end Go.Proofs.Ytokepfgknffdfaa
