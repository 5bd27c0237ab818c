/- What a table holds, as a list of addresses with what belongs to them, in whatever order (no program). -/
import Derived.Test.YtokepfgknffdfaaSlotsList
namespace Go.Proofs.Ytokepfgknffdfaa
open Go

section
variable {V : Type}

/-- No address twice. -/
def Ap (c : List (Int × V)) : Prop := c.Pairwise (fun x y => x.1 ≠ y.1)
def getC (c : List (Int × V)) (a : Int) : Option V := (c.find? (fun x => x.1 == a)).map (·.2)
def inC (c : List (Int × V)) (a : Int) : Bool := c.any (fun x => x.1 == a)
def delC (c : List (Int × V)) (a : Int) : List (Int × V) := c.filter (fun x => x.1 != a)
def putC (c : List (Int × V)) (a : Int) (v : V) : List (Int × V) := (a, v) :: delC c a

/-- What a table holds behind a Put. -/
def putEnd (c : List (Int × V)) (a : Int) (v : V) (b : Bool) : List (Int × V) := if b = true then putC c a v else c

theorem Ap.perm {c d : List (Int × V)} (h : Ap c) (p : c.Perm d) : Ap d := (p.pairwise_iff (fun h e => h e.symm)).1 h

theorem getC_cons (x : Int × V) (c : List (Int × V)) (a : Int) : getC (x :: c) a = if x.1 = a then some x.2 else getC c a := by
  unfold getC
  rw [List.find?_cons]
  by_cases h : x.1 = a
  · simp [h]
  · have e : (x.1 == a) = false := by simp [h]
    rw [e, if_neg h]

theorem getC_nil (a : Int) : getC ([] : List (Int × V)) a = none := rfl

theorem getC_some (c : List (Int × V)) (a : Int) : (getC c a).isSome = inC c a := by
  induction c with
  | nil => rfl
  | cons x c ih =>
    rw [getC_cons]
    by_cases h : x.1 = a
    · simp [h, inC]
    · have : inC (x :: c) a = inC c a := by simp [inC, h]
      rw [this, if_neg h, ih]

theorem inC_iff {c : List (Int × V)} {a : Int} : inC c a = true ↔ ∃ v, (a, v) ∈ c := by
  unfold inC
  rw [List.any_eq_true]
  constructor
  · rintro ⟨⟨b, v⟩, h1, h2⟩
    simp at h2; subst h2
    exact ⟨v, h1⟩
  · rintro ⟨v, h⟩
    exact ⟨(a, v), h, by simp⟩

theorem inC_false {c : List (Int × V)} {a : Int} : inC c a = false ↔ ∀ v, (a, v) ∉ c := by
  rw [← Bool.not_eq_true, inC_iff]
  exact ⟨fun h v hv => h ⟨v, hv⟩, fun h ⟨v, hv⟩ => h v hv⟩

theorem getC_none {c : List (Int × V)} {a : Int} (h : inC c a = false) : getC c a = none := by
  have := getC_some c a
  rw [h] at this
  cases e : getC c a with
  | none => rfl
  | some v => rw [e] at this; cases this

theorem getC_mem {c : List (Int × V)} (hap : Ap c) {a : Int} {v : V} (h : (a, v) ∈ c) : getC c a = some v := by
  induction c with
  | nil => cases h
  | cons x c ih =>
    rw [getC_cons]
    unfold Ap at hap
    rw [List.pairwise_cons] at hap
    rcases List.mem_cons.1 h with e | e
    · rw [← e, if_pos rfl]
    · rw [if_neg (hap.1 _ e)]
      exact ih hap.2 e

theorem getC_perm {c d : List (Int × V)} (hap : Ap c) (p : c.Perm d) (a : Int) : getC c a = getC d a := by
  cases h : inC d a with
  | true =>
    obtain ⟨v, hv⟩ := inC_iff.1 h
    rw [getC_mem (hap.perm p) hv, getC_mem hap (p.mem_iff.2 hv)]
  | false =>
    rw [getC_none h, getC_none]
    rw [inC_false] at h ⊢
    exact fun v hv => h v (p.mem_iff.1 hv)

theorem inC_perm {c d : List (Int × V)} (p : c.Perm d) (a : Int) : inC c a = inC d a := by
  cases h : inC d a with
  | true => obtain ⟨v, hv⟩ := inC_iff.1 h; exact inC_iff.2 ⟨v, p.mem_iff.2 hv⟩
  | false =>
    rw [inC_false] at h ⊢
    exact fun v hv => h v (p.mem_iff.1 hv)

theorem delC_none {c : List (Int × V)} {a : Int} (h : inC c a = false) : delC c a = c := by
  rw [inC_false] at h
  unfold delC
  rw [List.filter_eq_self]
  rintro ⟨b, v⟩ hx
  simp
  rintro rfl
  exact h v hx

theorem delC_head {R : List (Int × V)} {a : Int} {v : V} (h : Ap ((a, v) :: R)) : delC ((a, v) :: R) a = R := by
  unfold Ap at h
  rw [List.pairwise_cons] at h
  unfold delC
  rw [List.filter_cons_of_neg (by simp), List.filter_eq_self]
  intro x hx
  have := h.1 x hx
  simp; exact fun e => this e.symm

theorem delC_perm {c d : List (Int × V)} (p : c.Perm d) (a : Int) : (delC c a).Perm (delC d a) := p.filter _

theorem mem_delC {c : List (Int × V)} {a b : Int} {v : V} : (b, v) ∈ delC c a ↔ (b, v) ∈ c ∧ b ≠ a := by
  unfold delC
  rw [List.mem_filter]
  simp

theorem Ap.del {c : List (Int × V)} (h : Ap c) (a : Int) : Ap (delC c a) := List.Pairwise.filter _ h

theorem Ap.put {c : List (Int × V)} (h : Ap c) (a : Int) (v : V) : Ap (putC c a v) := by
  refine List.pairwise_cons.2 ⟨?_, h.del a⟩
  rintro ⟨b, u⟩ hx e
  exact (mem_delC.1 hx).2 e.symm

theorem getC_del (c : List (Int × V)) (a b : Int) : getC (delC c a) b = if b = a then none else getC c b := by
  induction c with
  | nil => simp [delC, getC_nil]
  | cons x c ih =>
    by_cases h : x.1 = a
    · have e : delC (x :: c) a = delC c a := by unfold delC; rw [List.filter_cons_of_neg (by simp [h])]
      rw [e, ih, getC_cons]
      by_cases hb : b = a
      · rw [if_pos hb, if_pos hb]
      · rw [if_neg hb, if_neg hb, if_neg (by omega)]
    · have e : delC (x :: c) a = x :: delC c a := by unfold delC; rw [List.filter_cons_of_pos (by simp [h])]
      rw [e, getC_cons, ih, getC_cons]
      by_cases hb : b = a
      · rw [if_pos hb, if_pos hb, if_neg (by omega)]
      · rw [if_neg hb, if_neg hb]

theorem getC_put (c : List (Int × V)) (a : Int) (v : V) (b : Int) : getC (putC c a v) b = if b = a then some v else getC c b := by
  unfold putC
  rw [getC_cons, getC_del]
  by_cases hb : b = a
  · rw [if_pos hb.symm, if_pos hb]
  · rw [if_neg (fun e => hb e.symm), if_neg hb, if_neg hb]

theorem inC_put (c : List (Int × V)) (a : Int) (v : V) (b : Int) : inC (putC c a v) b = (decide (b = a) || inC c b) := by
  rw [← getC_some, getC_put, ← getC_some]
  by_cases hb : b = a
  · simp [hb]
  · simp [hb]

theorem inC_del (c : List (Int × V)) (a b : Int) : inC (delC c a) b = (!decide (b = a) && inC c b) := by
  rw [← getC_some, getC_del, ← getC_some]
  by_cases hb : b = a
  · simp [hb]
  · simp [hb]

theorem del_len {c : List (Int × V)} (h : Ap c) {a : Int} (hi : inC c a = true) : (delC c a).length + 1 = c.length := by
  induction c with
  | nil => cases hi
  | cons x c ih =>
    unfold Ap at h
    rw [List.pairwise_cons] at h
    by_cases e : x.1 = a
    · have e2 : delC (x :: c) a = c := by
        obtain ⟨b, v⟩ := x
        simp at e; subst e
        exact delC_head (List.pairwise_cons.2 h)
      rw [e2]; rfl
    · have e2 : delC (x :: c) a = x :: delC c a := by unfold delC; rw [List.filter_cons_of_pos (by simp [e])]
      have hi2 : inC c a = true := by simpa [inC, e] using hi
      rw [e2, List.length_cons, List.length_cons, ih h.2 hi2]

theorem put_len {c : List (Int × V)} (h : Ap c) (a : Int) (v : V) : (putC c a v).length = if inC c a = true then c.length else c.length + 1 := by
  unfold putC
  rw [List.length_cons]
  by_cases hi : inC c a = true
  · rw [if_pos hi]; exact del_len h hi
  · rw [if_neg hi, delC_none (by simpa using hi)]

/-- What is held is held by one place each. -/
theorem perm_put_there {c R l l' : List (Int × V)} (hap : Ap c) {a : Int} {v0 : V} (v : V) (p : l.Perm c) (h1 : l.Perm ((a, v0) :: R)) (h2 : l'.Perm ((a, v) :: R)) : l'.Perm (putC c a v) ∧ inC c a = true := by
  have h3 : c.Perm ((a, v0) :: R) := p.symm.trans h1
  refine ⟨h2.trans (List.Perm.cons _ ?_), inC_iff.2 ⟨v0, h3.mem_iff.2 List.mem_cons_self⟩⟩
  have := delC_perm h3 a
  rw [delC_head (hap.perm h3)] at this
  exact this.symm

theorem perm_put_new {c l l' : List (Int × V)} {a : Int} (v : V) (p : l.Perm c) (hn : inC c a = false) (h2 : l'.Perm ((a, v) :: l)) : l'.Perm (putC c a v) := by
  unfold putC
  rw [delC_none hn]
  exact h2.trans (List.Perm.cons _ p)

theorem perm_drop {c l l' : List (Int × V)} (hap : Ap c) {a : Int} {v0 : V} (p : l.Perm c) (h1 : l.Perm ((a, v0) :: l')) : l'.Perm (delC c a) ∧ inC c a = true := by
  have h3 : c.Perm ((a, v0) :: l') := p.symm.trans h1
  refine ⟨?_, inC_iff.2 ⟨v0, h3.mem_iff.2 List.mem_cons_self⟩⟩
  have := delC_perm h3 a
  rw [delC_head (hap.perm h3)] at this
  exact this.symm
end

end Go.Proofs.Ytokepfgknffdfaa
