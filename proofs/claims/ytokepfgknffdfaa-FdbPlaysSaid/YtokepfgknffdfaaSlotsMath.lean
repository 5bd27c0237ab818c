/- A table of places in plain words (no program): where an address is looked for, put and taken out; what stays so. -/
import Derived.WalkKit
namespace Go.Proofs.Ytokepfgknffdfaa
open Go

/-- A place: whether it is full, its address, what belongs to it. -/
structure Pl (V : Type) where
  full : Bool
  addr : Int
  val : V

instance instPl {V : Type} [Inhabited V] : Inhabited (Pl V) := ⟨⟨false, 0, default⟩⟩

/-- Whoever looks from place f on for what is at place i comes to place j ahead of it. -/
def PassB (f j i : Nat) : Prop := (f ≤ j ∧ j < i) ∨ (i < f ∧ (f ≤ j ∨ j < i))

/-- The place behind another one. -/
def nx (n i : Nat) : Nat := if i + 1 < n then i + 1 else 0

/-- How many places behind one another one is. -/
def wayN (n x y : Nat) : Nat := if x ≤ y then y - x else y + n - x

theorem nx_lt {n i : Nat} (h : i < n) : nx n i < n := by unfold nx; split <;> omega

theorem wayN_pass {n f x y : Nat} (hf : f < n) (hx : x < n) (hy : y < n) : wayN n f x < wayN n f y ↔ PassB f x y := by
  unfold wayN PassB
  split <;> split <;> omega

theorem wayN_or (n x y : Nat) : (x ≤ y ∧ wayN n x y = y - x) ∨ (y < x ∧ wayN n x y = y + n - x) := by
  unfold wayN
  split
  · exact .inl ⟨‹_›, rfl⟩
  · exact .inr ⟨by omega, rfl⟩

theorem wayN_mod {n x y : Nat} (hx : x < n) (hy : y < n) : ((y : Int) - x) % n = wayN n x y := by
  unfold wayN
  split
  · rw [Int.emod_eq_of_lt (by omega) (by omega)]; omega
  · rw [← Int.add_emod_right, Int.emod_eq_of_lt (by omega) (by omega)]; omega

/-- What holds of the places' fullness F and addresses A: no address twice; nobody passes an open place; there is a place that nobody passes. -/
structure Inv (n : Nat) (h : Int → Nat) (F : Nat → Bool) (A : Nat → Int) : Prop where
  dist : ∀ i j, i < n → j < n → F i = true → F j = true → A i = A j → i = j
  path : ∀ i j, i < n → j < n → F i = true → PassB (h (A i)) j i → F j = true
  cut : 0 < n → ∃ c, c < n ∧ ∀ i, i < n → F i = true → ¬ PassB (h (A i)) c i

section
variable {n : Nat} {h : Int → Nat} {F F' : Nat → Bool} {A A' : Nat → Int}

theorem Inv.empty : Inv n h (fun _ => false) A :=
  ⟨fun _ _ _ _ h => (by cases h), fun _ _ _ _ h => (by cases h), fun h0 => ⟨0, h0, fun _ _ h => (by cases h)⟩⟩

/-- Only what the places below n hold counts. -/
theorem Inv.congr (I : Inv n h F A) (hF : ∀ i, i < n → F' i = F i) (hA : ∀ i, i < n → A' i = A i) : Inv n h F' A' := by
  refine ⟨fun i j hi hj fi fj e => ?_, fun i j hi hj fi p => ?_, fun h0 => ?_⟩
  · rw [hF i hi] at fi; rw [hF j hj] at fj; rw [hA i hi, hA j hj] at e
    exact I.dist i j hi hj fi fj e
  · rw [hF i hi] at fi; rw [hA i hi] at p; rw [hF j hj]
    exact I.path i j hi hj fi p
  · obtain ⟨c, hc, k⟩ := I.cut h0
    refine ⟨c, hc, fun i hi fi => ?_⟩
    rw [hF i hi] at fi; rw [hA i hi]
    exact k i hi fi

/-- An address that is put at an open place, all ahead of which were full of others. -/
theorem Inv.put (I : Inv n h F A) {a : Int} {p : Nat} (hp : p < n) (ho : F p = false) (hv : ∀ j, j < n → F j = true → A j ≠ a) (hw : ∀ j, j < n → PassB (h a) j p → F j = true)
    (hF : ∀ i, i < n → F' i = if i = p then true else F i) (hA : ∀ i, i < n → A' i = if i = p then a else A i) : Inv n h F' A' := by
  refine ⟨fun i j hi hj fi fj e => ?_, fun i j hi hj fi q => ?_, fun _ => ⟨p, hp, fun i hi fi q => ?_⟩⟩
  · rw [hF i hi] at fi; rw [hF j hj] at fj; rw [hA i hi, hA j hj] at e
    by_cases ip : i = p <;> by_cases jp : j = p
    · omega
    · rw [if_neg jp] at fj; rw [if_pos ip, if_neg jp] at e
      exact absurd e.symm (hv j hj fj)
    · rw [if_neg ip] at fi; rw [if_neg ip, if_pos jp] at e
      exact absurd e (hv i hi fi)
    · rw [if_neg ip] at fi e; rw [if_neg jp] at fj e
      exact I.dist i j hi hj fi fj e
  · rw [hF i hi] at fi; rw [hA i hi] at q; rw [hF j hj]
    by_cases jp : j = p
    · rw [if_pos jp]
    · rw [if_neg jp]
      by_cases ip : i = p
      · rw [if_pos ip] at q; rw [ip] at q
        exact hw j hj q
      · rw [if_neg ip] at fi q
        exact I.path i j hi hj fi q
  · rw [hF i hi] at fi; rw [hA i hi] at q
    by_cases ip : i = p
    · rw [if_pos ip] at q; unfold PassB at q; omega
    · rw [if_neg ip] at fi q
      have := I.path i p hi hp fi q
      rw [ho] at this; cases this

/-- What is put anew where it was. -/
theorem Inv.again (I : Inv n h F A) {a : Int} {p : Nat} (_hp : p < n) (hf : F p = true) (ha : A p = a)
    (hF : ∀ i, i < n → F' i = if i = p then true else F i) (hA : ∀ i, i < n → A' i = if i = p then a else A i) : Inv n h F' A' :=
  I.congr (fun i hi => by rw [hF i hi]; split <;> simp_all) (fun i hi => by rw [hA i hi]; split <;> simp_all)

/-- While an address is taken out: its place p was opened, r places behind it have been looked at, the hole is open; c is a place that nobody passes. -/
structure Mid (n : Nat) (h : Int → Nat) (F : Nat → Bool) (A : Nat → Int) (p c r hole : Nat) : Prop where
  open_ : F hole = false
  dist : ∀ i j, i < n → j < n → F i = true → F j = true → A i = A j → i = j
  path : ∀ i j, i < n → j < n → F i = true → PassB (h (A i)) j i → F j = true ∨ j = hole
  cut : ∀ i, i < n → F i = true → ¬ PassB (h (A i)) c i
  done : ∀ i, i < n → F i = true → PassB (h (A i)) hole i → r < (if p < i then i - p else i + n - p)
  near : wayN n p hole ≤ r
  far : wayN n p hole ≤ wayN n p c

theorem Mid.start (I : Inv n h F A) {p c : Nat} (hp : p < n) (_hc : c < n) (hcut : ∀ i, i < n → F i = true → ¬ PassB (h (A i)) c i) (_hf : F p = true)
    (hF : ∀ i, i < n → F' i = if i = p then false else F i) (hA : ∀ i, i < n → i ≠ p → A' i = A i) : Mid n h F' A' p c 0 p := by
  have low : ∀ i, i < n → F' i = true → i ≠ p ∧ F i = true := fun i hi fi => by
    rw [hF i hi] at fi
    by_cases e : i = p
    · rw [if_pos e] at fi; cases fi
    · rw [if_neg e] at fi; exact ⟨e, fi⟩
  refine ⟨by rw [hF p hp, if_pos rfl], fun i j hi hj fi fj e => ?_, fun i j hi hj fi q => ?_, fun i hi fi q => ?_, fun i hi fi q => ?_, by unfold wayN; simp, by unfold wayN; simp⟩
  · obtain ⟨ip, fi⟩ := low i hi fi; obtain ⟨jp, fj⟩ := low j hj fj
    rw [hA i hi ip, hA j hj jp] at e
    exact I.dist i j hi hj fi fj e
  · obtain ⟨ip, fi⟩ := low i hi fi
    rw [hA i hi ip] at q
    by_cases jp : j = p
    · exact .inr jp
    · exact .inl (by rw [hF j hj, if_neg jp]; exact I.path i j hi hj fi q)
  · obtain ⟨ip, fi⟩ := low i hi fi
    rw [hA i hi ip] at q
    exact hcut i hi fi q
  · obtain ⟨ip, fi⟩ := low i hi fi
    split <;> omega

/-- Nobody passes the hole any more: it is as if nothing had been there. -/
theorem Mid.inv {p c r hole : Nat} (M : Mid n h F A p c r hole) (hc : c < n) (hall : ∀ i, i < n → F i = true → ¬ PassB (h (A i)) hole i) : Inv n h F A :=
  ⟨M.dist, fun i j hi hj fi q => (M.path i j hi hj fi q).elim id (fun e => absurd (e ▸ q) (hall i hi fi)), fun _ => ⟨c, hc, M.cut⟩⟩

/-- An open place behind ends it. -/
theorem Mid.stop {p c r hole at' : Nat} (M : Mid n h F A p c r hole) (hh : ∀ a, h a < n) (hp : p < n) (_hho : hole < n) (hc : c < n) (hat : at' < n) (_hr : r < n) (hat' : at' = p + (r + 1) ∨ at' + n = p + (r + 1))
    (ho : F at' = false) : Inv n h F A := by
  refine M.inv hc fun i hi fi q => ?_
  have d := M.done i hi fi q
  have nr := M.near
  have hf := hh (A i)
  have ne : i ≠ at' := fun e => by rw [e, ho] at fi; cases fi
  have ne2 : i ≠ hole := fun e => by rw [e, M.open_] at fi; cases fi
  have nh : at' ≠ hole := by
    intro e
    unfold wayN at nr
    split at d <;> split at nr <;> omega
  have q2 : PassB (h (A i)) at' i := by
    unfold PassB at q ⊢
    unfold wayN at nr
    split at d <;> split at nr <;> omega
  rcases M.path i at' hi hat fi q2 with e | e
  · rw [ho] at e; cases e
  · exact nh e

/-- A full place that doesn't pass the hole stays. -/
theorem Mid.stay {p c r hole at' : Nat} (M : Mid n h F A p c r hole) (_hp : p < n) (_hat : at' < n) (_hr : r < n) (hat' : at' = p + (r + 1) ∨ at' + n = p + (r + 1))
    (hq : ¬ PassB (h (A at')) hole at') : Mid n h F A p c (r + 1) hole := by
  refine ⟨M.open_, M.dist, M.path, M.cut, fun i hi fi q => ?_, by have := M.near; omega, M.far⟩
  have d := M.done i hi fi q
  have ne : i ≠ at' := fun e => hq (e ▸ q)
  split at d <;> split <;> omega

/-- One that does moves up. -/
theorem Mid.move {p c r hole at' : Nat} (M : Mid n h F A p c r hole) (hh : ∀ a, h a < n) (hp : p < n) (hho : hole < n) (hc : c < n) (hat : at' < n) (_hr : r < n) (hat' : at' = p + (r + 1) ∨ at' + n = p + (r + 1))
    (hfull : F at' = true) (hq : PassB (h (A at')) hole at')
    (hF : ∀ i, i < n → F' i = if i = at' then false else if i = hole then true else F i) (hA : ∀ i, i < n → i ≠ at' → A' i = if i = hole then A at' else A i) : Mid n h F' A' p c (r + 1) at' := by
  have nr := M.near
  have fr := M.far
  have ne : hole ≠ at' := fun e => by rw [← e, M.open_] at hfull; cases hfull
  have ccut := M.cut at' hat hfull
  have hfa := hh (A at')
  have low : ∀ i, i < n → F' i = true → i ≠ at' ∧ ((i = hole ∧ A' i = A at') ∨ (i ≠ hole ∧ F i = true ∧ A' i = A i)) := fun i hi fi => by
    rw [hF i hi] at fi
    by_cases e : i = at'
    · rw [if_pos e] at fi; cases fi
    · rw [if_neg e] at fi
      by_cases e2 : i = hole
      · exact ⟨e, .inl ⟨e2, by rw [hA i hi e, if_pos e2]⟩⟩
      · rw [if_neg e2] at fi
        exact ⟨e, .inr ⟨e2, fi, by rw [hA i hi e, if_neg e2]⟩⟩
  -- the move goes forward: the place is behind the hole, not behind the cut
  have fwd : wayN n p at' = r + 1 ∧ r + 1 ≤ wayN n p c := by
    unfold PassB at hq ccut
    rcases wayN_or n p hole with ⟨x1, e1⟩ | ⟨x1, e1⟩ <;> rcases wayN_or n p c with ⟨x2, e2⟩ | ⟨x2, e2⟩ <;> rcases wayN_or n p at' with ⟨x3, e3⟩ | ⟨x3, e3⟩ <;> rw [e3, e2] <;> rw [e1] at nr fr <;> rw [e2] at fr <;> omega
  refine ⟨by rw [hF at' hat, if_pos rfl], fun i j hi hj fi fj e => ?_, fun i j hi hj fi q => ?_, fun i hi fi q => ?_, fun i hi fi q => ?_, by rw [fwd.1]; exact Nat.le_refl _, by rw [fwd.1]; exact fwd.2⟩
  · obtain ⟨ia, hi2⟩ := low i hi fi; obtain ⟨ja, hj2⟩ := low j hj fj
    rcases hi2 with ⟨e1, b1⟩ | ⟨e1, f1, b1⟩ <;> rcases hj2 with ⟨e2, b2⟩ | ⟨e2, f2, b2⟩
    · omega
    · rw [b1, b2] at e
      exact absurd (M.dist at' j hat hj hfull f2 e).symm ja
    · rw [b1, b2] at e
      exact absurd (M.dist i at' hi hat f1 hfull e) ia
    · rw [b1, b2] at e
      exact M.dist i j hi hj f1 f2 e
  · obtain ⟨ia, hi2⟩ := low i hi fi
    by_cases ja : j = at'
    · exact .inr ja
    · left
      rw [hF j hj, if_neg ja]
      by_cases jh : j = hole
      · rw [if_pos jh]
      · rw [if_neg jh]
        rcases hi2 with ⟨e1, b1⟩ | ⟨e1, f1, b1⟩
        · rw [b1, e1] at q
          have q2 : PassB (h (A at')) j at' := by unfold PassB at q hq ⊢; omega
          exact (M.path at' j hat hj hfull q2).elim id (fun e => absurd e jh)
        · rw [b1] at q
          exact (M.path i j hi hj f1 q).elim id (fun e => absurd e jh)
  · obtain ⟨ia, hi2⟩ := low i hi fi
    rcases hi2 with ⟨e1, b1⟩ | ⟨e1, f1, b1⟩
    · rw [b1, e1] at q
      exact ccut (by unfold PassB at q hq ⊢; omega)
    · rw [b1] at q
      exact M.cut i hi f1 q
  · obtain ⟨ia, hi2⟩ := low i hi fi
    rcases hi2 with ⟨e1, b1⟩ | ⟨e1, f1, b1⟩
    · exfalso
      rw [b1, e1] at q
      unfold PassB at q hq; omega
    · rw [b1] at q
      have d := M.done i hi f1
      have cc := M.cut i hi f1
      have hf := hh (A i)
      obtain ⟨g1, g2⟩ := fwd
      apply Classical.byContradiction
      intro hno
      by_cases qh : PassB (h (A i)) hole i
      · have := d qh
        unfold PassB at q
        split at hno <;> split at this <;> omega
      · unfold PassB at q qh cc hq ccut
        rcases wayN_or n p hole with ⟨x1, e1⟩ | ⟨x1, e1⟩ <;> rcases wayN_or n p c with ⟨x2, e2⟩ | ⟨x2, e2⟩ <;> rw [e1] at nr fr <;> rw [e2] at fr g2 <;> split at hno <;> omega

/-- All have been looked at. -/
theorem Mid.all {p c hole : Nat} (M : Mid n h F A p c n hole) (hp : p < n) (hc : c < n) : Inv n h F A :=
  M.inv hc fun i hi fi q => by have := M.done i hi fi q; split at this <;> omega
end

end Go.Proofs.Ytokepfgknffdfaa
