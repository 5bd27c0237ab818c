/- Whole numbers from 0 on in a row of the call's own. -/
import Derived.Test.YtbjcjeadnfckgaaDoorOwnRows
import Derived.Test.YtbjcjeadnfckgaaDoorHeld
namespace Go.Proofs.YtbjcjeadnfckgaaDoor
set_option maxRecDepth 100000
open Go.ChangeShapes Go.WideShapes Go.ChangeAt Go.RowKit
set_option linter.unusedVariables false

def encNi (i : Nat) : List Value := [.int .i64 i]
theorem encNi_len (i : Nat) : (encNi i).length = 1 := rfl
theorem encNi_one (i : Nat) : ∀ u ∈ encNi i, u.oneCell' = true := fun u hu => by obtain rfl := List.mem_singleton.1 hu; rfl
def IntsR (w : World) (base : Nat) (v : Value) (I : List Nat) : Prop := OwnL encNi 1 3 w base v I
theorem IntsR.below {w w' : World} {base : Nat} {v : Value} {I : List Nat} (h : IntsR w base v I) (b : Below w.heap.size w w') : IntsR w' base v I := OwnL.below h b
theorem IntsR.mono {w : World} {base base' : Nat} {v : Value} {I : List Nat} (h : IntsR w base v I) (hb : base' ≤ base) : IntsR w base' v I := OwnL.mono h hb
/-- A block of another type, while a row of one's own grows. -/
theorem Bk.growE {w w' : World} {base g n s : Nat} {e T : TypeId} {v : Value} {xs cs : List Value} (h : Bk w g T cs) (hown : w.ownsRow base e s v n xs) (hT : e ≠ T) (gr : w.grownBy w' v.ownBlock) : Bk w' g T cs := by
  have hne : some g ≠ v.ownBlock := by
    intro q
    rcases hown.2 with ⟨rfl, _⟩ | ⟨g', cap, cur, rfl, _, hh, _⟩
    · cases q
    · have e' : g = g' := Option.some.inj q
      subst e'
      unfold Bk at h
      rw [h] at hh
      injection hh with q
      injection q with _ q
      exact hT q.symm
  exact (gr.block g h.lt hne).trans h
/-- One box, while it grows. -/
theorem Hs.growE1 {w wx wy : World} {X base n s : Nat} {e T : TypeId} {v : Value} {xs cs : List Value} (h : Hs w [(X, T, cs)] wx) (hown : wx.ownsRow base e s v n xs) (hT : e ≠ T) (gr : wx.grownBy wy v.ownBlock) (hb : Below w.heap.size w wy) : Hs w [(X, T, cs)] wy :=
  ⟨fun k g t c hk => by
    cases k with
    | zero => cases hk; exact ⟨(h.1 0 _ _ _ rfl).1.growE hown hT gr, (h.1 0 _ _ _ rfl).2⟩
    | succ k => simp at hk, fun j k a b hn hj hk => by
    cases j <;> cases k <;> simp_all, hb⟩
/-- The places below k that p names. -/
def pickN (p : Nat → Bool) : Nat → List Nat
  | 0 => []
  | k + 1 => pickN p k ++ (if p k = true then [k] else [])
theorem pickN_yes {p : Nat → Bool} {k : Nat} (h : p k = true) : pickN p (k + 1) = pickN p k ++ [k] := by
  show pickN p k ++ (if p k = true then [k] else []) = _
  rw [if_pos h]
theorem pickN_no {p : Nat → Bool} {k : Nat} (h : p k = false) : pickN p (k + 1) = pickN p k := by
  show pickN p k ++ (if p k = true then [k] else []) = _
  rw [h, if_neg (by decide), List.append_nil]
theorem pickN_len (p : Nat → Bool) : ∀ k, (pickN p k).length ≤ k
  | 0 => Nat.le_refl _
  | k + 1 => by
    have := pickN_len p k
    unfold pickN
    rw [List.length_append]
    split <;> simp <;> omega

end Go.Proofs.YtbjcjeadnfckgaaDoor
