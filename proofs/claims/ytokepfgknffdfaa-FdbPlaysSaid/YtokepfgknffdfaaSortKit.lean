/- A row of a call's own, sorted by the library: from the words of rows to the sort's, and back (no program). -/
import Derived.Test.YtokepfgknffdfaaOwnRows
import Derived.Shelf.SlSortCmp.NoneTotal
namespace Go.Proofs.Ytokepfgknffdfaa
open Go Go.RowKit Go.Sort

section
variable {α : Type} {enc : α → List Value} {s : Nat}

/-- The slice at A holds D's elements, in a row from block B on. -/
def RowAt (enc : α → List Value) (s : Nat) (w : World) (B : Nat) (A : Option Addr) (D : List α) : Prop :=
  ∀ (i : Nat) (p : α), D[i]? = some p → ∃ g, A = some ⟨g, 0, none⟩ ∧ B ≤ g ∧ g < w.heap.size ∧ ∀ c, c < s → w.cell? ⟨g, i * s + c, none⟩ = (enc p)[c]?

theorem RowAt.nil (w : World) (B : Nat) (A : Option Addr) : RowAt enc s w B A [] := fun i p h => by simp at h

theorem RowAt.keep {w w' : World} {B : Nat} {A : Option Addr} {D : List α} (h : RowAt enc s w B A D) (hs : w.heap.size ≤ w'.heap.size) (k : ∀ b, B ≤ b → b < w.heap.size → w'.heap[b]? = w.heap[b]?) : RowAt enc s w' B A D := fun i p hp => by
  obtain ⟨g, h1, h2, h3, h4⟩ := h i p hp
  exact ⟨g, h1, h2, by omega, fun c hc => (World.cell?_of_block (a := ⟨g, i * s + c, none⟩) (k g h2 h3)).trans (h4 c hc)⟩

theorem RowAt.below {w w' : World} {B : Nat} {A : Option Addr} {D : List α} (h : RowAt enc s w B A D) (hb : Below w.heap.size w w') : RowAt enc s w' B A D :=
  h.keep hb.size fun b _ hlt => hb.block b hlt
end

section
variable {α : Type} [Inhabited α] {enc : α → List Value} {s : Nat}

theorem divmod (s i c : Nat) (hc : c < s) : (i * s + c) / s = i ∧ (i * s + c) % s = c := by
  constructor
  · rw [Nat.mul_comm, Nat.mul_add_div (by omega), Nat.div_eq_of_lt hc, Nat.add_zero]
  · rw [Nat.mul_comm, Nat.mul_add_mod, Nat.mod_eq_of_lt hc]

/-- What is owned is held, as the sort asks it. -/
theorem OwnL.holds {e : TypeId} {w : World} {base cap n g : Nat} {l : List α} (h : OwnL enc s e w base (.slice (some ⟨g, 0, none⟩) n cap) l) (he : ∀ p, (enc p).length = s) : HoldsK enc s w g 0 l.toArray := by
  intro j hj
  rw [size_flatK] at hj
  have hj' : j < l.length * s := by simpa using hj
  rcases Nat.eq_zero_or_pos s with h0 | hs
  · subst h0; omega
  have hi : j / s < l.length := Nat.div_lt_of_lt_mul (by rw [Nat.mul_comm]; exact hj')
  have hc := Nat.mod_lt j hs
  have hjj : j / s * s + j % s = j := by rw [Nat.mul_comm]; exact Nat.div_add_mod j s
  obtain ⟨p, hp⟩ : ∃ p, l[j / s]? = some p := ⟨_, List.getElem?_eq_getElem hi⟩
  obtain ⟨g', e', _, _, hcell⟩ := h.at he hp
  cases e'
  have hcc := hcell (j % s) hc
  rw [hjj] at hcc
  rw [Nat.zero_add, get_flatK enc s _ j hj]
  have hpp : l.toArray[j / s]! = p := by
    rw [getElem!_pos _ _ (by simpa using hi)]
    rw [List.getElem?_eq_getElem hi] at hp
    simpa using Option.some.inj hp
  refine ⟨?_, ?_⟩
  · rw [hcc, hpp, List.getElem?_eq_getElem (by rw [he]; exact hc), getElem!_pos _ _ (by rw [he]; exact hc)]
    rfl
  · rcases h.2 with ⟨hv, _⟩ | ⟨g2, cap2, cur, hv, _, hg, _⟩
    · cases hv
    · cases hv
      simp [World.frozen?, hg]

/-- Nothing but the row has turned. -/
theorem grown_sorted (w : World) (g off m : Nat) (d : Array α) (os : Array Obj) : w.grownBy (sortWorldK enc s w g off m d os) (some g) := by
  refine ⟨rfl, rfl, rfl, size_sortWorldK_c enc s w g off m d os, fun k hk hne => ?_⟩
  unfold sortWorldK putRowK putRow
  have hkg : k ≠ g := fun e => hne (by rw [e])
  have h1 : (mapBlock (Sort.ahead w m) g (putCells id off (flatK enc s d))).heap[k]? = w.heap[k]? := by
    unfold mapBlock
    show (Array.modify w.heap g _)[k]? = w.heap[k]?
    rw [Array.getElem?_modify, if_neg (fun e => hkg e.symm)]
  have h2 : k < (mapBlock (Sort.ahead w m) g (putCells id off (flatK enc s d))).heap.size := by
    rw [Array.getElem?_eq_getElem hk] at h1
    exact (Array.getElem?_eq_some_iff.1 h1).1
  show ((mapBlock (Sort.ahead w m) g (putCells id off (flatK enc s d))).heap ++ os)[k]? = _
  rw [Array.getElem?_append_left h2, h1]

/-- Behind the sort the row holds what it came to. -/
theorem rowAt_sorted {w : World} {g m : Nat} {d d' : Array α} {os : Array Obj} (he : ∀ p, (enc p).length = s) (hH : HoldsK enc s w g 0 d) (hg : g < w.heap.size) (hs : d'.size = d.size) (B : Nat) (hB : B ≤ g) :
    RowAt enc s (sortWorldK enc s w g 0 m d' os) B (some ⟨g, 0, none⟩) d'.toList := by
  intro i p hp
  have hi : i < d'.size := by
    rcases Nat.lt_or_ge i d'.size with k | k
    · exact k
    · rw [List.getElem?_eq_none (by simpa using k)] at hp; cases hp
  have H := holdsK_sortWorldK_c enc s w g 0 d d' m os hH hg hs
  refine ⟨g, rfl, hB, Nat.lt_of_lt_of_le hg (size_sortWorldK_c enc s w g 0 m d' os), fun c hc => ?_⟩
  have hc2 := (HoldsK.cell H hi hc).1
  rw [Nat.zero_add] at hc2
  have hpp : d'[i]! = p := by
    rw [getElem!_pos d' i hi]
    rw [List.getElem?_eq_getElem (by simpa using hi)] at hp
    simpa using Option.some.inj hp
  rw [hc2, hpp, List.getElem?_eq_getElem (by rw [he]; exact hc), getElem!_pos _ _ (by rw [he]; exact hc)]

theorem perm_of_permIn {d d' : Array α} (h : PermIn 0 d.size d d') : d'.toList.Perm d.toList := by
  have h3 := h.2.2
  rw [← h.1] at h3
  have e1 : d'.extract 0 d'.size = d' := Array.extract_size
  rw [e1, h.1] at h3
  have e2 : d.extract 0 d.size = d := Array.extract_size
  rw [e2] at h3
  exact h3

theorem pairwise_of_sorted {lt : α → α → Bool} {d : Array α} (h : SortedIn lt 0 d.size d) : d.toList.Pairwise (fun x y => lt y x = false) := by
  rw [List.pairwise_iff_getElem]
  intro i j hi hj hij
  have := h i j (Nat.zero_le _) hij (by simpa using hj)
  rw [getElem!_pos _ _ (by simpa using hj), getElem!_pos _ _ (by simpa using hi)] at this
  simpa using this
end

end Go.Proofs.Ytokepfgknffdfaa
