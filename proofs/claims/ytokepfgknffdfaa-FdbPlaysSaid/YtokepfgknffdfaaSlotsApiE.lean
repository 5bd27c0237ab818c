/- A table by what it holds: New, Len, Get, Put, Size. -/
import Derived.Test.YtokepfgknffdfaaSlotsAssoc
import Derived.Test.YtokepfgknffdfaaSlotsNumE
namespace Go.Proofs.Ytokepfgknffdfaa
open Go.ChangeShapes Go.WideShapes Go.ChangeAt Go.RowKit
set_option linter.unusedVariables false

/-- At blocks h and g lies a table of n places that holds c, in whatever order. -/
def HTE (w : World) (h g n : Nat) (c : List (Int × (Int × Int))) : Prop := ∃ l : List (Pl (Int × Int)), TBE w h g l ∧ OkT (hs n) l ∧ l.length = n ∧ (conts l).Perm c

theorem HTE.lt {w : World} {h g n : Nat} {c : List (Int × (Int × Int))} (t : HTE w h g n c) : h < w.heap.size ∧ g < w.heap.size ∧ h ≠ g ∧ n ≤ 64 := by
  obtain ⟨l, t, _, hn, _⟩ := t
  exact ⟨t.lt.1, t.lt.2, t.2.2.1, by have := t.2.2.2; omega⟩
theorem HTE.keep {w w' : World} {h g n : Nat} {c : List (Int × (Int × Int))} (t : HTE w h g n c) (k : ∀ b, b = h ∨ b = g → w'.heap[b]? = w.heap[b]?) : HTE w' h g n c := by
  obtain ⟨l, t, r⟩ := t
  exact ⟨l, TB.keep t k, r⟩
theorem HTE.drew {w : World} {h g n : Nat} {c : List (Int × (Int × Int))} (t : HTE w h g n c) : HTE w.drew h g n c := t.keep fun _ _ => rfl
theorem HTE.below {w w' : World} {h g n : Nat} {c : List (Int × (Int × Int))} (t : HTE w h g n c) (hb : Below w.heap.size w w') : HTE w' h g n c :=
  t.keep fun b hbb => hb.block b (by have := t.lt; rcases hbb with rfl | rfl <;> omega)
theorem HTE.own {w w' : World} {h g n base e size m : Nat} {v : Value} {xs : List Value} {c : List (Int × (Int × Int))} (t : HTE w h g n c) (r : w.ownsRow base e size v m xs) (hg : w.grownBy w' v.ownBlock) (h1 : h < base) (h2 : g < base) : HTE w' h g n c :=
  t.keep fun b hbb => hg.block b (by have := t.lt; rcases hbb with rfl | rfl <;> omega) (fun e => by have := World.ownsRow.lt r b e.symm; rcases hbb with rfl | rfl <;> omega)
theorem HTE.ap {w : World} {h g n : Nat} {c : List (Int × (Int × Int))} (t : HTE w h g n c) : Ap c := by
  obtain ⟨l, _, o, _, p⟩ := t
  exact Ap.perm (conts_apart o) p
theorem HTE.le {w : World} {h g n : Nat} {c : List (Int × (Int × Int))} (t : HTE w h g n c) : c.length ≤ n := by
  obtain ⟨l, _, _, hn, p⟩ := t
  rw [← p.length_eq, ← hn]
  exact conts_le l
theorem HTE.perm {w : World} {h g n : Nat} {c d : List (Int × (Int × Int))} (t : HTE w h g n c) (p : c.Perm d) : HTE w h g n d := by
  obtain ⟨l, t, o, hn, q⟩ := t
  exact ⟨l, t, o, hn, q.trans p⟩

theorem newE_api (k : Int) (n : Nat) (hn : min (max k 0) 64 = n) (w : World) :
    Calls Try.prog 21 #[.int .i64 k] w fun e w' => e = .returned (.pointer (some ⟨w.heap.size + 1, 0, none⟩)) ∧ HTE w' (w.heap.size + 1) w.heap.size n [] ∧ Below w.heap.size w w' :=
  (newE_any k n hn w).mono fun e w' ⟨he, t, hb⟩ => ⟨he, ⟨List.replicate n noPl, t, okT_none _ n, by simp, by rw [conts_none]⟩, hb⟩
theorem sizeE_api {w : World} {h g n : Nat} {c : List (Int × (Int × Int))} (t : HTE w h g n c) :
    Calls Try.prog 33 #[.pointer (some ⟨h, 0, none⟩)] w fun e w' => e = .returned (.int .i64 (n : Nat)) ∧ w = w' := by
  obtain ⟨l, t, o, hn, p⟩ := t
  rw [← hn]
  exact sizeE_is w h g l t

theorem lenE_api {w : World} {h g n : Nat} {c : List (Int × (Int × Int))} (t : HTE w h g n c) :
    Calls Try.prog 30 #[.pointer (some ⟨h, 0, none⟩)] w fun e w' => e = .returned (.int .i64 (c.length : Nat)) ∧ Below w.heap.size w w' := by
  obtain ⟨l, t, o, hn, p⟩ := t
  rw [← p.length_eq]
  exact lenE_is w h g l t

theorem lookE {l : List (Pl (Int × Int))} {n : Nat} (o : OkT (hs n) l) (hn : l.length = n) (a : Int) :
    (∃ q v, q < l.length ∧ lookFrom l a l.length (hs l.length a) = ((q : Int), true) ∧ l[q]? = some ⟨true, a, v⟩) ∨
    (∃ q, q < l.length ∧ lookFrom l a l.length (hs l.length a) = ((q : Int), false) ∧ fAt l q = false ∧ (∀ j, j < l.length → fAt l j = true → aAt l j ≠ a) ∧ ∀ j, j < l.length → PassB (hs n a) j q → fAt l j = true) ∨
    (lookFrom l a l.length (hs l.length a) = (-1, false) ∧ (∀ j, j < l.length → fAt l j = true) ∧ ∀ j, j < l.length → fAt l j = true → aAt l j ≠ a) := by
  subst hn
  exact look_cases l o (fun h0 b => hs_lt _ h0 b) a

/-- What Get answers first. -/
def ofOE : Option (Int × Int) → Value
  | some v => (.agg #[.int .i64 v.1, .int .i64 v.2])
  | none => .agg #[.int .i64 0, .int .i64 0]

theorem getE_api {w : World} {h g n : Nat} {c : List (Int × (Int × Int))} (t : HTE w h g n c) (a : Int) (ha0 : 0 ≤ a) (ha1 : a ≤ 18446744073709551615) (r : Option (Int × Int)) (hr : getC c a = r) :
    Calls Try.prog 27 #[.pointer (some ⟨h, 0, none⟩), .int .u64 a] w fun e w' =>
      e = .returned (.tuple #[ofOE r, .bool r.isSome]) ∧ Below w.heap.size w w' := by
  have hap := t.ap
  obtain ⟨l, t, o, hn, p⟩ := t
  have hp := getC_perm (conts_apart o) p a
  rcases lookE o hn a with ⟨q, v, hq, hl, hx⟩ | ⟨q, hq, hl, ho, hv, _⟩ | ⟨hl, _, hv⟩
  · have hg : getC (conts l) a = some v := getC_mem (conts_apart o) (mem_conts.2 ⟨q, hx⟩)
    rw [← hr, ← hp, hg]
    exact getE_yes w h g l t a ha0 ha1 q v (Lib.hid hl) hx hq
  · have hg : getC (conts l) a = none := getC_none (inC_false.2 fun v => not_held hv v)
    rw [← hr, ← hp, hg]
    exact getE_no w h g l t a ha0 ha1 q (Lib.hid hl)
  · have hg : getC (conts l) a = none := getC_none (inC_false.2 fun v => not_held hv v)
    rw [← hr, ← hp, hg]
    exact getE_no w h g l t a ha0 ha1 (-1) (Lib.hid hl)

theorem putE_api {w : World} {h g n : Nat} {c : List (Int × (Int × Int))} (t : HTE w h g n c) (a : Int) (ha0 : 0 ≤ a) (ha1 : a ≤ 18446744073709551615) (v : (Int × Int)) (b : Bool) (hb : (inC c a || decide (c.length < n)) = b) :
    Calls Try.prog 23 #[.pointer (some ⟨h, 0, none⟩), .int .u64 a, (.agg #[.int .i64 v.1, .int .i64 v.2])] w fun e w' => e = .returned (.bool b) ∧ HTE w' h g n (putEnd c a v b) ∧ But g w w' := by
  have hap := t.ap
  obtain ⟨l, t, o, hn, p⟩ := t
  have hpi := inC_perm p a
  rcases lookE o hn a with ⟨q, v0, hq, hl, hx⟩ | ⟨q, hq, hl, ho, hv, hw⟩ | ⟨hl, hf, hv⟩
  · obtain ⟨o2, R, r1, r2⟩ := put_there o v hq hx
    obtain ⟨r3, r4⟩ := perm_put_there hap v p r1 r2
    have : b = true := by rw [← hb, r4]; rfl
    subst this
    exact (putE_at w h g l t a ha0 ha1 v q true (Lib.hid hl) hq).mono fun e w' ⟨he, t2, hbut⟩ => ⟨he, ⟨_, t2, o2, by rw [List.length_set, hn], r3⟩, hbut⟩
  · obtain ⟨o2, r2⟩ := put_new o ⟨ha0, ha1⟩ v hq ho hv hw
    have hni : inC c a = false := by rw [← hpi]; exact inC_false.2 fun v => not_held hv v
    have hlt := conts_open hq ho
    rw [p.length_eq] at hlt
    have : b = true := by rw [← hb, hni, Bool.false_or]; exact decide_eq_true (by omega)
    subst this
    exact (putE_at w h g l t a ha0 ha1 v q false (Lib.hid hl) hq).mono fun e w' ⟨he, t2, hbut⟩ => ⟨he, ⟨_, t2, o2, by rw [List.length_set, hn], perm_put_new v p hni r2⟩, hbut⟩
  · have hni : inC c a = false := by rw [← hpi]; exact inC_false.2 fun v => not_held hv v
    have hlt := conts_full hf
    rw [p.length_eq] at hlt
    have : b = false := by rw [← hb, hni, Bool.false_or]; exact decide_eq_false (by omega)
    subst this
    exact (putE_full w h g l t a ha0 ha1 v (Lib.hid hl)).mono fun e w' ⟨he, hbel⟩ => ⟨he, ⟨l, t.below hbel, o, hn, p⟩, But.of_below hbel⟩
end Go.Proofs.Ytokepfgknffdfaa
