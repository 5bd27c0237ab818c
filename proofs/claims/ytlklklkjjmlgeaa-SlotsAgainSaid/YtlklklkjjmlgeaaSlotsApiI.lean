/- A table by what it holds: New, Len, Get, Put, Drop, Size. -/
import Derived.Test.YtlklklkjjmlgeaaSlotsAssoc
import Derived.Test.YtlklklkjjmlgeaaSlotsDropI
namespace Go.Proofs.Ytlklklkjjmlgeaa
open Go.ChangeShapes Go.WideShapes Go.ChangeAt Go.RowKit
set_option linter.unusedVariables false

/-- At blocks h and g lies a table of n places that holds c, in whatever order. -/
def HTI (w : World) (h g n : Nat) (c : List (Int × Int)) : Prop := ∃ l : List (Pl Int), TBI w h g l ∧ OkT (hs n) l ∧ l.length = n ∧ (conts l).Perm c

theorem HTI.lt {w : World} {h g n : Nat} {c : List (Int × Int)} (t : HTI w h g n c) : h < w.heap.size ∧ g < w.heap.size ∧ h ≠ g ∧ n ≤ 64 := by
  obtain ⟨l, t, _, hn, _⟩ := t
  exact ⟨t.lt.1, t.lt.2, t.2.2.1, by have := t.2.2.2; omega⟩
theorem HTI.keep {w w' : World} {h g n : Nat} {c : List (Int × Int)} (t : HTI w h g n c) (k : ∀ b, b = h ∨ b = g → w'.heap[b]? = w.heap[b]?) : HTI w' h g n c := by
  obtain ⟨l, t, r⟩ := t
  exact ⟨l, TB.keep t k, r⟩
theorem HTI.drew {w : World} {h g n : Nat} {c : List (Int × Int)} (t : HTI w h g n c) : HTI w.drew h g n c := t.keep fun _ _ => rfl
theorem HTI.below {w w' : World} {h g n : Nat} {c : List (Int × Int)} (t : HTI w h g n c) (hb : Below w.heap.size w w') : HTI w' h g n c :=
  t.keep fun b hbb => hb.block b (by have := t.lt; rcases hbb with rfl | rfl <;> omega)
theorem HTI.own {w w' : World} {h g n base e size m : Nat} {v : Value} {xs : List Value} {c : List (Int × Int)} (t : HTI w h g n c) (r : w.ownsRow base e size v m xs) (hg : w.grownBy w' v.ownBlock) (h1 : h < base) (h2 : g < base) : HTI w' h g n c :=
  t.keep fun b hbb => hg.block b (by have := t.lt; rcases hbb with rfl | rfl <;> omega) (fun e => by have := World.ownsRow.lt r b e.symm; rcases hbb with rfl | rfl <;> omega)
theorem HTI.ap {w : World} {h g n : Nat} {c : List (Int × Int)} (t : HTI w h g n c) : Ap c := by
  obtain ⟨l, _, o, _, p⟩ := t
  exact Ap.perm (conts_apart o) p
theorem HTI.le {w : World} {h g n : Nat} {c : List (Int × Int)} (t : HTI w h g n c) : c.length ≤ n := by
  obtain ⟨l, _, _, hn, p⟩ := t
  rw [← p.length_eq, ← hn]
  exact conts_le l
theorem HTI.perm {w : World} {h g n : Nat} {c d : List (Int × Int)} (t : HTI w h g n c) (p : c.Perm d) : HTI w h g n d := by
  obtain ⟨l, t, o, hn, q⟩ := t
  exact ⟨l, t, o, hn, q.trans p⟩

theorem newI_api (k : Int) (n : Nat) (hn : min (max k 0) 64 = n) (w : World) :
    Calls Try.prog 9 #[.int .i64 k] w fun e w' => e = .returned (.pointer (some ⟨w.heap.size + 1, 0, none⟩)) ∧ HTI w' (w.heap.size + 1) w.heap.size n [] ∧ Below w.heap.size w w' :=
  (newI_any k n hn w).mono fun e w' ⟨he, t, hb⟩ => ⟨he, ⟨List.replicate n noPl, t, okT_none _ n, by simp, by rw [conts_none]⟩, hb⟩
theorem sizeI_api {w : World} {h g n : Nat} {c : List (Int × Int)} (t : HTI w h g n c) :
    Calls Try.prog 16 #[.pointer (some ⟨h, 0, none⟩)] w fun e w' => e = .returned (.int .i64 (n : Nat)) ∧ w = w' := by
  obtain ⟨l, t, o, hn, p⟩ := t
  rw [← hn]
  exact sizeI_is w h g l t

theorem lenI_api {w : World} {h g n : Nat} {c : List (Int × Int)} (t : HTI w h g n c) :
    Calls Try.prog 17 #[.pointer (some ⟨h, 0, none⟩)] w fun e w' => e = .returned (.int .i64 (c.length : Nat)) ∧ Below w.heap.size w w' := by
  obtain ⟨l, t, o, hn, p⟩ := t
  rw [← p.length_eq]
  exact lenI_is w h g l t

theorem lookI {l : List (Pl Int)} {n : Nat} (o : OkT (hs n) l) (hn : l.length = n) (a : Int) :
    (∃ q v, q < l.length ∧ lookFrom l a l.length (hs l.length a) = ((q : Int), true) ∧ l[q]? = some ⟨true, a, v⟩) ∨
    (∃ q, q < l.length ∧ lookFrom l a l.length (hs l.length a) = ((q : Int), false) ∧ fAt l q = false ∧ (∀ j, j < l.length → fAt l j = true → aAt l j ≠ a) ∧ ∀ j, j < l.length → PassB (hs n a) j q → fAt l j = true) ∨
    (lookFrom l a l.length (hs l.length a) = (-1, false) ∧ (∀ j, j < l.length → fAt l j = true) ∧ ∀ j, j < l.length → fAt l j = true → aAt l j ≠ a) := by
  subst hn
  exact look_cases l o (fun h0 b => hs_lt _ h0 b) a

/-- What Get answers first. -/
def ofOI : Option Int → Value
  | some v => (.int .i64 v)
  | none => .int .i64 0

theorem getI_api {w : World} {h g n : Nat} {c : List (Int × Int)} (t : HTI w h g n c) (a : Int) (ha0 : 0 ≤ a) (ha1 : a ≤ 18446744073709551615) (r : Option Int) (hr : getC c a = r) :
    Calls Try.prog 15 #[.pointer (some ⟨h, 0, none⟩), .int .u64 a] w fun e w' =>
      e = .returned (.tuple #[ofOI r, .bool r.isSome]) ∧ Below w.heap.size w w' := by
  have hap := t.ap
  obtain ⟨l, t, o, hn, p⟩ := t
  have hp := getC_perm (conts_apart o) p a
  rcases lookI o hn a with ⟨q, v, hq, hl, hx⟩ | ⟨q, hq, hl, ho, hv, _⟩ | ⟨hl, _, hv⟩
  · have hg : getC (conts l) a = some v := getC_mem (conts_apart o) (mem_conts.2 ⟨q, hx⟩)
    rw [← hr, ← hp, hg]
    exact getI_yes w h g l t a ha0 ha1 q v (Lib.hid hl) hx hq
  · have hg : getC (conts l) a = none := getC_none (inC_false.2 fun v => not_held hv v)
    rw [← hr, ← hp, hg]
    exact getI_no w h g l t a ha0 ha1 q (Lib.hid hl)
  · have hg : getC (conts l) a = none := getC_none (inC_false.2 fun v => not_held hv v)
    rw [← hr, ← hp, hg]
    exact getI_no w h g l t a ha0 ha1 (-1) (Lib.hid hl)

theorem putI_api {w : World} {h g n : Nat} {c : List (Int × Int)} (t : HTI w h g n c) (a : Int) (ha0 : 0 ≤ a) (ha1 : a ≤ 18446744073709551615) (v : Int) (b : Bool) (hb : (inC c a || decide (c.length < n)) = b) :
    Calls Try.prog 14 #[.pointer (some ⟨h, 0, none⟩), .int .u64 a, (.int .i64 v)] w fun e w' => e = .returned (.bool b) ∧ HTI w' h g n (putEnd c a v b) ∧ But g w w' := by
  have hap := t.ap
  obtain ⟨l, t, o, hn, p⟩ := t
  have hpi := inC_perm p a
  rcases lookI o hn a with ⟨q, v0, hq, hl, hx⟩ | ⟨q, hq, hl, ho, hv, hw⟩ | ⟨hl, hf, hv⟩
  · obtain ⟨o2, R, r1, r2⟩ := put_there o v hq hx
    obtain ⟨r3, r4⟩ := perm_put_there hap v p r1 r2
    have : b = true := by rw [← hb, r4]; rfl
    subst this
    exact (putI_at w h g l t a ha0 ha1 v q true (Lib.hid hl) hq).mono fun e w' ⟨he, t2, hbut⟩ => ⟨he, ⟨_, t2, o2, by rw [List.length_set, hn], r3⟩, hbut⟩
  · obtain ⟨o2, r2⟩ := put_new o ⟨ha0, ha1⟩ v hq ho hv hw
    have hni : inC c a = false := by rw [← hpi]; exact inC_false.2 fun v => not_held hv v
    have hlt := conts_open hq ho
    rw [p.length_eq] at hlt
    have : b = true := by rw [← hb, hni, Bool.false_or]; exact decide_eq_true (by omega)
    subst this
    exact (putI_at w h g l t a ha0 ha1 v q false (Lib.hid hl) hq).mono fun e w' ⟨he, t2, hbut⟩ => ⟨he, ⟨_, t2, o2, by rw [List.length_set, hn], perm_put_new v p hni r2⟩, hbut⟩
  · have hni : inC c a = false := by rw [← hpi]; exact inC_false.2 fun v => not_held hv v
    have hlt := conts_full hf
    rw [p.length_eq] at hlt
    have : b = false := by rw [← hb, hni, Bool.false_or]; exact decide_eq_false (by omega)
    subst this
    exact (putI_full w h g l t a ha0 ha1 v (Lib.hid hl)).mono fun e w' ⟨he, hbel⟩ => ⟨he, ⟨l, t.below hbel, o, hn, p⟩, But.of_below hbel⟩
theorem dropI_api {w : World} {h g n : Nat} {c : List (Int × Int)} (t : HTI w h g n c) (a : Int) (ha0 : 0 ≤ a) (ha1 : a ≤ 18446744073709551615) (b : Bool) (hb : inC c a = b) :
    Calls Try.prog 10 #[.pointer (some ⟨h, 0, none⟩), .int .u64 a] w fun e w' => e = .returned (.bool b) ∧ HTI w' h g n (delC c a) ∧ But g w w' := by
  have hap := t.ap
  obtain ⟨l, t, o, hn, p⟩ := t
  have hpi := inC_perm p a
  have no : inC c a = false → ∀ z, lookFrom l a l.length (hs l.length a) = (z, false) → Calls Try.prog 10 #[.pointer (some ⟨h, 0, none⟩), .int .u64 a] w fun e w' => e = .returned (.bool b) ∧ HTI w' h g n (delC c a) ∧ But g w w' := by
    intro hni z hl
    have : b = false := by rw [← hb, hni]
    subst this
    rw [delC_none hni]
    exact (drop_no w h g l t a ha0 ha1 z (Lib.hid hl)).mono fun e w' ⟨he, hbel⟩ => ⟨he, ⟨l, t.below hbel, o, hn, p⟩, But.of_below hbel⟩
  rcases lookI o hn a with ⟨q, v0, hq, hl, hx⟩ | ⟨q, hq, hl, ho, hv, hw⟩ | ⟨hl, hf, hv⟩
  · have o' : OkT (hs l.length) l := by rw [hn]; exact o
    obtain ⟨o2, r1, r2⟩ := drop_ok o' (fun b => hs_lt _ (by omega) b) hq hx
    obtain ⟨r3, r4⟩ := perm_drop hap p r1
    have : b = true := by rw [← hb, r4]
    subst this
    refine (drop_yes w h g l t a ha0 ha1 q (Lib.hid hl) hq o.2 _ (Lib.hid rfl)).mono fun e w' ⟨he, t2, hbut⟩ => ⟨he, ⟨_, t2, ?_, by rw [r2, hn], r3⟩, hbut⟩
    rw [← hn]; exact o2
  · exact no (by rw [← hpi]; exact inC_false.2 fun v => not_held hv v) q hl
  · exact no (by rw [← hpi]; exact inC_false.2 fun v => not_held hv v) (-1) hl

end Go.Proofs.Ytlklklkjjmlgeaa
