/- A bridge's table in memory, by what it holds; New, Len, Learn, Lookup. -/
import Derived.Test.YtokepfgknffdfaaSlotsApiE
import Derived.Test.YtokepfgknffdfaaIdsRight
namespace Go.Proofs.Ytokepfgknffdfaa
open Go.ChangeShapes Go.WideShapes Go.ChangeAt Go.RowKit
set_option linter.unusedVariables false

/-- At block f lies an Fdb: its table, at blocks h and g, has n places and holds c. -/
def FT (w : World) (f h g n : Nat) (c : List (Int × (Int × Int))) : Prop :=
  Bk w f 55 [.pointer (some ⟨h, 0, none⟩)] ∧ HTE w h g n c ∧ f ≠ h ∧ f ≠ g

theorem FT.keep {w w' : World} {f h g n : Nat} {c : List (Int × (Int × Int))} (t : FT w f h g n c) (k : ∀ b, b = f ∨ b = h ∨ b = g → w'.heap[b]? = w.heap[b]?) : FT w' f h g n c :=
  ⟨(k f (.inl rfl)).trans t.1, t.2.1.keep (fun b hb => k b (.inr hb)), t.2.2⟩
theorem FT.lt {w : World} {f h g n : Nat} {c : List (Int × (Int × Int))} (t : FT w f h g n c) : f < w.heap.size ∧ h < w.heap.size ∧ g < w.heap.size := ⟨t.1.lt, t.2.1.lt.1, t.2.1.lt.2.1⟩
theorem FT.below {w w' : World} {f h g n : Nat} {c : List (Int × (Int × Int))} (t : FT w f h g n c) (hb : Below w.heap.size w w') : FT w' f h g n c :=
  t.keep fun b hbb => hb.block b (by have := t.lt; rcases hbb with rfl | rfl | rfl <;> omega)
theorem FT.drew {w : World} {f h g n : Nat} {c : List (Int × (Int × Int))} (t : FT w f h g n c) : FT w.drew f h g n c := t.keep fun _ _ => rfl
theorem FT.cell0 {w : World} {f h g n : Nat} {c : List (Int × (Int × Int))} (t : FT w f h g n c) : w.cell? ⟨f, 0, none⟩ = some (.pointer (some ⟨h, 0, none⟩)) := t.1.cell 0

/-- What a new one is. -/
def FNew (w : World) (n : Nat) (e : Ending) (w' : World) : Prop :=
  ∃ f h g, e = .returned (.pointer (some ⟨f, 0, none⟩)) ∧ (w.heap.size ≤ f ∧ w.heap.size ≤ h ∧ w.heap.size ≤ g) ∧ FT w' f h g n [] ∧ Below w.heap.size w w'

theorem fnew_is (k : Int) (n : Nat) (hn : min (max k 0) 64 = n) (w : World) : Calls Try.prog 9 #[.int .i64 k] w (FNew w n) := by
  have H := Lib.hid (newE_api k n hn w)
  clear hn
  go_enter Try.func9, Try.ntmps9
  go_wp2_with fail
  (with_reducible refine H.out.mono ?_); rintro e w1 ⟨rfl, t, hb⟩
  have T := Lib.hid t
  have hlt := t.lt
  clear t H
  go_wp2
  go_ret
  have nb : Below w1.heap.size w1 (w1.alloc (.cells #[.pointer (some ⟨w.heap.size + 1, 0, none⟩)] 55)) := (Below.refl _ _).alloc (Nat.le_refl _) _
  exact ⟨_, _, _, rfl, ⟨hb.size, by omega, Nat.le_refl _⟩, ⟨heap_alloc_new w1 _, T.out.below nb, by omega, by omega⟩, hb.trans (nb.mono hb.size)⟩

theorem flen_is {w : World} {f h g n : Nat} {c : List (Int × (Int × Int))} (t : FT w f h g n c) :
    Calls Try.prog 19 #[.pointer (some ⟨f, 0, none⟩)] w fun e w' => e = .returned (.int .i64 (c.length : Nat)) ∧ Below w.heap.size w w' := by
  have c0 := t.cell0
  have H := Lib.hid (lenE_api t.2.1)
  clear t
  go_enter Try.func19, Try.ntmps19
  go_wp2_with fail
  (with_reducible refine H.out.mono ?_); rintro e w1 ⟨rfl, hb⟩
  go_wp2
  go_ret
  exact ⟨rfl, hb⟩

/-- The port of what was found. -/
def portO : Option (Int × Int) → Int
  | some v => v.1
  | none => 0

theorem flookup_is {w : World} {f h g n : Nat} {c : List (Int × (Int × Int))} (t : FT w f h g n c) (a : Int) (ha0 : 0 ≤ a) (ha1 : a ≤ 18446744073709551615) (p : Int) (b : Bool) (hp : Hid (portO (getC c a) = p)) (hb : Hid (inC c a = b)) :
    Calls Try.prog 16 #[.pointer (some ⟨f, 0, none⟩), .int .u64 a] w fun e w' => e = .returned (.tuple #[.int .i64 p, .bool b]) ∧ Below w.heap.size w w' := by
  have c0 := t.cell0
  have hs := getC_some c a
  rw [hb.out] at hs
  obtain ⟨r, hr⟩ : ∃ r, getC c a = r := ⟨_, rfl⟩
  have H := Lib.hid (getE_api t.2.1 a ha0 ha1 r hr)
  have hp' := hp.out
  rw [hr] at hs hp'
  clear t hp hb hr
  match r, hs, hp', H with
  | none, hs, hp', H =>
    have E1 : Hid ((0 : Int) = p) := hp'
    have E2 : Hid (false = b) := hs
    have H2 : Hid (Calls Try.prog 27 #[.pointer (some ⟨h, 0, none⟩), .int .u64 a] w fun e w' => e = .returned (.tuple #[.agg #[.int .i64 0, .int .i64 0], .bool false]) ∧ Below w.heap.size w w') := H
    clear hs hp' H
    go_enter Try.func16, Try.ntmps16
    go_wp2_with fail
    (with_reducible refine H2.out.mono ?_); rintro e w1 ⟨rfl, hb⟩
    have hs1 := hb.size
    go_wp2
    go_ret2
    exact ⟨ret_ib E1.out E2.out, hb.alloc hs1 _⟩
  | some (x, y), hs, hp', H =>
    have E1 : Hid (x = p) := hp'
    have E2 : Hid (true = b) := hs
    have H2 : Hid (Calls Try.prog 27 #[.pointer (some ⟨h, 0, none⟩), .int .u64 a] w fun e w' => e = .returned (.tuple #[.agg #[.int .i64 x, .int .i64 y], .bool true]) ∧ Below w.heap.size w w') := H
    clear hs hp' H
    go_enter Try.func16, Try.ntmps16
    go_wp2_with fail
    (with_reducible refine H2.out.mono ?_); rintro e w1 ⟨rfl, hb⟩
    have hs1 := hb.size
    go_wp2
    go_ret2
    exact ⟨ret_ib E1.out E2.out, hb.alloc hs1 _⟩

/-- Whether an address is learnt. -/
def learnB (c : List (Int × (Int × Int))) (n : Nat) (a : Int) : Bool := rightB a && (inC c a || decide (c.length < n))

theorem flearn_is {w : World} {f h g n : Nat} {c : List (Int × (Int × Int))} (t : FT w f h g n c) (a : Int) (ha0 : 0 ≤ a) (ha1 : a ≤ 18446744073709551615) (port : Int) (b : Bool) (hb : Hid (learnB c n a = b)) :
    Calls Try.prog 11 #[.pointer (some ⟨f, 0, none⟩), .int .u64 a, .int .i64 port] w fun e w' => e = .returned (.bool b) ∧ FT w' f h g n (putEnd c a (port, 0) b) ∧ But g w w' := by
  have c0 := t.cell0
  have T := Lib.hid t
  have hR := fun W => Lib.hid (right_any a ha0 ha1 W)
  have hb' := hb.out
  unfold learnB at hb'
  clear t hb
  cases hr : rightB a with
  | false =>
    rw [hr] at hb' hR
    have E : Hid (false = b) := hb'
    clear hb' hr
    go_enter Try.func11, Try.ntmps11
    go_wp2_with ((with_reducible refine (hR _).out.mono ?_); rintro e w' ⟨rfl, rfl⟩)
    go_ret
    refine ⟨ret_bool E.out, ?_, But.refl _ _⟩
    rw [← E.out]
    exact T.out
  | true =>
    rw [hr] at hb' hR
    rw [Bool.true_and] at hb'
    have H := Lib.hid (putE_api T.out.2.1 a ha0 ha1 (port, 0) b hb')
    dsimp only at H
    clear hb' hr
    go_enter Try.func11, Try.ntmps11
    go_wp2_with fail
    (with_reducible refine (hR _).out.mono ?_); rintro e w1 ⟨rfl, rfl⟩
    go_wp2_with fail
    (with_reducible refine H.out.mono ?_); rintro e w1 ⟨rfl, ht, hb⟩
    have HT := Lib.hid ht
    clear ht H
    go_wp2
    go_ret
    refine ⟨rfl, ⟨?_, HT.out, T.out.2.2⟩, hb⟩
    exact (hb.block T.out.1.lt (by have := T.out.2.2.2; omega)).trans T.out.1

end Go.Proofs.Ytokepfgknffdfaa
