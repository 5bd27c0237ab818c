/- Whether two frames are alike: the program's answer, and the document's. -/
import Derived.Test.YtneofpgpinkamaaFrameBase
namespace Go.Proofs.Ytneofpgpinkamaa
open Go.ChangeShapes Go.WideShapes Go.ChangeAt Go.RowKit
set_option linter.unusedVariables false

/-- The same bytes? -/
def sameL (l m : List UInt8) : Bool := l == m

theorem sameL_iff (l m : List UInt8) : sameL l m = true ↔ l = m := by
  unfold sameL
  exact beq_iff_eq

theorem sameL_self (l : List UInt8) : sameL l l = true := (sameL_iff l l).2 rfl

/-- The same frames? -/
def sameF (t f k : Int) (l : List UInt8) (t' f' k' : Int) (l' : List UInt8) : Bool := t == t' && f == f' && k == k' && sameL l l'

theorem sameF_self (t f k : Int) (l : List UInt8) : sameF t f k l t f k l = true := by simp [sameF, sameL_self]

theorem equal_any (A B : Option Addr) (n c m d : Nat) (l l' : List UInt8) (lo hi lo' hi' : Nat) (hl : Hid (l.length = n)) (hl' : Hid (l'.length = m)) (w : World) (hr : RB w A lo hi l) (hr' : RB w B lo' hi' l') :
    Calls Try.prog 29 #[.slice A n c, .slice B m d] w fun e w' => e = .returned (.bool (sameL l l')) ∧ w = w' := by
  have c1 := conv_any hr n c hl
  have c2 := conv_any hr' m d hl'
  go_enter Try.func29, Try.ntmps29
  go_wp2
  go_ret
  exact ⟨rfl, rfl⟩

theorem same_any (t f k : Int) (A : Option Addr) (n c : Nat) (l : List UInt8) (t' f' k' : Int) (B : Option Addr) (m d : Nat) (l' : List UInt8) (hl : Hid (l.length = n)) (hl' : Hid (l'.length = m)) (w : World)
    (hr : RB w A 0 w.heap.size l) (hr' : RB w B 0 w.heap.size l') :
    Calls Try.prog 15 #[.agg #[.int .u64 t, .int .u64 f, .int .u16 k, .slice A n c], .agg #[.int .u64 t', .int .u64 f', .int .u16 k', .slice B m d]] w fun e w' => e = .returned (.bool (sameF t f k l t' f' k' l')) ∧ Below w.heap.size w w' := by
  unfold sameF
  cases h1 : t == t'
  · go_enter Try.func15, Try.ntmps15
    go_wp2
    go_ret
    exact ⟨rfl, (below_new (Nat.le_refl _)).alloc (by simp) _⟩
  · cases h2 : f == f'
    · go_enter Try.func15, Try.ntmps15
      go_wp2
      go_ret
      exact ⟨rfl, (below_new (Nat.le_refl _)).alloc (by simp) _⟩
    · cases h3 : k == k'
      · go_enter Try.func15, Try.ntmps15
        go_wp2
        go_ret
        exact ⟨rfl, (below_new (Nat.le_refl _)).alloc (by simp) _⟩
      · go_enter Try.func15, Try.ntmps15
        go_wp2_with (go_at_call 29; (with_reducible refine (equal_any A B n c m d l l' 0 w.heap.size 0 w.heap.size hl hl' _ (hr.below ((below_new (Nat.le_refl _)).alloc (by simp) _) (Nat.le_refl _)) (hr'.below ((below_new (Nat.le_refl _)).alloc (by simp) _) (Nat.le_refl _))).mono ?_); rintro e w' ⟨rfl, rfl⟩)
        go_ret
        exact ⟨rfl, (below_new (Nat.le_refl _)).alloc (by simp) _⟩

theorem refsame_any (t f k : Int) (A : Option Addr) (n c : Nat) (l : List UInt8) (t' f' k' : Int) (B : Option Addr) (m d : Nat) (l' : List UInt8) (hl : Hid (l.length = n)) (hl' : Hid (l'.length = m)) (w : World)
    (hr : RB w A 0 w.heap.size l) (hr' : RB w B 0 w.heap.size l') :
    Calls Try.prog 16 #[.agg #[.int .u64 t, .int .u64 f, .int .u16 k, .slice A n c], .agg #[.int .u64 t', .int .u64 f', .int .u16 k', .slice B m d]] w fun e w' => e = .returned (.bool (sameF t f k l t' f' k' l')) ∧ Below w.heap.size w w' := by
  have c1 := conv_any (hr.below ((below_new (Nat.le_refl _)).alloc (by simp) (.cells #[.int .u64 t', .int .u64 f', .int .u16 k', .slice B m d] 27) : Below w.heap.size w ((w.alloc (.cells #[.int .u64 t, .int .u64 f, .int .u16 k, .slice A n c] 27)).alloc _)) (Nat.le_refl _)) n c hl
  have c2 := conv_any (hr'.below ((below_new (Nat.le_refl _)).alloc (by simp) (.cells #[.int .u64 t', .int .u64 f', .int .u16 k', .slice B m d] 27) : Below w.heap.size w ((w.alloc (.cells #[.int .u64 t, .int .u64 f, .int .u16 k, .slice A n c] 27)).alloc _)) (Nat.le_refl _)) m d hl'
  unfold sameF
  cases h1 : t == t'
  · go_enter Try.func16, Try.ntmps16
    go_wp2
    go_ret
    exact ⟨rfl, (below_new (Nat.le_refl _)).alloc (by simp) _⟩
  · cases h2 : f == f'
    · go_enter Try.func16, Try.ntmps16
      go_wp2
      go_ret
      exact ⟨rfl, (below_new (Nat.le_refl _)).alloc (by simp) _⟩
    · cases h3 : k == k'
      · go_enter Try.func16, Try.ntmps16
        go_wp2
        go_ret
        exact ⟨rfl, (below_new (Nat.le_refl _)).alloc (by simp) _⟩
      · go_enter Try.func16, Try.ntmps16
        go_wp2
        go_ret
        exact ⟨rfl, (below_new (Nat.le_refl _)).alloc (by simp) _⟩

end Go.Proofs.Ytneofpgpinkamaa
