/- Tellings compared, as numbers: no program. -/
import Derived.Test.YtkdbhioneoknjaaRows
namespace Go.Proofs.Ytkdbhioneoknjaa
set_option linter.unusedVariables false

/-- The order of two numbers. -/
def cmpI (x y : Int) : Int := if x < y then -1 else if y < x then 1 else 0
/-- The first that isn't 0. -/
def orI (x y : Int) : Int := if x = 0 then y else x

theorem cmpI_lt {x y : Int} (h : x < y) : cmpI x y = -1 := if_pos h
theorem cmpI_eq (x : Int) : cmpI x x = 0 := by unfold cmpI; rw [if_neg (by omega), if_neg (by omega)]
theorem cmpI_gt {x y : Int} (h : y < x) : cmpI x y = 1 := by unfold cmpI; rw [if_neg (by omega), if_pos h]
theorem cmpI_cases (x y : Int) : (x < y ∧ cmpI x y = -1) ∨ (x = y ∧ cmpI x y = 0) ∨ (y < x ∧ cmpI x y = 1) := by
  rcases Int.lt_trichotomy x y with h | h | h
  · exact .inl ⟨h, cmpI_lt h⟩
  · subst h; exact .inr (.inl ⟨rfl, cmpI_eq x⟩)
  · exact .inr (.inr ⟨h, cmpI_gt h⟩)

/-- A telling. -/
structure Vec where
  r : Int
  c : Int
  b : Int
  p : Int

/-- All but the port; all. -/
def wpI (x y : Vec) : Int := orI (cmpI x.r y.r) (orI (cmpI x.c y.c) (cmpI x.b y.b))
def cmpV (x y : Vec) : Int := orI (wpI x y) (cmpI x.p y.p)
/-- A sum, at most the greatest. -/
def farI (a b : Int) : Int := min (a + b) 4294967295
/-- Behind a port of some cost. -/
def viaV (x : Vec) (k : Int) : Vec := ⟨x.r, farI x.c k, x.b, x.p⟩
/-- Does x take the place of y? -/
def supB (x y : Vec) (own : Int) : Bool := if wpI x y = 0 then (!decide (x.b = own)) || decide (x.p ≤ y.p) else decide (wpI x y < 0)
/-- The document's: is x the better one? -/
def lessB (x y : Vec) : Bool :=
  if x.r = y.r then if x.c = y.c then if x.b = y.b then decide (x.p < y.p) else decide (x.b < y.b) else decide (x.c < y.c) else decide (x.r < y.r)

/-- A telling's numbers are in their ranges. -/
def VB (x : Vec) : Prop := (0 ≤ x.r ∧ x.r < 18446744073709551616) ∧ (0 ≤ x.c ∧ x.c < 4294967296) ∧ (0 ≤ x.b ∧ x.b < 18446744073709551616) ∧ (0 ≤ x.p ∧ x.p < 65536)

theorem farI_bd {a b : Int} (ha : 0 ≤ a) (hb : 0 ≤ b) : 0 ≤ farI a b ∧ farI a b < 4294967296 := by unfold farI; omega
theorem VB.via {x : Vec} (h : VB x) {k : Int} (hk : 0 ≤ k) : VB (viaV x k) := ⟨h.1, farI_bd h.2.1.1 hk, h.2.2.1, h.2.2.2⟩

/-- Where two tellings part. -/
theorem wpI_cases (x y : Vec) :
    ((x.r < y.r ∨ x.r = y.r ∧ (x.c < y.c ∨ x.c = y.c ∧ x.b < y.b)) ∧ wpI x y = -1) ∨
    ((x.r = y.r ∧ x.c = y.c ∧ x.b = y.b) ∧ wpI x y = 0) ∨
    ((y.r < x.r ∨ x.r = y.r ∧ (y.c < x.c ∨ x.c = y.c ∧ y.b < x.b)) ∧ wpI x y = 1) := by
  unfold wpI orI
  rcases cmpI_cases x.r y.r with ⟨h, e⟩ | ⟨h, e⟩ | ⟨h, e⟩ <;> rcases cmpI_cases x.c y.c with ⟨h2, e2⟩ | ⟨h2, e2⟩ | ⟨h2, e2⟩ <;> rcases cmpI_cases x.b y.b with ⟨h3, e3⟩ | ⟨h3, e3⟩ | ⟨h3, e3⟩ <;>
    rw [e, e2, e3] <;> simp <;> omega

theorem cmpV_cases (x y : Vec) :
    ((wpI x y = -1 ∨ wpI x y = 0 ∧ x.p < y.p) ∧ cmpV x y = -1) ∨ (wpI x y = 0 ∧ x.p = y.p ∧ cmpV x y = 0) ∨ ((wpI x y = 1 ∨ wpI x y = 0 ∧ y.p < x.p) ∧ cmpV x y = 1) := by
  unfold cmpV orI
  rcases wpI_cases x y with ⟨_, e⟩ | ⟨_, e⟩ | ⟨_, e⟩ <;> rcases cmpI_cases x.p y.p with ⟨h3, e3⟩ | ⟨h3, e3⟩ | ⟨h3, e3⟩ <;>
    rw [e, e3] <;> simp [h3] <;> omega

theorem cmpV_anti (x y : Vec) : cmpV x y = -cmpV y x := by
  have := wpI_cases x y; have := wpI_cases y x; have := cmpV_cases x y; have := cmpV_cases y x
  omega
theorem cmpV_zero (x y : Vec) : cmpV x y = 0 ↔ x = y := by
  have h1 := wpI_cases x y; have h2 := cmpV_cases x y
  constructor
  · intro h; cases x; cases y; simp only [Vec.mk.injEq] at *; omega
  · rintro rfl; omega
theorem cmpV_trans {x y z : Vec} (h1 : cmpV x y ≤ 0) (h2 : cmpV y z ≤ 0) : cmpV x z ≤ 0 := by
  have := wpI_cases x y; have := wpI_cases y z; have := wpI_cases x z; have := cmpV_cases x y; have := cmpV_cases y z; have := cmpV_cases x z
  omega
theorem cmpV_via {x : Vec} (h : VB x) {k : Int} (hk : 0 ≤ k) : 0 ≤ cmpV (viaV x k) x ∧ cmpV x (viaV x k) ≤ 0 := by
  have h1 := wpI_cases x (viaV x k); have h2 := wpI_cases (viaV x k) x; have := cmpV_cases x (viaV x k); have := cmpV_cases (viaV x k) x
  obtain ⟨_, ⟨_, _⟩, _, _⟩ := h
  simp only [viaV, farI] at *
  omega
theorem lessB_iff (x y : Vec) : lessB x y = true ↔ (x.r < y.r ∨ x.r = y.r ∧ (x.c < y.c ∨ x.c = y.c ∧ (x.b < y.b ∨ x.b = y.b ∧ x.p < y.p))) := by
  unfold lessB
  split
  · split
    · split
      · simp only [decide_eq_true_eq]; omega
      · simp only [decide_eq_true_eq]; omega
    · simp only [decide_eq_true_eq]; omega
  · simp only [decide_eq_true_eq]; omega
theorem lessB_no (x y : Vec) (h : lessB x y = false) : ¬ (x.r < y.r ∨ x.r = y.r ∧ (x.c < y.c ∨ x.c = y.c ∧ (x.b < y.b ∨ x.b = y.b ∧ x.p < y.p))) := by
  rw [← lessB_iff, h]; decide
/-- The law's 'want'. -/
def wantI (x y : Vec) : Int := if lessB y x = true then 1 else if lessB x y = true then -1 else 0
theorem want_is (x y : Vec) : wantI x y = cmpV x y := by
  have h1 := wpI_cases x y; have h2 := cmpV_cases x y
  unfold wantI
  cases e : lessB y x with
  | true => have := (lessB_iff y x).1 e; rw [if_pos rfl]; omega
  | false =>
    have n := lessB_no y x e
    cases f : lessB x y with
    | true => have := (lessB_iff x y).1 f; rw [if_neg (by decide), if_pos rfl]; omega
    | false => have := lessB_no x y f; rw [if_neg (by decide), if_neg (by decide)]; omega

/-- What takes the place of what, as the document says it. -/
def near3 (x y : Vec) : Bool := decide (x.r < y.r) || (decide (x.r = y.r) && decide (x.c < y.c)) || ((decide (x.r = y.r) && decide (x.c = y.c)) && decide (x.b < y.b))
def same3 (x y : Vec) : Bool := (decide (x.r = y.r) && decide (x.c = y.c)) && decide (x.b = y.b)
theorem same3_iff (x y : Vec) : same3 x y = true ↔ (x.r = y.r ∧ x.c = y.c ∧ x.b = y.b) := by unfold same3; simp [and_assoc]
theorem same3_wp (x y : Vec) : same3 x y = decide (wpI x y = 0) := by
  have h1 := wpI_cases x y; have h2 := same3_iff x y
  rw [Bool.eq_iff_iff, h2, decide_eq_true_eq]; omega
theorem supB_lt {x y : Vec} {o : Int} (h : wpI x y = -1) : supB x y o = true := by unfold supB; rw [if_neg (by omega)]; simp [h]
theorem supB_gt {x y : Vec} {o : Int} (h : wpI x y = 1) : supB x y o = false := by unfold supB; rw [if_neg (by omega)]; simp [h]
theorem supB_eq {x y : Vec} {o : Int} (h : wpI x y = 0) : supB x y o = ((!decide (x.b = o)) || decide (x.p ≤ y.p)) := by unfold supB; rw [if_pos h]
theorem supB_self (x : Vec) (o : Int) : supB x x o = true := by
  have h1 := wpI_cases x x
  rw [supB_eq (by omega)]; simp
theorem cmpV_not0 {x y : Vec} (h : wpI x y ≠ 0) : cmpV x y = wpI x y := by
  have := wpI_cases x y; have := cmpV_cases x y; omega

end Go.Proofs.Ytkdbhioneoknjaa
