/- What bytes tell: lists and numbers alone. -/
import Derived.Test.YtgkamfnhohcfbaaBpduConfig
namespace Go.Proofs.Ytgkamfnhohcfbaa
open Go Go.RowKit
set_option linter.unusedVariables false

/-- The number in so many bytes from a place on. -/
def fld (l : List UInt8) (p k : Nat) : Int := numU ((l.drop p).take k)

/-- What is wrong with bytes. -/
def gE (l : List UInt8) : Int :=
  if l.length < 4 then 2 else if fld l 0 3 ≠ 0 ∨ fld l 3 1 ≠ 0 ∧ fld l 3 1 ≠ 128 then 3 else if fld l 3 1 = 128 then 0 else if l.length < 35 then 2 else if 2147483648 ≤ fld l 13 4 then 4 else if fld l 29 2 ≤ fld l 27 2 then 5 else 0

/-- They tell a TCN; a configuration. -/
def gTc (l : List UInt8) : Bool := gE l == 0 && fld l 3 1 == 128
def gCf (l : List UInt8) : Bool := gE l == 0 && fld l 3 1 == 0
def gCh (l : List UInt8) : Bool := gCf l && fld l 4 1 % 2 == 1
def gAk (l : List UInt8) : Bool := gCf l && decide (128 ≤ fld l 4 1)
def gRo (l : List UInt8) : Int := if gCf l then fld l 5 8 else 0
def gCo (l : List UInt8) : Int := if gCf l then fld l 13 4 else 0
def gBr (l : List UInt8) : Int := if gCf l then fld l 17 8 else 0
def gPo (l : List UInt8) : Int := if gCf l then fld l 25 2 else 0
def gAg (l : List UInt8) : Int := if gCf l then fld l 27 2 else 0
def gMa (l : List UInt8) : Int := if gCf l then fld l 29 2 else 0
def gHe (l : List UInt8) : Int := if gCf l then fld l 31 2 else 0
def gDe (l : List UInt8) : Int := if gCf l then fld l 33 2 else 0

theorem g_bad (l : List UInt8) (h : gE l ≠ 0) : gTc l = false ∧ gCh l = false ∧ gAk l = false ∧ gRo l = 0 ∧ gCo l = 0 ∧ gBr l = 0 ∧ gPo l = 0 ∧ gAg l = 0 ∧ gMa l = 0 ∧ gHe l = 0 ∧ gDe l = 0 := by
  have e : (gE l == 0) = false := by simpa using h
  have c : gCf l = false := by unfold gCf; rw [e]; rfl
  refine ⟨by unfold gTc; rw [e]; rfl, by unfold gCh; rw [c]; rfl, by unfold gAk; rw [c]; rfl, ?_, ?_, ?_, ?_, ?_, ?_, ?_, ?_⟩
  · unfold gRo; rw [c]; rfl
  · unfold gCo; rw [c]; rfl
  · unfold gBr; rw [c]; rfl
  · unfold gPo; rw [c]; rfl
  · unfold gAg; rw [c]; rfl
  · unfold gMa; rw [c]; rfl
  · unfold gHe; rw [c]; rfl
  · unfold gDe; rw [c]; rfl

theorem g_tcn (l : List UInt8) (h : gE l = 0) (k : fld l 3 1 = 128) : gTc l = true ∧ gCh l = false ∧ gAk l = false ∧ gRo l = 0 ∧ gCo l = 0 ∧ gBr l = 0 ∧ gPo l = 0 ∧ gAg l = 0 ∧ gMa l = 0 ∧ gHe l = 0 ∧ gDe l = 0 := by
  have c : gCf l = false := by unfold gCf; rw [k]; simp
  refine ⟨by unfold gTc; rw [h, k]; rfl, by unfold gCh; rw [c]; rfl, by unfold gAk; rw [c]; rfl, ?_, ?_, ?_, ?_, ?_, ?_, ?_, ?_⟩
  · unfold gRo; rw [c]; rfl
  · unfold gCo; rw [c]; rfl
  · unfold gBr; rw [c]; rfl
  · unfold gPo; rw [c]; rfl
  · unfold gAg; rw [c]; rfl
  · unfold gMa; rw [c]; rfl
  · unfold gHe; rw [c]; rfl
  · unfold gDe; rw [c]; rfl

theorem g_conf (l : List UInt8) (h : gE l = 0) (k : fld l 3 1 = 0) : gTc l = false ∧ gCh l = (fld l 4 1 % 2 == 1) ∧ gAk l = decide (128 ≤ fld l 4 1) ∧ gRo l = fld l 5 8 ∧ gCo l = fld l 13 4 ∧ gBr l = fld l 17 8 ∧ gPo l = fld l 25 2 ∧ gAg l = fld l 27 2 ∧ gMa l = fld l 29 2 ∧ gHe l = fld l 31 2 ∧ gDe l = fld l 33 2 := by
  have c : gCf l = true := by unfold gCf; rw [h, k]; rfl
  refine ⟨by unfold gTc; rw [k]; simp, by unfold gCh; rw [c]; simp, by unfold gAk; rw [c]; simp, ?_, ?_, ?_, ?_, ?_, ?_, ?_, ?_⟩
  · unfold gRo; rw [c]; rfl
  · unfold gCo; rw [c]; rfl
  · unfold gBr; rw [c]; rfl
  · unfold gPo; rw [c]; rfl
  · unfold gAg; rw [c]; rfl
  · unfold gMa; rw [c]; rfl
  · unfold gHe; rw [c]; rfl
  · unfold gDe; rw [c]; rfl

/-- The ways of 'Get', by what is wrong. -/
theorem gE_short (l : List UInt8) (h : l.length < 4) : gE l = 2 := by unfold gE; rw [if_pos h]
theorem gE_form (l : List UInt8) (h : ¬ l.length < 4) (k : fld l 0 3 ≠ 0 ∨ fld l 3 1 ≠ 0 ∧ fld l 3 1 ≠ 128) : gE l = 3 := by unfold gE; rw [if_neg h, if_pos k]
theorem gE_tcn (l : List UInt8) (h : ¬ l.length < 4) (b : fld l 0 3 = 0) (k : fld l 3 1 = 128) : gE l = 0 := by
  unfold gE; rw [if_neg h, if_neg (by omega), if_pos k]
theorem gE_few (l : List UInt8) (h : ¬ l.length < 4) (b : fld l 0 3 = 0) (k : fld l 3 1 = 0) (g : l.length < 35) : gE l = 2 := by
  unfold gE; rw [if_neg h, if_neg (by omega), if_neg (by omega), if_pos g]
theorem gE_far (l : List UInt8) (g : ¬ l.length < 35) (b : fld l 0 3 = 0) (k : fld l 3 1 = 0) (c : 2147483648 ≤ fld l 13 4) : gE l = 4 := by
  unfold gE; rw [if_neg (by omega), if_neg (by omega), if_neg (by omega), if_neg g, if_pos c]
theorem gE_old (l : List UInt8) (g : ¬ l.length < 35) (b : fld l 0 3 = 0) (k : fld l 3 1 = 0) (c : ¬ 2147483648 ≤ fld l 13 4) (a : fld l 29 2 ≤ fld l 27 2) : gE l = 5 := by
  unfold gE; rw [if_neg (by omega), if_neg (by omega), if_neg (by omega), if_neg g, if_neg c, if_pos a]
theorem gE_good (l : List UInt8) (g : ¬ l.length < 35) (b : fld l 0 3 = 0) (k : fld l 3 1 = 0) (c : ¬ 2147483648 ≤ fld l 13 4) (a : ¬ fld l 29 2 ≤ fld l 27 2) : gE l = 0 := by
  unfold gE; rw [if_neg (by omega), if_neg (by omega), if_neg (by omega), if_neg g, if_neg c, if_neg a]

theorem gE_lo (l : List UInt8) : 0 ≤ gE l ∧ gE l ≤ 5 := by
  unfold gE
  repeat' split
  all_goals omega

theorem numU_pw (k : Nat) : ∀ l : List UInt8, l.length ≤ k → numU l < (256 : Int) ^ k := by
  induction k with
  | zero =>
    intro l h
    obtain rfl : l = [] := List.eq_nil_of_length_eq_zero (by omega)
    decide
  | succ k ih =>
    intro l h
    rcases List.eq_nil_or_concat l with rfl | ⟨m, c, rfl⟩
    · have := ih [] (by simp)
      have e : numU [] = 0 := rfl
      rw [e] at this ⊢
      rw [Int.pow_succ]; omega
    · rw [List.concat_eq_append] at h ⊢
      have hm := ih m (by simp at h; omega)
      rw [numU_snoc, Int.pow_succ]
      have h0 := numU_lo m
      have hc := c.toNat_lt
      omega

theorem fld_lo (l : List UInt8) (p k : Nat) : 0 ≤ fld l p k := (numU_lo _).1
theorem fld_pw (l : List UInt8) (p k : Nat) : fld l p k < (256 : Int) ^ k := numU_pw k _ (by simp; omega)
theorem fld1 (l : List UInt8) (p : Nat) : 0 ≤ fld l p 1 ∧ fld l p 1 < 256 := ⟨fld_lo _ _ _, fld_pw l p 1⟩
theorem fld2 (l : List UInt8) (p : Nat) : 0 ≤ fld l p 2 ∧ fld l p 2 < 65536 := ⟨fld_lo _ _ _, fld_pw l p 2⟩
theorem fld3 (l : List UInt8) (p : Nat) : 0 ≤ fld l p 3 ∧ fld l p 3 < 16777216 := ⟨fld_lo _ _ _, fld_pw l p 3⟩
theorem fld4 (l : List UInt8) (p : Nat) : 0 ≤ fld l p 4 ∧ fld l p 4 < 4294967296 := ⟨fld_lo _ _ _, fld_pw l p 4⟩
theorem fld8 (l : List UInt8) (p : Nat) : 0 ≤ fld l p 8 ∧ fld l p 8 < 18446744073709551616 := ⟨fld_lo _ _ _, fld_pw l p 8⟩

theorem fld_take (l : List UInt8) (p k n : Nat) (h : p + k ≤ n) : fld (l.take n) p k = fld l p k := by
  unfold fld
  rw [List.drop_take, List.take_take, Nat.min_eq_left (by omega)]

theorem nV_pw (l : List UInt8) (s : Bool) (k : Nat) : 0 ≤ nV l s k ∧ nV l s k < (256 : Int) ^ k := by
  refine ⟨(nV_lo l s k).1, ?_⟩
  unfold nV
  split
  · exact Int.pow_pos (by decide)
  · exact numU_pw k _ (by simp; omega)

/-- A number read where there is enough. -/
theorem nr_ok (y : List UInt8) (p k q : Nat) (hq : q = p + k) (h : q ≤ y.length) : NR (y.drop p) false k (fld y p k) (y.drop q) false := by
  subst hq
  have e : ¬ ((false : Bool) = true ∨ (y.drop p).length < k) := by simp; omega
  refine ⟨if_neg e, ?_, if_neg e⟩
  rw [← List.drop_drop]
  exact if_neg e

theorem nr_short {l l' : List UInt8} {s s' : Bool} {k : Nat} {v : Int} (h : NR l s k v l' s') (hs : s' = false) : s = false ∧ k ≤ l.length ∧ l'.length = l.length - k := by
  obtain ⟨h1, h2, h3⟩ := h
  subst hs
  have e : ¬ (s = true ∨ l.length < k) := by
    intro hc
    rw [nS, if_pos hc] at h3
    cases h3
  rw [nL, if_neg e] at h2
  refine ⟨?_, ?_, by rw [← h2]; simp⟩
  · cases s
    · rfl
    · exact absurd (.inl rfl) e
  · exact Nat.le_of_not_lt fun q => e (.inr q)

/-- The two bits of flags. -/
theorem flag_bits : ∀ n : Fin 256, (bits .and .u64 ((n.val : Nat) : Int) 1 != 0) = (((n.val : Nat) : Int) % 2 == 1) ∧ (bits .and .u64 ((n.val : Nat) : Int) 128 != 0) = decide (128 ≤ ((n.val : Nat) : Int)) := by decide +kernel

theorem flag_any (v : Int) (h0 : 0 ≤ v) (h1 : v < 256) : (bits .and .u64 v 1 != 0) = (v % 2 == 1) ∧ (bits .and .u64 v 128 != 0) = decide (128 ≤ v) := by
  obtain ⟨n, rfl⟩ : ∃ n : Nat, v = n := ⟨v.toNat, by omega⟩
  exact flag_bits ⟨n, by omega⟩

/-- To a port: its own. -/
def fOwn (l : List UInt8) (b p : Int) : Bool := gCf l && (gBr l == b && gPo l == p)
def fE (l : List UInt8) (b p : Int) : Int := if fOwn l b p then 6 else gE l
def fTc (l : List UInt8) (b p : Int) : Bool := !fOwn l b p && gTc l
def fCh (l : List UInt8) (b p : Int) : Bool := !fOwn l b p && gCh l
def fAk (l : List UInt8) (b p : Int) : Bool := !fOwn l b p && gAk l
def fRo (l : List UInt8) (b p : Int) : Int := if fOwn l b p then 0 else gRo l
def fCo (l : List UInt8) (b p : Int) : Int := if fOwn l b p then 0 else gCo l
def fBr (l : List UInt8) (b p : Int) : Int := if fOwn l b p then 0 else gBr l
def fPo (l : List UInt8) (b p : Int) : Int := if fOwn l b p then 0 else gPo l
def fAg (l : List UInt8) (b p : Int) : Int := if fOwn l b p then 0 else gAg l
def fMa (l : List UInt8) (b p : Int) : Int := if fOwn l b p then 0 else gMa l
def fHe (l : List UInt8) (b p : Int) : Int := if fOwn l b p then 0 else gHe l
def fDe (l : List UInt8) (b p : Int) : Int := if fOwn l b p then 0 else gDe l

theorem f_own (l : List UInt8) (b p : Int) (h : fOwn l b p = true) : fE l b p = 6 ∧ fTc l b p = false ∧ fCh l b p = false ∧ fAk l b p = false ∧ fRo l b p = 0 ∧ fCo l b p = 0 ∧ fBr l b p = 0 ∧ fPo l b p = 0 ∧ fAg l b p = 0 ∧ fMa l b p = 0 ∧ fHe l b p = 0 ∧ fDe l b p = 0 := by
  refine ⟨?_, ?_, ?_, ?_, ?_, ?_, ?_, ?_, ?_, ?_, ?_, ?_⟩
  · unfold fE; rw [h]; rfl
  · unfold fTc; rw [h]; rfl
  · unfold fCh; rw [h]; rfl
  · unfold fAk; rw [h]; rfl
  · unfold fRo; rw [h]; rfl
  · unfold fCo; rw [h]; rfl
  · unfold fBr; rw [h]; rfl
  · unfold fPo; rw [h]; rfl
  · unfold fAg; rw [h]; rfl
  · unfold fMa; rw [h]; rfl
  · unfold fHe; rw [h]; rfl
  · unfold fDe; rw [h]; rfl

theorem f_not (l : List UInt8) (b p : Int) (h : fOwn l b p = false) : fE l b p = gE l ∧ fTc l b p = gTc l ∧ fCh l b p = gCh l ∧ fAk l b p = gAk l ∧ fRo l b p = gRo l ∧ fCo l b p = gCo l ∧ fBr l b p = gBr l ∧ fPo l b p = gPo l ∧ fAg l b p = gAg l ∧ fMa l b p = gMa l ∧ fHe l b p = gHe l ∧ fDe l b p = gDe l := by
  refine ⟨?_, ?_, ?_, ?_, ?_, ?_, ?_, ?_, ?_, ?_, ?_, ?_⟩
  · unfold fE; rw [h]; rfl
  · unfold fTc; rw [h]; rfl
  · unfold fCh; rw [h]; rfl
  · unfold fAk; rw [h]; rfl
  · unfold fRo; rw [h]; rfl
  · unfold fCo; rw [h]; rfl
  · unfold fBr; rw [h]; rfl
  · unfold fPo; rw [h]; rfl
  · unfold fAg; rw [h]; rfl
  · unfold fMa; rw [h]; rfl
  · unfold fHe; rw [h]; rfl
  · unfold fDe; rw [h]; rfl

end Go.Proofs.Ytgkamfnhohcfbaa
