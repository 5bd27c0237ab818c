/- Several texts in one, one behind the other: BpduMath, BpduGet. -/
import Derived.Test.YteplefdnnehdgaaGreatDoorPk16
import Derived.Test.YteplefdnnehdgaaGreatDoorPk01
import Derived.Lib.MinMax
import Derived.WalkMore
import Derived.ScopeJumps

/- What bytes tell: lists and numbers alone. -/
namespace Go.Proofs.YteplefdnnehdgaaGreatDoor
set_option maxRecDepth 100000
open Go Go.RowKit
set_option linter.unusedVariables false

/-- The number in so many bytes from a place on. -/
def fld (l : List UInt8) (p k : Nat) : Int := numU ((l.drop p).take k)

/-- What is wrong with bytes. -/
def gE (l : List UInt8) : Int :=
  if l.length < 4 then 2 else if fld l 0 3 ≠ 0 ∨ fld l 3 1 ≠ 0 ∧ fld l 3 1 ≠ 128 then 3 else if fld l 3 1 = 128 then 0 else if l.length < 35 then 2 else if 2147483648 ≤ fld l 13 4 then 4 else if fld l 29 2 ≤ fld l 27 2 then 5 else 0

/-- They tell a TCN; a configuration. -/
def gTc (l : List UInt8) : Bool := gE l == 0 && fld l 3 1 == 128
def gCf (l : List UInt8) : Bool := gE l == 0 && fld l 3 1 == 0
def gCh (l : List UInt8) : Bool := gCf l && fld l 4 1 % 2 == 1
def gAk (l : List UInt8) : Bool := gCf l && decide (128 ≤ fld l 4 1)
def gRo (l : List UInt8) : Int := if gCf l then fld l 5 8 else 0
def gCo (l : List UInt8) : Int := if gCf l then fld l 13 4 else 0
def gBr (l : List UInt8) : Int := if gCf l then fld l 17 8 else 0
def gPo (l : List UInt8) : Int := if gCf l then fld l 25 2 else 0
def gAg (l : List UInt8) : Int := if gCf l then fld l 27 2 else 0
def gMa (l : List UInt8) : Int := if gCf l then fld l 29 2 else 0
def gHe (l : List UInt8) : Int := if gCf l then fld l 31 2 else 0
def gDe (l : List UInt8) : Int := if gCf l then fld l 33 2 else 0

theorem g_bad (l : List UInt8) (h : gE l ≠ 0) : gTc l = false ∧ gCh l = false ∧ gAk l = false ∧ gRo l = 0 ∧ gCo l = 0 ∧ gBr l = 0 ∧ gPo l = 0 ∧ gAg l = 0 ∧ gMa l = 0 ∧ gHe l = 0 ∧ gDe l = 0 := by
  have e : (gE l == 0) = false := by simpa using h
  have c : gCf l = false := by unfold gCf; rw [e]; rfl
  refine ⟨by unfold gTc; rw [e]; rfl, by unfold gCh; rw [c]; rfl, by unfold gAk; rw [c]; rfl, ?_, ?_, ?_, ?_, ?_, ?_, ?_, ?_⟩
  · unfold gRo; rw [c]; rfl
  · unfold gCo; rw [c]; rfl
  · unfold gBr; rw [c]; rfl
  · unfold gPo; rw [c]; rfl
  · unfold gAg; rw [c]; rfl
  · unfold gMa; rw [c]; rfl
  · unfold gHe; rw [c]; rfl
  · unfold gDe; rw [c]; rfl

theorem g_tcn (l : List UInt8) (h : gE l = 0) (k : fld l 3 1 = 128) : gTc l = true ∧ gCh l = false ∧ gAk l = false ∧ gRo l = 0 ∧ gCo l = 0 ∧ gBr l = 0 ∧ gPo l = 0 ∧ gAg l = 0 ∧ gMa l = 0 ∧ gHe l = 0 ∧ gDe l = 0 := by
  have c : gCf l = false := by unfold gCf; rw [k]; simp
  refine ⟨by unfold gTc; rw [h, k]; rfl, by unfold gCh; rw [c]; rfl, by unfold gAk; rw [c]; rfl, ?_, ?_, ?_, ?_, ?_, ?_, ?_, ?_⟩
  · unfold gRo; rw [c]; rfl
  · unfold gCo; rw [c]; rfl
  · unfold gBr; rw [c]; rfl
  · unfold gPo; rw [c]; rfl
  · unfold gAg; rw [c]; rfl
  · unfold gMa; rw [c]; rfl
  · unfold gHe; rw [c]; rfl
  · unfold gDe; rw [c]; rfl

theorem g_conf (l : List UInt8) (h : gE l = 0) (k : fld l 3 1 = 0) : gTc l = false ∧ gCh l = (fld l 4 1 % 2 == 1) ∧ gAk l = decide (128 ≤ fld l 4 1) ∧ gRo l = fld l 5 8 ∧ gCo l = fld l 13 4 ∧ gBr l = fld l 17 8 ∧ gPo l = fld l 25 2 ∧ gAg l = fld l 27 2 ∧ gMa l = fld l 29 2 ∧ gHe l = fld l 31 2 ∧ gDe l = fld l 33 2 := by
  have c : gCf l = true := by unfold gCf; rw [h, k]; rfl
  refine ⟨by unfold gTc; rw [k]; simp, by unfold gCh; rw [c]; simp, by unfold gAk; rw [c]; simp, ?_, ?_, ?_, ?_, ?_, ?_, ?_, ?_⟩
  · unfold gRo; rw [c]; rfl
  · unfold gCo; rw [c]; rfl
  · unfold gBr; rw [c]; rfl
  · unfold gPo; rw [c]; rfl
  · unfold gAg; rw [c]; rfl
  · unfold gMa; rw [c]; rfl
  · unfold gHe; rw [c]; rfl
  · unfold gDe; rw [c]; rfl

/-- The ways of 'Get', by what is wrong. -/
theorem gE_short (l : List UInt8) (h : l.length < 4) : gE l = 2 := by unfold gE; rw [if_pos h]
theorem gE_form (l : List UInt8) (h : ¬ l.length < 4) (k : fld l 0 3 ≠ 0 ∨ fld l 3 1 ≠ 0 ∧ fld l 3 1 ≠ 128) : gE l = 3 := by unfold gE; rw [if_neg h, if_pos k]
theorem gE_tcn (l : List UInt8) (h : ¬ l.length < 4) (b : fld l 0 3 = 0) (k : fld l 3 1 = 128) : gE l = 0 := by
  unfold gE; rw [if_neg h, if_neg (by omega), if_pos k]
theorem gE_few (l : List UInt8) (h : ¬ l.length < 4) (b : fld l 0 3 = 0) (k : fld l 3 1 = 0) (g : l.length < 35) : gE l = 2 := by
  unfold gE; rw [if_neg h, if_neg (by omega), if_neg (by omega), if_pos g]
theorem gE_far (l : List UInt8) (g : ¬ l.length < 35) (b : fld l 0 3 = 0) (k : fld l 3 1 = 0) (c : 2147483648 ≤ fld l 13 4) : gE l = 4 := by
  unfold gE; rw [if_neg (by omega), if_neg (by omega), if_neg (by omega), if_neg g, if_pos c]
theorem gE_old (l : List UInt8) (g : ¬ l.length < 35) (b : fld l 0 3 = 0) (k : fld l 3 1 = 0) (c : ¬ 2147483648 ≤ fld l 13 4) (a : fld l 29 2 ≤ fld l 27 2) : gE l = 5 := by
  unfold gE; rw [if_neg (by omega), if_neg (by omega), if_neg (by omega), if_neg g, if_neg c, if_pos a]
theorem gE_good (l : List UInt8) (g : ¬ l.length < 35) (b : fld l 0 3 = 0) (k : fld l 3 1 = 0) (c : ¬ 2147483648 ≤ fld l 13 4) (a : ¬ fld l 29 2 ≤ fld l 27 2) : gE l = 0 := by
  unfold gE; rw [if_neg (by omega), if_neg (by omega), if_neg (by omega), if_neg g, if_neg c, if_neg a]

theorem gE_lo (l : List UInt8) : 0 ≤ gE l ∧ gE l ≤ 5 := by
  unfold gE
  repeat' split
  all_goals omega

theorem numU_pw (k : Nat) : ∀ l : List UInt8, l.length ≤ k → numU l < (256 : Int) ^ k := by
  induction k with
  | zero =>
    intro l h
    obtain rfl : l = [] := List.eq_nil_of_length_eq_zero (by omega)
    decide
  | succ k ih =>
    intro l h
    rcases List.eq_nil_or_concat l with rfl | ⟨m, c, rfl⟩
    · have := ih [] (by simp)
      have e : numU [] = 0 := rfl
      rw [e] at this ⊢
      rw [Int.pow_succ]; omega
    · rw [List.concat_eq_append] at h ⊢
      have hm := ih m (by simp at h; omega)
      rw [numU_snoc, Int.pow_succ]
      have h0 := numU_lo m
      have hc := c.toNat_lt
      omega

theorem fld_lo (l : List UInt8) (p k : Nat) : 0 ≤ fld l p k := (numU_lo _).1
theorem fld_pw (l : List UInt8) (p k : Nat) : fld l p k < (256 : Int) ^ k := numU_pw k _ (by simp; omega)
theorem fld1 (l : List UInt8) (p : Nat) : 0 ≤ fld l p 1 ∧ fld l p 1 < 256 := ⟨fld_lo _ _ _, fld_pw l p 1⟩
theorem fld2 (l : List UInt8) (p : Nat) : 0 ≤ fld l p 2 ∧ fld l p 2 < 65536 := ⟨fld_lo _ _ _, fld_pw l p 2⟩
theorem fld3 (l : List UInt8) (p : Nat) : 0 ≤ fld l p 3 ∧ fld l p 3 < 16777216 := ⟨fld_lo _ _ _, fld_pw l p 3⟩
theorem fld4 (l : List UInt8) (p : Nat) : 0 ≤ fld l p 4 ∧ fld l p 4 < 4294967296 := ⟨fld_lo _ _ _, fld_pw l p 4⟩
theorem fld8 (l : List UInt8) (p : Nat) : 0 ≤ fld l p 8 ∧ fld l p 8 < 18446744073709551616 := ⟨fld_lo _ _ _, fld_pw l p 8⟩

theorem fld_take (l : List UInt8) (p k n : Nat) (h : p + k ≤ n) : fld (l.take n) p k = fld l p k := by
  unfold fld
  rw [List.drop_take, List.take_take, Nat.min_eq_left (by omega)]

theorem nV_pw (l : List UInt8) (s : Bool) (k : Nat) : 0 ≤ nV l s k ∧ nV l s k < (256 : Int) ^ k := by
  refine ⟨(nV_lo l s k).1, ?_⟩
  unfold nV
  split
  · exact Int.pow_pos (by decide)
  · exact numU_pw k _ (by simp; omega)

/-- A number read where there is enough. -/
theorem nr_ok (y : List UInt8) (p k q : Nat) (hq : q = p + k) (h : q ≤ y.length) : NR (y.drop p) false k (fld y p k) (y.drop q) false := by
  subst hq
  have e : ¬ ((false : Bool) = true ∨ (y.drop p).length < k) := by simp; omega
  refine ⟨if_neg e, ?_, if_neg e⟩
  rw [← List.drop_drop]
  exact if_neg e

theorem nr_short {l l' : List UInt8} {s s' : Bool} {k : Nat} {v : Int} (h : NR l s k v l' s') (hs : s' = false) : s = false ∧ k ≤ l.length ∧ l'.length = l.length - k := by
  obtain ⟨h1, h2, h3⟩ := h
  subst hs
  have e : ¬ (s = true ∨ l.length < k) := by
    intro hc
    rw [nS, if_pos hc] at h3
    cases h3
  rw [nL, if_neg e] at h2
  refine ⟨?_, ?_, by rw [← h2]; simp⟩
  · cases s
    · rfl
    · exact absurd (.inl rfl) e
  · exact Nat.le_of_not_lt fun q => e (.inr q)

/-- The two bits of flags. -/
theorem flag_bits : ∀ n : Fin 256, (bits .and .u64 ((n.val : Nat) : Int) 1 != 0) = (((n.val : Nat) : Int) % 2 == 1) ∧ (bits .and .u64 ((n.val : Nat) : Int) 128 != 0) = decide (128 ≤ ((n.val : Nat) : Int)) := by decide +kernel

theorem flag_any (v : Int) (h0 : 0 ≤ v) (h1 : v < 256) : (bits .and .u64 v 1 != 0) = (v % 2 == 1) ∧ (bits .and .u64 v 128 != 0) = decide (128 ≤ v) := by
  obtain ⟨n, rfl⟩ : ∃ n : Nat, v = n := ⟨v.toNat, by omega⟩
  exact flag_bits ⟨n, by omega⟩

/-- To a port: its own. -/
def fOwn (l : List UInt8) (b p : Int) : Bool := gCf l && (gBr l == b && gPo l == p)
def fE (l : List UInt8) (b p : Int) : Int := if fOwn l b p then 6 else gE l
def fTc (l : List UInt8) (b p : Int) : Bool := !fOwn l b p && gTc l
def fCh (l : List UInt8) (b p : Int) : Bool := !fOwn l b p && gCh l
def fAk (l : List UInt8) (b p : Int) : Bool := !fOwn l b p && gAk l
def fRo (l : List UInt8) (b p : Int) : Int := if fOwn l b p then 0 else gRo l
def fCo (l : List UInt8) (b p : Int) : Int := if fOwn l b p then 0 else gCo l
def fBr (l : List UInt8) (b p : Int) : Int := if fOwn l b p then 0 else gBr l
def fPo (l : List UInt8) (b p : Int) : Int := if fOwn l b p then 0 else gPo l
def fAg (l : List UInt8) (b p : Int) : Int := if fOwn l b p then 0 else gAg l
def fMa (l : List UInt8) (b p : Int) : Int := if fOwn l b p then 0 else gMa l
def fHe (l : List UInt8) (b p : Int) : Int := if fOwn l b p then 0 else gHe l
def fDe (l : List UInt8) (b p : Int) : Int := if fOwn l b p then 0 else gDe l

theorem f_own (l : List UInt8) (b p : Int) (h : fOwn l b p = true) : fE l b p = 6 ∧ fTc l b p = false ∧ fCh l b p = false ∧ fAk l b p = false ∧ fRo l b p = 0 ∧ fCo l b p = 0 ∧ fBr l b p = 0 ∧ fPo l b p = 0 ∧ fAg l b p = 0 ∧ fMa l b p = 0 ∧ fHe l b p = 0 ∧ fDe l b p = 0 := by
  refine ⟨?_, ?_, ?_, ?_, ?_, ?_, ?_, ?_, ?_, ?_, ?_, ?_⟩
  · unfold fE; rw [h]; rfl
  · unfold fTc; rw [h]; rfl
  · unfold fCh; rw [h]; rfl
  · unfold fAk; rw [h]; rfl
  · unfold fRo; rw [h]; rfl
  · unfold fCo; rw [h]; rfl
  · unfold fBr; rw [h]; rfl
  · unfold fPo; rw [h]; rfl
  · unfold fAg; rw [h]; rfl
  · unfold fMa; rw [h]; rfl
  · unfold fHe; rw [h]; rfl
  · unfold fDe; rw [h]; rfl

theorem f_not (l : List UInt8) (b p : Int) (h : fOwn l b p = false) : fE l b p = gE l ∧ fTc l b p = gTc l ∧ fCh l b p = gCh l ∧ fAk l b p = gAk l ∧ fRo l b p = gRo l ∧ fCo l b p = gCo l ∧ fBr l b p = gBr l ∧ fPo l b p = gPo l ∧ fAg l b p = gAg l ∧ fMa l b p = gMa l ∧ fHe l b p = gHe l ∧ fDe l b p = gDe l := by
  refine ⟨?_, ?_, ?_, ?_, ?_, ?_, ?_, ?_, ?_, ?_, ?_, ?_⟩
  · unfold fE; rw [h]; rfl
  · unfold fTc; rw [h]; rfl
  · unfold fCh; rw [h]; rfl
  · unfold fAk; rw [h]; rfl
  · unfold fRo; rw [h]; rfl
  · unfold fCo; rw [h]; rfl
  · unfold fBr; rw [h]; rfl
  · unfold fPo; rw [h]; rfl
  · unfold fAg; rw [h]; rfl
  · unfold fMa; rw [h]; rfl
  · unfold fHe; rw [h]; rfl
  · unfold fDe; rw [h]; rfl

end Go.Proofs.YteplefdnnehdgaaGreatDoor

/- Get, as the program reads bytes. -/
namespace Go.Proofs.YteplefdnnehdgaaGreatDoor
set_option maxRecDepth 100000
open Go.ChangeShapes Go.WideShapes Go.ChangeAt Go.RowKit
set_option linter.unusedVariables false

/-- What 'Get' leaves, of the program's make. -/
def GetEnd (l : List UInt8) (w : World) (e : Ending) (w' : World) : Prop :=
  e = .returned (.tuple #[.agg #[.bool (gTc l), .bool (gCh l), .bool (gAk l), .int .u64 (gRo l), .int .u32 (gCo l), .int .u64 (gBr l), .int .u16 (gPo l), .int .u16 (gAg l), .int .u16 (gMa l), .int .u16 (gHe l), .int .u16 (gDe l)], .int .i64 (gE l)]) ∧ Below w.heap.size w w'

theorem check_far (ch ak : Bool) (ro co br po ag ma he de : Int) (h : 2147483648 ≤ co) (w : World) :
    Calls Tryz.prog 62 #[.agg #[.bool false, .bool ch, .bool ak, .int .u64 ro, .int .u32 co, .int .u64 br, .int .u16 po, .int .u16 ag, .int .u16 ma, .int .u16 he, .int .u16 de]] w fun e w' => e = .returned (.int .i64 4) ∧ Below w.heap.size w w' := by
  have hd : decide (2147483648 ≤ co) = true := by simpa using h
  go_enter Tryz.func62, Tryz.ntmps62
  go_wp2
  go_ret
  exact ⟨rfl, below_new (Nat.le_refl _)⟩

theorem check_old (ch ak : Bool) (ro co br po ag ma he de : Int) (h : ¬ 2147483648 ≤ co) (g : ma ≤ ag) (w : World) :
    Calls Tryz.prog 62 #[.agg #[.bool false, .bool ch, .bool ak, .int .u64 ro, .int .u32 co, .int .u64 br, .int .u16 po, .int .u16 ag, .int .u16 ma, .int .u16 he, .int .u16 de]] w fun e w' => e = .returned (.int .i64 5) ∧ Below w.heap.size w w' := by
  have hd : decide (2147483648 ≤ co) = false := by simpa using h
  have hg : decide (ma ≤ ag) = true := by simpa using g
  go_enter Tryz.func62, Tryz.ntmps62
  go_wp2
  go_ret
  exact ⟨rfl, below_new (Nat.le_refl _)⟩

theorem check_good (ch ak : Bool) (ro co br po ag ma he de : Int) (h : ¬ 2147483648 ≤ co) (g : ¬ ma ≤ ag) (w : World) :
    Calls Tryz.prog 62 #[.agg #[.bool false, .bool ch, .bool ak, .int .u64 ro, .int .u32 co, .int .u64 br, .int .u16 po, .int .u16 ag, .int .u16 ma, .int .u16 he, .int .u16 de]] w fun e w' => e = .returned (.int .i64 0) ∧ Below w.heap.size w w' := by
  have hd : decide (2147483648 ≤ co) = false := by simpa using h
  have hg : decide (ma ≤ ag) = false := by simpa using g
  go_enter Tryz.func62, Tryz.ntmps62
  go_wp2
  go_ret
  exact ⟨rfl, below_new (Nat.le_refl _)⟩

theorem first_below {B : Nat} {a w : World} (h : Below B a w) : Below B a w := h

/-- The state inside 'Get': the reader, the answer's place, the Bpdu's box. -/
def GS (lo hi h : Nat) (l : List UInt8) (s : Bool) (cs ds : List Value) (w wc : World) : Prop :=
  ∃ A, RD 120 wc lo hi h A l s ∧ Bk wc w.heap.size 56 cs ∧ Bk wc (w.heap.size + 1) 56 ds ∧ Below w.heap.size w wc

theorem GS.go {lo hi h : Nat} {l l' : List UInt8} {s s' : Bool} {cs ds : List Value} {w wc wd : World} {A' : Option Addr} (c : GS lo hi h l s cs ds w wc) (hlo : Hid (lo = w.heap.size + 2)) (hr : RD 120 wd lo hi h A' l' s') (hb : Below lo wc wd) : GS lo hi h l' s' cs ds w wd := by
  have e := hlo.out
  obtain ⟨A, _, h2, h3, h4⟩ := c
  exact ⟨A', hr, h2.below hb (by omega), h3.below hb (by omega), h4.trans (hb.mono (by omega))⟩

theorem GS.same {lo hi h : Nat} {l : List UInt8} {s : Bool} {cs ds : List Value} {w wc wd : World} (c : GS lo hi h l s cs ds w wc) (hlo : Hid (lo = w.heap.size + 2)) (hz : hi ≤ wc.heap.size) (hb : Below wc.heap.size wc wd) : GS lo hi h l s cs ds w wd := by
  have e := hlo.out
  obtain ⟨A, h1, h2, h3, h4⟩ := c
  have q1 := h1.1
  have q2 := h1.2.1
  exact ⟨A, h1.below hb hz, h2.below hb (by omega), h3.below hb (by omega), h4.trans (hb.mono (by omega))⟩

theorem GS.put {lo hi h : Nat} {l : List UInt8} {s : Bool} {cs ds : List Value} {w wc : World} (c : GS lo hi h l s cs ds w wc) (hlo : Hid (lo = w.heap.size + 2)) (i : Nat) (u : Value) : GS lo hi h l s (cs.set i u) ds w (wc.setCell ⟨w.heap.size, i, none⟩ u) := by
  have e := hlo.out
  obtain ⟨A, h1, h2, h3, h4⟩ := c
  exact ⟨A, h1.set (.inl (by show w.heap.size < lo; omega)) u, h2.set i u, h3.far (p := ⟨w.heap.size, i, none⟩) (by show w.heap.size ≠ _; omega) u, h4.setCell (Nat.le_refl _) u⟩

theorem GS.put1 {lo hi h : Nat} {l : List UInt8} {s : Bool} {cs ds : List Value} {w wc : World} (c : GS lo hi h l s cs ds w wc) (hlo : Hid (lo = w.heap.size + 2)) (i : Nat) (u : Value) : GS lo hi h l s cs (ds.set i u) w (wc.setCell ⟨w.heap.size + 1, i, none⟩ u) := by
  have e := hlo.out
  obtain ⟨A, h1, h2, h3, h4⟩ := c
  exact ⟨A, h1.set (.inl (by show w.heap.size + 1 < lo; omega)) u, h2.far (p := ⟨w.heap.size + 1, i, none⟩) (by show w.heap.size + 1 ≠ _; omega) u, h3.set i u, h4.setCell (Nat.le_succ _) u⟩

/-- What holds where 'Get' goes to what is too short. -/
def GJ (A : Option Addr) (n c : Nat) (E : Int) (w : World) (a : Act) (w' : World) : Prop :=
  ∃ u1 u3 u4 u5 u6 u7 u8 u9 u10 u11 u12 u13 u14 u15 u16 u17 u18 u19 u20 u21 u22 u23 u24 u25 u26 u27 u28 u29 u30 u31 u32 u33 u34 u35 u36 u37 u38 u39 u40 u41 u42 u43 u44 u45 u46 : Value, a = { tmps := #[.slice A n c, u1, .pointer (some ⟨w.heap.size, 0, none⟩), u3, u4, u5, u6, u7, u8, u9, u10, u11, u12, u13, u14, u15, u16, u17, u18, u19, u20, u21, u22, u23, u24, u25, u26, u27, u28, u29, u30, u31, u32, u33, u34, u35, u36, u37, u38, u39, u40, u41, u42, u43, u44, u45, u46], defers := [] } ∧ E = 2 ∧ ∃ lo hi h l s ds, lo = w.heap.size + 2 ∧ GS lo hi h l s [.bool false, .bool false, .bool false, .int .u64 0, .int .u32 0, .int .u64 0, .int .u16 0, .int .u16 0, .int .u16 0, .int .u16 0, .int .u16 0] ds w w'

theorem front (l : List UInt8) (vb vk : Int) (lb lk : List UInt8) (sb sk : Bool) (h3 : NR (l.take 35) false 3 vb lb sb) (h1 : NR lb sb 1 vk lk sk) :
    (sk = true → l.length < 4) ∧ (sk = false → ¬ l.length < 4 ∧ vb = fld l 0 3 ∧ vk = fld l 3 1 ∧ lk = (l.take 35).drop 4) := by
  by_cases h : l.length < 4
  · refine ⟨fun _ => h, fun e => ?_⟩
    obtain ⟨a1, a2, a3⟩ := nr_short h1 e
    obtain ⟨b1, b2, b3⟩ := nr_short h3 a1
    simp only [List.length_take] at b2 b3
    omega
  · have k3 := nr_ok (l.take 35) 0 3 3 rfl (by simp; omega)
    have k1 := nr_ok (l.take 35) 3 1 4 rfl (by simp; omega)
    rw [List.drop_zero] at k3
    obtain ⟨rfl, rfl, rfl⟩ := h3
    obtain ⟨rfl, rfl, rfl⟩ := h1
    rw [k3.2.1, k3.2.2, k1.2.1, k1.2.2, k1.1, k3.1, fld_take _ _ _ _ (by decide), fld_take _ _ _ _ (by decide)]
    exact ⟨(fun e => by cases e), fun _ => ⟨h, rfl, rfl, rfl⟩⟩

theorem back_few (y l1 l2 l3 l4 l5 l6 l7 l8 l9 : List UInt8) (s1 s2 s3 s4 s5 s6 s7 s8 s9 : Bool) (v0 ro co br po ag ma he de : Int) (hy : y.length < 31)
    (h0 : NR y false 1 v0 l1 s1) (h1 : NR l1 s1 8 ro l2 s2) (h2 : NR l2 s2 4 co l3 s3) (h3 : NR l3 s3 8 br l4 s4) (h4 : NR l4 s4 2 po l5 s5) (h5 : NR l5 s5 2 ag l6 s6) (h6 : NR l6 s6 2 ma l7 s7) (h7 : NR l7 s7 2 he l8 s8) (h8 : NR l8 s8 2 de l9 s9) : s9 = true := by
  cases e : s9
  · obtain ⟨a8, b8, c8⟩ := nr_short h8 e
    obtain ⟨a7, b7, c7⟩ := nr_short h7 a8
    obtain ⟨a6, b6, c6⟩ := nr_short h6 a7
    obtain ⟨a5, b5, c5⟩ := nr_short h5 a6
    obtain ⟨a4, b4, c4⟩ := nr_short h4 a5
    obtain ⟨a3, b3, c3⟩ := nr_short h3 a4
    obtain ⟨a2, b2, c2⟩ := nr_short h2 a3
    obtain ⟨a1, b1, c1⟩ := nr_short h1 a2
    obtain ⟨a0, b0, c0⟩ := nr_short h0 a1
    omega
  · rfl

/-- A configuration's numbers as they are read, whatever is there. -/
theorem back_any (y : List UInt8) : ∃ l1 l2 l3 l4 l5 l6 l7 l8 l9 s1 s2 s3 s4 s5 s6 s7 s8 s9 v0 ro co br po ag ma he de,
    NR y false 1 v0 l1 s1 ∧ NR l1 s1 8 ro l2 s2 ∧ NR l2 s2 4 co l3 s3 ∧ NR l3 s3 8 br l4 s4 ∧ NR l4 s4 2 po l5 s5 ∧ NR l5 s5 2 ag l6 s6 ∧ NR l6 s6 2 ma l7 s7 ∧ NR l7 s7 2 he l8 s8 ∧ NR l8 s8 2 de l9 s9 ∧ BpIn ro co br po ag ma he de ∧ (0 ≤ v0 ∧ v0 < 256) :=
  ⟨_, _, _, _, _, _, _, _, _, _, _, _, _, _, _, _, _, _, _, _, _, _, _, _, _, _, _, ⟨rfl, rfl, rfl⟩, ⟨rfl, rfl, rfl⟩, ⟨rfl, rfl, rfl⟩, ⟨rfl, rfl, rfl⟩, ⟨rfl, rfl, rfl⟩, ⟨rfl, rfl, rfl⟩, ⟨rfl, rfl, rfl⟩, ⟨rfl, rfl, rfl⟩, ⟨rfl, rfl, rfl⟩,
    ⟨nV_pw _ _ 8, nV_pw _ _ 4, nV_pw _ _ 8, nV_pw _ _ 2, nV_pw _ _ 2, nV_pw _ _ 2, nV_pw _ _ 2, nV_pw _ _ 2⟩, nV_pw _ _ 1⟩

theorem back_ok (l : List UInt8) (h : ¬ l.length < 35) : 
    NR ((l.take 35).drop 4) false 1 (fld l 4 1) ((l.take 35).drop 5) false ∧ NR ((l.take 35).drop 5) false 8 (fld l 5 8) ((l.take 35).drop 13) false ∧ NR ((l.take 35).drop 13) false 4 (fld l 13 4) ((l.take 35).drop 17) false ∧ NR ((l.take 35).drop 17) false 8 (fld l 17 8) ((l.take 35).drop 25) false ∧ NR ((l.take 35).drop 25) false 2 (fld l 25 2) ((l.take 35).drop 27) false ∧ NR ((l.take 35).drop 27) false 2 (fld l 27 2) ((l.take 35).drop 29) false ∧ NR ((l.take 35).drop 29) false 2 (fld l 29 2) ((l.take 35).drop 31) false ∧ NR ((l.take 35).drop 31) false 2 (fld l 31 2) ((l.take 35).drop 33) false ∧ NR ((l.take 35).drop 33) false 2 (fld l 33 2) ((l.take 35).drop 35) false := by
  have e : (l.take 35).length = 35 := by simp; omega
  have k := fun p k q (hq : q = p + k) (h : q ≤ 35) => fld_take l p k 35 (by omega) ▸ nr_ok (l.take 35) p k q hq (by omega)
  exact ⟨k 4 1 5 rfl (by decide), k 5 8 13 rfl (by decide), k 13 4 17 rfl (by decide), k 17 8 25 rfl (by decide), k 25 2 27 rfl (by decide), k 27 2 29 rfl (by decide), k 29 2 31 rfl (by decide), k 31 2 33 rfl (by decide), k 33 2 35 rfl (by decide)⟩

theorem conf_ways (l lk : List UInt8) (hlk : lk = (l.take 35).drop 4) : ∃ l1 l2 l3 l4 l5 l6 l7 l8 l9 s1 s2 s3 s4 s5 s6 s7 s8 s9 v0 ro co br po ag ma he de ch ak,
    Hid (NR lk false 1 v0 l1 s1) ∧ Hid (NR l1 s1 8 ro l2 s2) ∧ Hid (NR l2 s2 4 co l3 s3) ∧ Hid (NR l3 s3 8 br l4 s4) ∧ Hid (NR l4 s4 2 po l5 s5) ∧ Hid (NR l5 s5 2 ag l6 s6) ∧ Hid (NR l6 s6 2 ma l7 s7) ∧ Hid (NR l7 s7 2 he l8 s8) ∧ Hid (NR l8 s8 2 de l9 s9) ∧ BpIn ro co br po ag ma he de ∧ Hid ((bits .and .u64 v0 1 != 0) = ch) ∧ Hid ((bits .and .u64 v0 128 != 0) = ak) ∧
    Hid (s9 = true ∧ l.length < 35 ∨ s9 = false ∧ ¬ l.length < 35 ∧ ch = (fld l 4 1 % 2 == 1) ∧ ak = decide (128 ≤ fld l 4 1) ∧ ro = fld l 5 8 ∧ co = fld l 13 4 ∧ br = fld l 17 8 ∧ po = fld l 25 2 ∧ ag = fld l 27 2 ∧ ma = fld l 29 2 ∧ he = fld l 31 2 ∧ de = fld l 33 2) := by
  subst hlk
  by_cases h : l.length < 35
  · obtain ⟨l1, l2, l3, l4, l5, l6, l7, l8, l9, s1, s2, s3, s4, s5, s6, s7, s8, s9, v0, ro, co, br, po, ag, ma, he, de, N0, N1, N2, N3, N4, N5, N6, N7, N8, NB, _⟩ := back_any ((l.take 35).drop 4)
    exact ⟨l1, l2, l3, l4, l5, l6, l7, l8, l9, s1, s2, s3, s4, s5, s6, s7, s8, s9, v0, ro, co, br, po, ag, ma, he, de, _, _, N0, N1, N2, N3, N4, N5, N6, N7, N8, NB, Lib.hid rfl, Lib.hid rfl, .inl ⟨back_few ((l.take 35).drop 4) l1 l2 l3 l4 l5 l6 l7 l8 l9 s1 s2 s3 s4 s5 s6 s7 s8 s9 v0 ro co br po ag ma he de (by simp; omega) N0 N1 N2 N3 N4 N5 N6 N7 N8, h⟩⟩
  · obtain ⟨N0, N1, N2, N3, N4, N5, N6, N7, N8⟩ := back_ok l h
    obtain ⟨f1, f2⟩ := flag_any (fld l 4 1) (fld1 l 4).1 (fld1 l 4).2
    exact ⟨_, _, _, _, _, _, _, _, _, _, _, _, _, _, _, _, _, _, _, _, _, _, _, _, _, _, _, _, _, N0, N1, N2, N3, N4, N5, N6, N7, N8, ⟨fld8 _ _, fld4 _ _, fld8 _ _, fld2 _ _, fld2 _ _, fld2 _ _, fld2 _ _, fld2 _ _⟩, f1, f2, .inr ⟨rfl, h, rfl, rfl, rfl, rfl, rfl, rfl, rfl, rfl, rfl, rfl⟩⟩

set_option maxRecDepth 100000 in
set_option maxHeartbeats 2000000 in
theorem get_any (A : Option Addr) (c : Nat) (l : List UInt8) (n : Nat) (hn : Hid (l.length = n)) (hm : n ≤ 10000) (hnc : n ≤ c) (w : World) (hr : RB w A 0 w.heap.size l) :
    Calls Tryz.prog 32 #[.slice A n c] w (GetEnd l w) := by
  obtain ⟨q, hq⟩ : ∃ q : Nat, q = min n 35 := ⟨_, rfl⟩
  have hmin : min (n : Int) 35 = (q : Int) := by omega
  have hc := cut3_any A n c q (by omega)
  have hq2 : Hid (q = min n 35) := Lib.hid hq
  clear hq
  obtain ⟨vb, lb, sb, H3⟩ : ∃ vb lb sb, Hid (NR (l.take 35) false 3 vb lb sb) := ⟨_, _, _, Lib.hid ⟨rfl, rfl, rfl⟩⟩
  obtain ⟨vk, lk, sk, H1⟩ : ∃ vk lk sk, Hid (NR lb sb 1 vk lk sk) := ⟨_, _, _, Lib.hid ⟨rfl, rfl, rfl⟩⟩
  have HF := Lib.hid (front l vb vk lb lk sb sk H3.out H1.out)
  have hyq : Hid ((l.take 35).length = q) := by show _ = _; rw [List.length_take, hn.out, hq2.out]; omega
  go_enter Tryz.func32, Tryz.ntmps32
  go_wp2_with fail
  refine wp_scope_jumps 0 (GJ A n c (gE l) w) (fun _ _ => 0) rfl ?_ ?_
  · go_wp2_with fail
    obtain ⟨w0, hB0, hb0, hs0, hw0⟩ := bboxed w false false false 0 0 0 0 0 0 0 0
    rw [← hw0]
    have hz0 : w0.heap.size = w.heap.size + 1 := by rw [hw0]; simp
    obtain ⟨w1, hB1, hb1, hs1, hw1⟩ := bboxed w0 false false false 0 0 0 0 0 0 0 0
    rw [← hw1]
    have hz1 : Hid (w1.heap.size = w.heap.size + 2) := by show _ = _; rw [hw1, World.size_alloc, hz0]
    rw [hz0] at hB1 hb1
    have hbw : Below w.heap.size w w1 := hb0.trans (hb1.mono (Nat.le_succ _))
    have hB0' := hB0.below hb1 (Nat.lt_succ_self _)
    clear hw0 hw1 hs1 hs0 hz0 hB0 hb0 hb1
    (with_reducible refine (new_any A c (l.take 35) q 0 w.heap.size hyq (by omega) _ ((hr.take 35).below hbw (Nat.le_refl _)) hbw.size).mono ?_); rintro e w2 ⟨h, A1, rfl, hR2, hb2⟩
    obtain ⟨lo, hlo⟩ : ∃ lo, lo = w1.heap.size := ⟨_, rfl⟩
    obtain ⟨hi, hhi⟩ : ∃ hi, hi = w2.heap.size := ⟨_, rfl⟩
    rw [← hlo, ← hhi] at hR2
    rw [← hlo] at hb2
    have hL : Hid (lo = w.heap.size + 2) := Lib.hid (hlo.trans hz1.out)
    have hH : Hid (hi ≤ w2.heap.size) := Lib.hid (Nat.le_of_eq hhi)
    have g2 : GS lo hi h (l.take 35) false [.bool false, .bool false, .bool false, .int .u64 0, .int .u32 0, .int .u64 0, .int .u16 0, .int .u16 0, .int .u16 0, .int .u16 0, .int .u16 0] [.bool false, .bool false, .bool false, .int .u64 0, .int .u32 0, .int .u64 0, .int .u16 0, .int .u16 0, .int .u16 0, .int .u16 0, .int .u16 0] w w2 := by
      have e := hL.out
      exact ⟨A1, hR2, hB0'.below hb2 (by omega), hB1.below hb2 (by omega), hbw.trans (hb2.mono (by omega))⟩
    clear hlo hhi hz1 hbw hB0' hB1 hb2 hR2 w1
    obtain ⟨y, hy⟩ : ∃ y, y = l.take 35 := ⟨_, rfl⟩
    rw [← hy] at g2 H3 hyq
    have HY := Lib.hid hy
    clear hy
    have m0 : y.length ≤ 100000 := by rw [hyq.out, hq2.out]; omega
    have m1 : lb.length ≤ 100000 := by rw [← H3.out.2.1]; exact Nat.le_trans (nL_len _ _ _) m0
    have m2 : lk.length ≤ 100000 := by rw [← H1.out.2.1]; exact Nat.le_trans (nL_len _ _ _) m1
    clear hc hmin
    go_wp2_with fail
    obtain ⟨A2, hR2, _⟩ := id g2
    (with_reducible refine (num_any lo hi h A2 y false 3 3 (Lib.hid rfl) (by omega) _ hR2 m0).mono ?_); rintro e w3 ⟨A3, rfl, hR3, hb3, ho3⟩
    rw [H3.out.1]
    rw [H3.out.2.1, H3.out.2.2] at hR3
    have g3 := g2.go hL hR3 hb3
    have hH3 : Hid (hi ≤ w3.heap.size) := Lib.hid (ho3.1 ▸ hH.out)
    clear hR2 hb3 ho3 g2 hH
    go_wp2_with fail
    (with_reducible refine (num_any lo hi h A3 lb sb 1 1 (Lib.hid rfl) (by omega) _ hR3 m1).mono ?_); rintro e w4 ⟨A4, rfl, hR4, hb4, ho4⟩
    rw [H1.out.1]
    rw [H1.out.2.1, H1.out.2.2] at hR4
    have g4 := g3.go hL hR4 hb4
    have hH4 : Hid (hi ≤ w4.heap.size) := Lib.hid (ho4.1 ▸ hH3.out)
    clear hR3 hb4 ho4 g3 hH3
    go_wp2_with fail
    (with_reducible refine (short_any lo hi h A4 lk sk _ hR4).mono ?_); rintro e w5 ⟨rfl, rfl⟩
    cases sk
    · obtain ⟨F1, F2, F3, F4⟩ := HF.out.2 rfl
      have HL := Lib.hid F1
      have HB := Lib.hid F2
      have HK := Lib.hid F3
      have HD := Lib.hid F4
      clear F1 F2 F3 F4
      obtain ⟨_, _, hX, hY, _⟩ := id g4
      obtain ⟨c0, c1, c2, c3, c4, c5, c6, c7, c8, c9, c10⟩ := BB.cells (show BB _ w.heap.size false false false 0 0 0 0 0 0 0 0 from hX)
      obtain ⟨z0, z1, z2, z3, z4, z5, z6, z7, z8, z9, z10⟩ := BB.thaws (show BB _ w.heap.size false false false 0 0 0 0 0 0 0 0 from hX)
      clear hX hY
      by_cases b0 : vb = 0
      · have d0 : (vb != 0) = false := by simpa using b0
        have B0 : Hid (fld l 0 3 = 0) := Lib.hid (HB.out ▸ b0)
        clear b0
        by_cases k0 : vk = 0
        · -- CONFIG
          have K : Hid (fld l 3 1 = 0) := Lib.hid (HK.out ▸ k0)
          subst k0
          have E : ∃ l1 l2 l3 l4 l5 l6 l7 l8 l9 s1 s2 s3 s4 s5 s6 s7 s8 s9 v0 ro co br po ag ma he de ch ak,
              Hid (NR lk false 1 v0 l1 s1) ∧ Hid (NR l1 s1 8 ro l2 s2) ∧ Hid (NR l2 s2 4 co l3 s3) ∧ Hid (NR l3 s3 8 br l4 s4) ∧ Hid (NR l4 s4 2 po l5 s5) ∧ Hid (NR l5 s5 2 ag l6 s6) ∧ Hid (NR l6 s6 2 ma l7 s7) ∧ Hid (NR l7 s7 2 he l8 s8) ∧ Hid (NR l8 s8 2 de l9 s9) ∧ BpIn ro co br po ag ma he de ∧ Hid ((bits .and .u64 v0 1 != 0) = ch) ∧ Hid ((bits .and .u64 v0 128 != 0) = ak) ∧
              Hid (s9 = true ∧ l.length < 35 ∨ s9 = false ∧ ¬ l.length < 35 ∧ ch = (fld l 4 1 % 2 == 1) ∧ ak = decide (128 ≤ fld l 4 1) ∧ ro = fld l 5 8 ∧ co = fld l 13 4 ∧ br = fld l 17 8 ∧ po = fld l 25 2 ∧ ag = fld l 27 2 ∧ ma = fld l 29 2 ∧ he = fld l 31 2 ∧ de = fld l 33 2) := conf_ways l lk HD.out
          obtain ⟨l1, l2, l3, l4, l5, l6, l7, l8, l9, s1, s2, s3, s4, s5, s6, s7, s8, s9, v0, ro, co, br, po, ag, ma, he, de, ch, ak, N0, N1, N2, N3, N4, N5, N6, N7, N8, NB, NC, NA, NW⟩ := E
          go_wp2_with fail
          (with_reducible refine (config_any lo hi h A4 lk l1 l2 l3 l4 l5 l6 l7 l8 l9 false s1 s2 s3 s4 s5 s6 s7 s8 s9 v0 ro co br po ag ma he de ch ak N0 N1 N2 N3 N4 N5 N6 N7 N8 NC.out NA.out NB m2 _ hR4 hH4.out).mono ?_); rintro e w6 ⟨A6, rfl, hR6, hb6⟩
          have g6 := g4.go hL hR6 hb6
          have hH6 : Hid (hi ≤ w6.heap.size) := Lib.hid (Nat.le_trans hH4.out hb6.size)
          clear hR4 hb6 hR6 c0 c1 c2 c3 c4 c5 c6 c7 c8 c9 c10 z0 z1 z2 z3 z4 z5 z6 z7 z8 z9 z10 g4
          obtain ⟨_, _, hX, hY, _⟩ := id g6
          obtain ⟨d0, d1, d2, d3, d4, d5, d6, d7, d8, d9, d10⟩ := BB.cells (show BB _ (w.heap.size + 1) false false false 0 0 0 0 0 0 0 0 from hY)
          obtain ⟨f0, f1, f2, f3, f4, f5, f6, f7, f8, f9, f10⟩ := BB.thaws (show BB _ (w.heap.size + 1) false false false 0 0 0 0 0 0 0 0 from hY)
          clear hX hY
          go_wp2_with fail
          clear d0 d1 d2 d3 d4 d5 d6 d7 d8 d9 d10 f0 f1 f2 f3 f4 f5 f6 f7 f8 f9 f10
          have g7 := (((((((((((g6.put1 hL 0 (.bool false)).put1 hL 1 (.bool ch)).put1 hL 2 (.bool ak)).put1 hL 3 (.int .u64 ro)).put1 hL 4 (.int .u32 co)).put1 hL 5 (.int .u64 br)).put1 hL 6 (.int .u16 po)).put1 hL 7 (.int .u16 ag)).put1 hL 8 (.int .u16 ma)).put1 hL 9 (.int .u16 he)).put1 hL 10 (.int .u16 de))
          generalize hw7 : World.setCell _ ⟨w.heap.size + 1, 10, none⟩ _ = w7 at g7 ⊢
          have hH7 : Hid (hi ≤ w7.heap.size) := Lib.hid (by rw [← hw7]; simp only [World.size_setCell]; exact hH6.out)
          clear hw7
          clear g6 hH6
          obtain ⟨A7, hR7, _⟩ := id g7
          (with_reducible refine (short_any lo hi h A7 l9 s9 _ hR7).mono ?_); rintro e w8 ⟨rfl, rfl⟩
          clear hR7 H3 H1 HF N0 N1 N2 N3 N4 N5 N6 N7 N8 NC NA
          cases s9
          · have NW' : ¬ l.length < 35 ∧ ch = (fld l 4 1 % 2 == 1) ∧ ak = decide (128 ≤ fld l 4 1) ∧ ro = fld l 5 8 ∧ co = fld l 13 4 ∧ br = fld l 17 8 ∧ po = fld l 25 2 ∧ ag = fld l 27 2 ∧ ma = fld l 29 2 ∧ he = fld l 31 2 ∧ de = fld l 33 2 := by
              rcases NW.out with ⟨e, _⟩ | ⟨_, e⟩
              · cases e
              · exact e
            obtain ⟨x1, x2, x3, x4, x5, x6, x7, x8, x9, x10, x11⟩ := NW'
            have X := Lib.hid (And.intro x1 (And.intro x2 (And.intro x3 (And.intro x4 (And.intro x5 (And.intro x6 (And.intro x7 (And.intro x8 (And.intro x9 (And.intro x10 x11))))))))))
            clear x1 x2 x3 x4 x5 x6 x7 x8 x9 x10 x11 NW
            obtain ⟨_, _, hX, hY, _⟩ := id g7
            obtain ⟨c0, c1, c2, c3, c4, c5, c6, c7, c8, c9, c10⟩ := BB.cells (show BB _ w.heap.size false false false 0 0 0 0 0 0 0 0 from hX)
            obtain ⟨z0, z1, z2, z3, z4, z5, z6, z7, z8, z9, z10⟩ := BB.thaws (show BB _ w.heap.size false false false 0 0 0 0 0 0 0 0 from hX)
            obtain ⟨d0, d1, d2, d3, d4, d5, d6, d7, d8, d9, d10⟩ := BB.cells (show BB _ (w.heap.size + 1) false ch ak ro co br po ag ma he de from hY)
            clear hX hY
            by_cases far : 2147483648 ≤ co
            · have KE : Hid (gE l = 4) := by
                obtain ⟨x1, x2, x3, x4, x5, x6, x7, x8, x9, x10, x11⟩ := X.out
                exact Lib.hid (gE_far l x1 B0.out K.out (x5 ▸ far))
              go_wp2_with fail
              (with_reducible refine (check_far ch ak ro co br po ag ma he de far _).mono ?_); rintro e w8 ⟨rfl, hb8⟩
              have g8 := g7.same hL hH7.out hb8
              clear c0 c1 c2 c3 c4 c5 c6 c7 c8 c9 c10 z0 z1 z2 z3 z4 z5 z6 z7 z8 z9 z10 d0 d1 d2 d3 d4 d5 d6 d7 d8 d9 d10
              obtain ⟨_, _, hX, hY, _⟩ := id g8
              obtain ⟨c0, c1, c2, c3, c4, c5, c6, c7, c8, c9, c10⟩ := BB.cells (show BB _ w.heap.size false false false 0 0 0 0 0 0 0 0 from hX)
              obtain ⟨z0, z1, z2, z3, z4, z5, z6, z7, z8, z9, z10⟩ := BB.thaws (show BB _ w.heap.size false false false 0 0 0 0 0 0 0 0 from hX)
              obtain ⟨d0, d1, d2, d3, d4, d5, d6, d7, d8, d9, d10⟩ := BB.cells (show BB _ (w.heap.size + 1) false ch ak ro co br po ag ma he de from hY)
              clear hX hY
              go_wp2_with fail
              have gz := (((((((((((g8.put hL 0 (.bool false)).put hL 1 (.bool false)).put hL 2 (.bool false)).put hL 3 (.int .u64 0)).put hL 4 (.int .u32 0)).put hL 5 (.int .u64 0)).put hL 6 (.int .u16 0)).put hL 7 (.int .u16 0)).put hL 8 (.int .u16 0)).put hL 9 (.int .u16 0)).put hL 10 (.int .u16 0))
              generalize World.setCell _ ⟨w.heap.size, 10, none⟩ _ = we at gz ⊢
              obtain ⟨_, _, k2, _, k4⟩ := gz
              obtain ⟨e0, e1, e2, e3, e4, e5, e6, e7, e8, e9, e10⟩ := BB.cells (show BB we w.heap.size false false false 0 0 0 0 0 0 0 0 from k2)
              simp only [Exit.jump]
              exact bodyPost_ret (v := .tuple #[.agg #[.bool false, .bool false, .bool false, .int .u64 0, .int .u32 0, .int .u64 0, .int .u16 0, .int .u16 0, .int .u16 0, .int .u16 0, .int .u16 0], .int .i64 4]) (by simp [results, Tryz.results32, go_sem, e0, e1, e2, e3, e4, e5, e6, e7, e8, e9, e10]) rfl ⟨by obtain ⟨z0, z1, z2, z3, z4, z5, z6, z7, z8, z9, z10⟩ := g_bad l (by rw [KE.out]; decide); rw [z0, z1, z2, z3, z4, z5, z6, z7, z8, z9, z10, KE.out], first_below k4⟩
            · have FAR := Lib.hid far
              by_cases old : ma ≤ ag
              · have KE : Hid (gE l = 5) := by
                  obtain ⟨x1, x2, x3, x4, x5, x6, x7, x8, x9, x10, x11⟩ := X.out
                  exact Lib.hid (gE_old l x1 B0.out K.out (x5 ▸ far) (x8 ▸ x9 ▸ old))
                go_wp2_with fail
                (with_reducible refine (check_old ch ak ro co br po ag ma he de (by have := FAR.out; omega) old _).mono ?_); rintro e w8 ⟨rfl, hb8⟩
                have g8 := g7.same hL hH7.out hb8
                clear c0 c1 c2 c3 c4 c5 c6 c7 c8 c9 c10 z0 z1 z2 z3 z4 z5 z6 z7 z8 z9 z10 d0 d1 d2 d3 d4 d5 d6 d7 d8 d9 d10
                obtain ⟨_, _, hX, hY, _⟩ := id g8
                obtain ⟨c0, c1, c2, c3, c4, c5, c6, c7, c8, c9, c10⟩ := BB.cells (show BB _ w.heap.size false false false 0 0 0 0 0 0 0 0 from hX)
                obtain ⟨z0, z1, z2, z3, z4, z5, z6, z7, z8, z9, z10⟩ := BB.thaws (show BB _ w.heap.size false false false 0 0 0 0 0 0 0 0 from hX)
                obtain ⟨d0, d1, d2, d3, d4, d5, d6, d7, d8, d9, d10⟩ := BB.cells (show BB _ (w.heap.size + 1) false ch ak ro co br po ag ma he de from hY)
                clear hX hY
                go_wp2_with fail
                have gz := (((((((((((g8.put hL 0 (.bool false)).put hL 1 (.bool false)).put hL 2 (.bool false)).put hL 3 (.int .u64 0)).put hL 4 (.int .u32 0)).put hL 5 (.int .u64 0)).put hL 6 (.int .u16 0)).put hL 7 (.int .u16 0)).put hL 8 (.int .u16 0)).put hL 9 (.int .u16 0)).put hL 10 (.int .u16 0))
                generalize World.setCell _ ⟨w.heap.size, 10, none⟩ _ = we at gz ⊢
                obtain ⟨_, _, k2, _, k4⟩ := gz
                obtain ⟨e0, e1, e2, e3, e4, e5, e6, e7, e8, e9, e10⟩ := BB.cells (show BB we w.heap.size false false false 0 0 0 0 0 0 0 0 from k2)
                simp only [Exit.jump]
                exact bodyPost_ret (v := .tuple #[.agg #[.bool false, .bool false, .bool false, .int .u64 0, .int .u32 0, .int .u64 0, .int .u16 0, .int .u16 0, .int .u16 0, .int .u16 0, .int .u16 0], .int .i64 5]) (by simp [results, Tryz.results32, go_sem, e0, e1, e2, e3, e4, e5, e6, e7, e8, e9, e10]) rfl ⟨by obtain ⟨z0, z1, z2, z3, z4, z5, z6, z7, z8, z9, z10⟩ := g_bad l (by rw [KE.out]; decide); rw [z0, z1, z2, z3, z4, z5, z6, z7, z8, z9, z10, KE.out], first_below k4⟩
              · have OLD := Lib.hid old
                have KE : Hid (gE l = 0) := by
                  obtain ⟨x1, x2, x3, x4, x5, x6, x7, x8, x9, x10, x11⟩ := X.out
                  exact Lib.hid (gE_good l x1 B0.out K.out (x5 ▸ far) (x8 ▸ x9 ▸ old))
                go_wp2_with fail
                (with_reducible refine (check_good ch ak ro co br po ag ma he de (by have := FAR.out; omega) (by have := OLD.out; omega) _).mono ?_); rintro e w8 ⟨rfl, hb8⟩
                have g8 := g7.same hL hH7.out hb8
                clear c0 c1 c2 c3 c4 c5 c6 c7 c8 c9 c10 z0 z1 z2 z3 z4 z5 z6 z7 z8 z9 z10 d0 d1 d2 d3 d4 d5 d6 d7 d8 d9 d10 far old
                obtain ⟨_, _, hX, hY, _⟩ := id g8
                obtain ⟨c0, c1, c2, c3, c4, c5, c6, c7, c8, c9, c10⟩ := BB.cells (show BB _ w.heap.size false false false 0 0 0 0 0 0 0 0 from hX)
                obtain ⟨z0, z1, z2, z3, z4, z5, z6, z7, z8, z9, z10⟩ := BB.thaws (show BB _ w.heap.size false false false 0 0 0 0 0 0 0 0 from hX)
                obtain ⟨d0, d1, d2, d3, d4, d5, d6, d7, d8, d9, d10⟩ := BB.cells (show BB _ (w.heap.size + 1) false ch ak ro co br po ag ma he de from hY)
                clear hX hY
                go_wp2_with fail
                have gz := (((((((((((g8.put hL 0 (.bool false)).put hL 1 (.bool ch)).put hL 2 (.bool ak)).put hL 3 (.int .u64 ro)).put hL 4 (.int .u32 co)).put hL 5 (.int .u64 br)).put hL 6 (.int .u16 po)).put hL 7 (.int .u16 ag)).put hL 8 (.int .u16 ma)).put hL 9 (.int .u16 he)).put hL 10 (.int .u16 de))
                generalize World.setCell _ ⟨w.heap.size, 10, none⟩ _ = we at gz ⊢
                obtain ⟨_, _, k2, _, k4⟩ := gz
                obtain ⟨e0, e1, e2, e3, e4, e5, e6, e7, e8, e9, e10⟩ := BB.cells (show BB we w.heap.size false ch ak ro co br po ag ma he de from k2)
                simp only [Exit.jump]
                exact bodyPost_ret (v := .tuple #[.agg #[.bool false, .bool ch, .bool ak, .int .u64 ro, .int .u32 co, .int .u64 br, .int .u16 po, .int .u16 ag, .int .u16 ma, .int .u16 he, .int .u16 de], .int .i64 0]) (by simp [results, Tryz.results32, go_sem, e0, e1, e2, e3, e4, e5, e6, e7, e8, e9, e10]) rfl ⟨by obtain ⟨x1, x2, x3, x4, x5, x6, x7, x8, x9, x10, x11⟩ := X.out; obtain ⟨z0, z1, z2, z3, z4, z5, z6, z7, z8, z9, z10⟩ := g_conf l KE.out K.out; rw [z0, z1, z2, z3, z4, z5, z6, z7, z8, z9, z10, KE.out, x2, x3, x4, x5, x6, x7, x8, x9, x10, x11], first_below k4⟩
          · have KE : Hid (gE l = 2) := by
              rcases NW.out with ⟨_, e⟩ | ⟨e, _⟩
              · exact Lib.hid (gE_few l HL.out B0.out K.out e)
              · cases e
            go_wp2_with fail
            go_step3
            exact ⟨rfl, _, _, _, _, _, _, _, _, _, _, _, _, _, _, _, _, _, _, _, _, _, _, _, _, _, _, _, _, _, _, _, _, _, _, _, _, _, _, _, _, _, _, _, _, _, rfl, KE.out, lo, hi, h, l9, true, _, hL.out, g7⟩
          -- END CONFIG
        · by_cases k1 : vk = 128
          · have K : Hid (fld l 3 1 = 128) := Lib.hid (HK.out ▸ k1)
            subst k1
            clear k0
            go_wp2_with fail
            have gz := (((((((((((g4.put hL 0 (.bool true)).put hL 1 (.bool false)).put hL 2 (.bool false)).put hL 3 (.int .u64 0)).put hL 4 (.int .u32 0)).put hL 5 (.int .u64 0)).put hL 6 (.int .u16 0)).put hL 7 (.int .u16 0)).put hL 8 (.int .u16 0)).put hL 9 (.int .u16 0)).put hL 10 (.int .u16 0))
            generalize World.setCell _ ⟨w.heap.size, 10, none⟩ _ = we at gz ⊢
            obtain ⟨_, _, k2, _, k4⟩ := gz
            obtain ⟨e0, e1, e2, e3, e4, e5, e6, e7, e8, e9, e10⟩ := BB.cells (show BB we w.heap.size true false false 0 0 0 0 0 0 0 0 from k2)
            simp only [Exit.jump]
            exact bodyPost_ret (v := .tuple #[.agg #[.bool true, .bool false, .bool false, .int .u64 0, .int .u32 0, .int .u64 0, .int .u16 0, .int .u16 0, .int .u16 0, .int .u16 0, .int .u16 0], .int .i64 0]) (by simp [results, Tryz.results32, go_sem, e0, e1, e2, e3, e4, e5, e6, e7, e8, e9, e10]) rfl ⟨by obtain ⟨z0, z1, z2, z3, z4, z5, z6, z7, z8, z9, z10⟩ := g_tcn l (gE_tcn l HL.out B0.out K.out) K.out; rw [z0, z1, z2, z3, z4, z5, z6, z7, z8, z9, z10, gE_tcn l HL.out B0.out K.out], first_below k4⟩
          · have d1 : (vk != 0) = true := by simpa using k0
            have d2 : (vk != 128) = true := by simpa using k1
            have K : Hid (gE l = 3) := Lib.hid (gE_form l HL.out (.inr ⟨HK.out ▸ k0, HK.out ▸ k1⟩))
            clear k0 k1
            go_wp2_with fail
            have gz := (((((((((((g4.put hL 0 (.bool false)).put hL 1 (.bool false)).put hL 2 (.bool false)).put hL 3 (.int .u64 0)).put hL 4 (.int .u32 0)).put hL 5 (.int .u64 0)).put hL 6 (.int .u16 0)).put hL 7 (.int .u16 0)).put hL 8 (.int .u16 0)).put hL 9 (.int .u16 0)).put hL 10 (.int .u16 0))
            generalize World.setCell _ ⟨w.heap.size, 10, none⟩ _ = we at gz ⊢
            obtain ⟨_, _, k2, _, k4⟩ := gz
            obtain ⟨e0, e1, e2, e3, e4, e5, e6, e7, e8, e9, e10⟩ := BB.cells (show BB we w.heap.size false false false 0 0 0 0 0 0 0 0 from k2)
            simp only [Exit.jump]
            exact bodyPost_ret (v := .tuple #[.agg #[.bool false, .bool false, .bool false, .int .u64 0, .int .u32 0, .int .u64 0, .int .u16 0, .int .u16 0, .int .u16 0, .int .u16 0, .int .u16 0], .int .i64 3]) (by simp [results, Tryz.results32, go_sem, e0, e1, e2, e3, e4, e5, e6, e7, e8, e9, e10]) rfl ⟨by obtain ⟨z0, z1, z2, z3, z4, z5, z6, z7, z8, z9, z10⟩ := g_bad l (by rw [K.out]; decide); rw [z0, z1, z2, z3, z4, z5, z6, z7, z8, z9, z10, K.out], first_below k4⟩
      · have d0 : (vb != 0) = true := by simpa using b0
        have K : Hid (gE l = 3) := Lib.hid (gE_form l HL.out (.inl (HB.out ▸ b0)))
        clear b0
        go_wp2_with fail
        have gz := (((((((((((g4.put hL 0 (.bool false)).put hL 1 (.bool false)).put hL 2 (.bool false)).put hL 3 (.int .u64 0)).put hL 4 (.int .u32 0)).put hL 5 (.int .u64 0)).put hL 6 (.int .u16 0)).put hL 7 (.int .u16 0)).put hL 8 (.int .u16 0)).put hL 9 (.int .u16 0)).put hL 10 (.int .u16 0))
        generalize World.setCell _ ⟨w.heap.size, 10, none⟩ _ = we at gz ⊢
        obtain ⟨_, _, k2, _, k4⟩ := gz
        obtain ⟨e0, e1, e2, e3, e4, e5, e6, e7, e8, e9, e10⟩ := BB.cells (show BB we w.heap.size false false false 0 0 0 0 0 0 0 0 from k2)
        simp only [Exit.jump]
        exact bodyPost_ret (v := .tuple #[.agg #[.bool false, .bool false, .bool false, .int .u64 0, .int .u32 0, .int .u64 0, .int .u16 0, .int .u16 0, .int .u16 0, .int .u16 0, .int .u16 0], .int .i64 3]) (by simp [results, Tryz.results32, go_sem, e0, e1, e2, e3, e4, e5, e6, e7, e8, e9, e10]) rfl ⟨by obtain ⟨z0, z1, z2, z3, z4, z5, z6, z7, z8, z9, z10⟩ := g_bad l (by rw [K.out]; decide); rw [z0, z1, z2, z3, z4, z5, z6, z7, z8, z9, z10, K.out], first_below k4⟩
    · have K : Hid (gE l = 2) := Lib.hid (gE_short l (HF.out.1 rfl))
      go_wp2_with fail
      go_step3
      exact ⟨rfl, _, _, _, _, _, _, _, _, _, _, _, _, _, _, _, _, _, _, _, _, _, _, _, _, _, _, _, _, _, _, _, _, _, _, _, _, _, _, _, _, _, _, _, _, _, rfl, K.out, lo, hi, h, lk, true, _, hL.out, g4⟩
  · rintro a' w' ⟨u1, u3, u4, u5, u6, u7, u8, u9, u10, u11, u12, u13, u14, u15, u16, u17, u18, u19, u20, u21, u22, u23, u24, u25, u26, u27, u28, u29, u30, u31, u32, u33, u34, u35, u36, u37, u38, u39, u40, u41, u42, u43, u44, u45, u46, rfl, hE, lo, hi, h, l', s', ds, hlo, g⟩
    have hL := Lib.hid hlo
    have HE := Lib.hid hE
    clear hlo hE
    obtain ⟨_, _, hX, hY, _⟩ := id g
    obtain ⟨c0, c1, c2, c3, c4, c5, c6, c7, c8, c9, c10⟩ := BB.cells (show BB _ w.heap.size false false false 0 0 0 0 0 0 0 0 from hX)
    obtain ⟨z0, z1, z2, z3, z4, z5, z6, z7, z8, z9, z10⟩ := BB.thaws (show BB _ w.heap.size false false false 0 0 0 0 0 0 0 0 from hX)
    clear hX hY
    go_wp2_with fail
    have gz := (((((((((((g.put hL 0 (.bool false)).put hL 1 (.bool false)).put hL 2 (.bool false)).put hL 3 (.int .u64 0)).put hL 4 (.int .u32 0)).put hL 5 (.int .u64 0)).put hL 6 (.int .u16 0)).put hL 7 (.int .u16 0)).put hL 8 (.int .u16 0)).put hL 9 (.int .u16 0)).put hL 10 (.int .u16 0))
    generalize World.setCell _ ⟨w.heap.size, 10, none⟩ _ = we at gz ⊢
    obtain ⟨_, _, k2, _, k4⟩ := gz
    obtain ⟨e0, e1, e2, e3, e4, e5, e6, e7, e8, e9, e10⟩ := BB.cells (show BB we w.heap.size false false false 0 0 0 0 0 0 0 0 from k2)
    simp only [Exit.jump]
    exact bodyPost_ret (v := .tuple #[.agg #[.bool false, .bool false, .bool false, .int .u64 0, .int .u32 0, .int .u64 0, .int .u16 0, .int .u16 0, .int .u16 0, .int .u16 0, .int .u16 0], .int .i64 2]) (by simp [results, Tryz.results32, go_sem, e0, e1, e2, e3, e4, e5, e6, e7, e8, e9, e10]) rfl ⟨by obtain ⟨z0, z1, z2, z3, z4, z5, z6, z7, z8, z9, z10⟩ := g_bad l (by rw [HE.out]; decide); rw [z0, z1, z2, z3, z4, z5, z6, z7, z8, z9, z10, HE.out], first_below k4⟩

end Go.Proofs.YteplefdnnehdgaaGreatDoor
