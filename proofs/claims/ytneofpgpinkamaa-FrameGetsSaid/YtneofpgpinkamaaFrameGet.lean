/- Get: the frame of bytes, as the program reads it. -/
import Derived.Test.YtneofpgpinkamaaFrameBase
import Derived.Test.YtneofpgpinkamaaWireNum
namespace Go.Proofs.Ytneofpgpinkamaa
open Go.ChangeShapes Go.WideShapes Go.ChangeAt Go.RowKit
set_option linter.unusedVariables false

/-- What is wrong with the data, of a Kind, where so many bytes are left. -/
def gdE (k : Int) (n : Nat) : Int := if k ≤ 1500 then (if (n : Int) < k then 2 else 0) else if k < 1536 then 3 else if 1500 < n then 4 else 0

/-- The data, of a Kind. -/
def gdL (k : Int) (l : List UInt8) : List UInt8 := if k ≤ 1500 then l.take k.toNat else l

def toOf (l : List UInt8) : Int := numU (l.take 6)
def fromOf (l : List UInt8) : Int := numU ((l.drop 6).take 6)
def kindOf (l : List UInt8) : Int := numU ((l.drop 12).take 2)
def getE (l : List UInt8) : Int := if l.length < 14 then 2 else gdE (kindOf l) (l.drop 14).length
def getL (l : List UInt8) : List UInt8 := gdL (kindOf l) (l.drop 14)

theorem numU_two (x : List UInt8) (h : x.length ≤ 2) : 0 ≤ numU x ∧ numU x < 65536 := by
  match x, h with
  | [], _ => simp [numU]
  | [a], _ =>
    have := a.toNat_lt
    simp [numU]; omega
  | [a, b], _ =>
    have := a.toNat_lt
    have := b.toNat_lt
    simp [numU]; omega

theorem kindOf_lt (l : List UInt8) : 0 ≤ kindOf l ∧ kindOf l < 65536 := numU_two _ (by simp; omega)

theorem isLen_yes (k : Int) (h : k ≤ 1500) (w : World) : Calls Try.prog 22 #[.int .u16 k] w fun e w' => e = .returned (.bool true) ∧ w = w' := by
  go_enter Try.func22, Try.ntmps22
  go_wp2
  go_ret
  exact ⟨rfl, rfl⟩

theorem isLen_no (k : Int) (h : decide (k ≤ 1500) = false) (w : World) : Calls Try.prog 22 #[.int .u16 k] w fun e w' => e = .returned (.bool false) ∧ w = w' := by
  go_enter Try.func22, Try.ntmps22
  go_wp2
  go_ret
  exact ⟨rfl, rfl⟩

theorem isType_yes (k : Int) (h : 1536 ≤ k) (w : World) : Calls Try.prog 21 #[.int .u16 k] w fun e w' => e = .returned (.bool true) ∧ w = w' := by
  go_enter Try.func21, Try.ntmps21
  go_wp2
  go_ret
  exact ⟨rfl, rfl⟩

theorem isType_no (k : Int) (h : k < 1536) (w : World) : Calls Try.prog 21 #[.int .u16 k] w fun e w' => e = .returned (.bool false) ∧ w = w' := by
  have h' : decide (1536 ≤ k) = false := by simpa using h
  go_enter Try.func21, Try.ntmps21
  go_wp2
  go_ret
  exact ⟨rfl, rfl⟩

/-- What 'getData' leaves where it answers data. -/
def GdOk (l : List UInt8) (m lo hi : Nat) (w : World) (e : Ending) (w' : World) : Prop :=
  ∃ g, e = .returned (.tuple #[.slice (some ⟨g, 0, none⟩) m m, .int .i64 0]) ∧ w.heap.size ≤ g ∧ Bk w' g 5 (l.map bc) ∧ Below lo w w'

def GdBad (z : Int) (lo : Nat) (w : World) (e : Ending) (w' : World) : Prop :=
  ∃ A n c, e = .returned (.tuple #[.slice A n c, .int .i64 z]) ∧ Below lo w w'

theorem gd_bad (lo hi h : Nat) (A : Option Addr) (l : List UInt8) (k : Int) (z : Int) (hz : Hid (gdE k l.length = z)) (hz0 : z ≠ 0) (h0 : 0 ≤ k) (h1 : k < 65536) (w : World) (hr : RD 59 w lo hi h A l false) (hm : l.length ≤ 100000) (hhi : hi ≤ w.heap.size) :
    Calls Try.prog 27 #[.pointer (some ⟨h, 0, none⟩), .int .u16 k] w (GdBad z lo w) := by
  have hlo : lo ≤ w.heap.size := Nat.le_trans hr.1 (Nat.le_trans (Nat.le_of_lt hr.2.1) hhi)
  by_cases g1 : k ≤ 1500
  · have g2 : (l.length : Int) < k := by
      have := hz.out
      unfold gdE at this
      rw [if_pos g1] at this
      by_cases q : (l.length : Int) < k
      · exact q
      · rw [if_neg q] at this; exact absurd this.symm hz0
    have e : z = 2 := by rw [← hz.out]; unfold gdE; rw [if_pos g1, if_pos g2]
    subst e
    have hbad : BadN false l.length k := .inr (.inr g2)
    clear hz hz0
    go_enter Try.func27, Try.ntmps27
    go_wp2_with fail
    (with_reducible refine (isLen_yes _ g1 _).mono ?_); rintro e w' ⟨rfl, rfl⟩
    go_wp2_with fail
    (with_reducible refine (bytes_bad lo hi h A l false k _ hr (by omega) (by omega) (by omega) hhi hbad).mono ?_); rintro e w1 ⟨rfl, hr1, hB1, hb1⟩
    go_wp2_with fail
    (with_reducible refine (err_any lo hi h A l true _ hr1).mono ?_); rintro e w2 ⟨rfl, rfl⟩
    go_wp2
    go_ret2
    exact ⟨_, _, _, rfl, hb1⟩
  · have d1 : decide (k ≤ 1500) = false := by simpa using g1
    by_cases g2 : k < 1536
    · have e : z = 3 := by rw [← hz.out]; unfold gdE; rw [if_neg g1, if_pos g2]
      subst e
      clear hz hz0
      go_enter Try.func27, Try.ntmps27
      go_wp2_with fail
      (with_reducible refine (isLen_no _ d1 _).mono ?_); rintro e w' ⟨rfl, rfl⟩
      go_wp2_with fail
      (with_reducible refine (isType_no _ g2 _).mono ?_); rintro e w' ⟨rfl, rfl⟩
      go_wp2
      go_ret2
      exact ⟨_, _, _, rfl, Below.refl _ _⟩
    · have g3 : 1500 < l.length := by
        have := hz.out
        unfold gdE at this
        rw [if_neg g1, if_neg g2] at this
        by_cases q : 1500 < l.length
        · exact q
        · rw [if_neg q] at this; exact absurd this.symm hz0
      have e : z = 4 := by rw [← hz.out]; unfold gdE; rw [if_neg g1, if_neg g2, if_pos g3]
      subst e
      have d3 : decide (1500 < (l.length : Int)) = true := by simp; omega
      clear hz hz0
      go_enter Try.func27, Try.ntmps27
      go_wp2_with fail
      (with_reducible refine (isLen_no _ d1 _).mono ?_); rintro e w' ⟨rfl, rfl⟩
      go_wp2_with fail
      (with_reducible refine (isType_yes _ (by omega) _).mono ?_); rintro e w' ⟨rfl, rfl⟩
      go_wp2_with fail
      (with_reducible refine (rest_any lo hi h A l false _ hr (by omega)).mono ?_); rintro e w1 ⟨rfl, hB1, hb1⟩
      go_wp2
      go_ret2
      exact ⟨_, _, _, rfl, hb1.mono hlo⟩

theorem gd_ok (lo hi h : Nat) (A : Option Addr) (l : List UInt8) (k : Int) (x : List UInt8) (m : Nat) (hx : Hid (x = gdL k l)) (hxm : Hid (x.length = m)) (hz : Hid (gdE k l.length = 0)) (h0 : 0 ≤ k) (h1 : k < 65536) (w : World) (hr : RD 59 w lo hi h A l false) (hm : l.length ≤ 100000) (hhi : hi ≤ w.heap.size) :
    Calls Try.prog 27 #[.pointer (some ⟨h, 0, none⟩), .int .u16 k] w (GdOk x m lo hi w) := by
  have hlo : lo ≤ w.heap.size := Nat.le_trans hr.1 (Nat.le_trans (Nat.le_of_lt hr.2.1) hhi)
  by_cases g1 : k ≤ 1500
  · have g2 : ¬ (l.length : Int) < k := by
      have := hz.out
      unfold gdE at this
      rw [if_pos g1] at this
      by_cases q : (l.length : Int) < k
      · rw [if_pos q] at this; cases this
      · exact q
    obtain ⟨j, rfl⟩ : ∃ j : Nat, k = j := ⟨k.toNat, by omega⟩
    have e : x = l.take j := by rw [hx.out]; unfold gdL; rw [if_pos g1]; simp
    have ej : j = m := by rw [← hxm.out, e]; simp; omega
    subst ej
    have E := Lib.hid e
    clear e hx hz hxm
    go_enter Try.func27, Try.ntmps27
    go_wp2_with fail
    (with_reducible refine (isLen_yes _ g1 _).mono ?_); rintro e w' ⟨rfl, rfl⟩
    go_wp2_with fail
    (with_reducible refine (bytes_ok lo hi h A l j _ hr (by omega) (by omega) hhi).mono ?_); rintro e w1 ⟨rfl, hr1, hB1, hb1⟩
    go_wp2_with fail
    (with_reducible refine (err_any lo hi h _ _ false _ hr1).mono ?_); rintro e w2 ⟨rfl, rfl⟩
    go_wp2
    go_ret2
    exact ⟨w.heap.size, rfl, Nat.le_refl _, by rw [E.out]; exact hB1, hb1⟩
  · have d1 : decide (k ≤ 1500) = false := by simpa using g1
    have g2 : 1536 ≤ k := by
      have := hz.out
      unfold gdE at this
      rw [if_neg g1] at this
      by_cases q : k < 1536
      · rw [if_pos q] at this; cases this
      · omega
    have g3 : l.length ≤ 1500 := by
      have := hz.out
      unfold gdE at this
      rw [if_neg g1, if_neg (by omega)] at this
      by_cases q : 1500 < l.length
      · rw [if_pos q] at this; cases this
      · omega
    have e : x = l := by rw [hx.out]; unfold gdL; rw [if_neg g1]
    subst e
    have ej := hxm.out
    have d3 : decide (1500 < (x.length : Int)) = false := by simp; omega
    clear hx hz hxm
    have EJ := Lib.hid ej
    clear ej
    go_enter Try.func27, Try.ntmps27
    go_wp2_with fail
    (with_reducible refine (isLen_no _ d1 _).mono ?_); rintro e w' ⟨rfl, rfl⟩
    go_wp2_with fail
    (with_reducible refine (isType_yes _ (by omega) _).mono ?_); rintro e w' ⟨rfl, rfl⟩
    go_wp2_with fail
    (with_reducible refine (rest_any lo hi h A x false _ hr (by omega)).mono ?_); rintro e w1 ⟨rfl, hB1, hb1⟩
    go_wp2
    go_ret2
    exact ⟨w.heap.size, by rw [EJ.out]; rfl, Nat.le_refl _, hB1, hb1.mono hlo⟩

/-- What 'Get' leaves where it answers a frame. -/
def GetOk (l x : List UInt8) (m : Nat) (w : World) (e : Ending) (w' : World) : Prop :=
  ∃ g, e = .returned (.tuple #[.agg #[.int .u64 (toOf l), .int .u64 (fromOf l), .int .u16 (kindOf l), .slice (some ⟨g, 0, none⟩) m m], .int .i64 0]) ∧ w.heap.size ≤ g ∧ Bk w' g 5 (x.map bc) ∧ Below w.heap.size w w'

def GetBad (z : Int) (w : World) (e : Ending) (w' : World) : Prop :=
  e = .returned (.tuple #[.agg #[.int .u64 0, .int .u64 0, .int .u16 0, .slice none 0 0], .int .i64 z]) ∧ Below w.heap.size w w'

theorem get_ok (A : Option Addr) (n c : Nat) (l x : List UInt8) (m : Nat) (hl : Hid (l.length = n)) (hn : n ≤ 10000) (hx : Hid (x = getL l)) (hxm : Hid (x.length = m)) (hz : Hid (getE l = 0)) (w : World) (hr : RB w A 0 w.heap.size l) :
    Calls Try.prog 13 #[.slice A n c] w (GetOk l x m w) := by
  have h14 : 14 ≤ l.length := by
    have := hz.out
    unfold getE at this
    by_cases q : l.length < 14
    · rw [if_pos q] at this; cases this
    · omega
  have hgd : Hid (gdE (kindOf l) (l.drop 14).length = 0) := by
    have := hz.out
    unfold getE at this
    rw [if_neg (by omega)] at this
    exact this
  obtain ⟨l1, hl1⟩ : ∃ l1, l1 = l.drop 6 := ⟨_, rfl⟩
  obtain ⟨l2, hl2⟩ : ∃ l2, l2 = l1.drop 6 := ⟨_, rfl⟩
  obtain ⟨l3, hl3⟩ : ∃ l3, l3 = l2.drop 2 := ⟨_, rfl⟩
  have e2 : l2 = l.drop 12 := by rw [hl2, hl1, List.drop_drop]
  have e3 : l3 = l.drop 14 := by rw [hl3, e2, List.drop_drop]
  have ht : Hid (numU (l.take 6) = toOf l) := Lib.hid rfl
  have hf : Hid (numU (l1.take 6) = fromOf l) := by show _ = _; rw [hl1]; rfl
  have hk : Hid (numU (l2.take 2) = kindOf l) := by show _ = _; rw [e2]; rfl
  obtain ⟨k0, k1⟩ := kindOf_lt l
  have hx3 : Hid (x = gdL (kindOf l) l3) := by show _ = _; rw [e3]; exact hx.out
  have hgd3 : Hid (gdE (kindOf l) l3.length = 0) := by show _ = _; rw [e3]; exact hgd.out
  have hn0 := hl.out
  have q1 : l1.length = l.length - 6 := by rw [hl1]; simp
  have q2 : l2.length = l.length - 12 := by rw [e2]; simp
  have q3 : l3.length = l.length - 14 := by rw [e3]; simp
  have b0 : 6 ≤ l.length := by omega
  have b1 : 6 ≤ l1.length := by omega
  have b2 : 2 ≤ l2.length := by omega
  have u0 : l.length ≤ 100000 := by omega
  have u1 : l1.length ≤ 100000 := by omega
  have u2 : l2.length ≤ 100000 := by omega
  have u3 : l3.length ≤ 100000 := by omega
  have HL1 := Lib.hid hl1
  have HL2 := Lib.hid hl2
  have HL3 := Lib.hid hl3
  clear hl1 hl2 hl3 e2 e3 q1 q2 q3 hn0 hgd hx hz h14
  obtain ⟨t, hT⟩ : ∃ t, t = toOf l := ⟨_, rfl⟩
  obtain ⟨f, hF⟩ : ∃ f, f = fromOf l := ⟨_, rfl⟩
  obtain ⟨k, hK⟩ : ∃ k, k = kindOf l := ⟨_, rfl⟩
  unfold GetOk
  rw [← hT] at ht ⊢
  rw [← hF] at hf ⊢
  rw [← hK] at hk hx3 hgd3 k0 k1 ⊢
  clear hT hF hK
  have hwk : IntKind.u16.wrap k = k := by rw [show IntKind.u16.wrap k = k % 65536 by simp [IntKind.wrap, IntKind.bits, IntKind.signed]]; omega
  go_enter Try.func13, Try.ntmps13
  go_wp2_with fail
  obtain ⟨w0, hB0, hbb0, hs0, hw0⟩ := boxed w 0 0 0 none 0 0
  rw [← hw0]
  clear hw0
  (with_reducible refine (new_any A c l n 0 w.heap.size hl (by omega) _ (hr.below hbb0 (Nat.le_refl _)) (Nat.le_of_lt hs0)).mono ?_); rintro e w1 ⟨hp, A1, rfl, hR1, hb1⟩
  have hB1 := hB0.below hb1 hs0
  obtain ⟨hi, hhi⟩ : ∃ hi, hi = w1.heap.size := ⟨_, rfl⟩
  rw [← hhi] at hR1
  have HHI := Lib.hid hhi
  clear hhi hB0
  go_wp2_with fail
  (with_reducible refine (num_ok _ _ hp _ l 6 6 (Lib.hid rfl) _ hR1 (by omega) b0).mono ?_); rintro e w2 ⟨rfl, hR2, hb2, hz2⟩
  rw [ht.out]
  rw [← HL1.out] at hR2
  have hB2 := hB1.below hb2 hs0
  have Z2 := Lib.hid hz2
  clear hz2 hB1 hR1
  go_wp2_with fail
  (with_reducible refine (num_ok _ _ hp _ l1 6 6 (Lib.hid rfl) _ hR2 (by omega) b1).mono ?_); rintro e w3 ⟨rfl, hR3, hb3, hz3⟩
  rw [hf.out]
  rw [← HL2.out] at hR3
  have hB3 := hB2.below hb3 hs0
  have Z3 := Lib.hid hz3
  clear hz3 hB2 hR2
  go_wp2_with fail
  (with_reducible refine (num_ok _ _ hp _ l2 2 2 (Lib.hid rfl) _ hR3 (by omega) b2).mono ?_); rintro e w4 ⟨rfl, hR4, hb4, hz4⟩
  rw [hk.out]
  rw [← HL3.out] at hR4
  have hB4 := hB3.below hb4 hs0
  have Z4 := Lib.hid hz4
  clear hz4 hB3 hR3
  go_wp2_with fail
  (with_reducible refine (short_any _ _ hp _ l3 false _ hR4).mono ?_); rintro e w' ⟨rfl, rfl⟩
  have hhi4 : hi ≤ w4.heap.size := by rw [Z4.out, Z3.out, Z2.out, HHI.out]; exact Nat.le_refl _
  go_wp2_with fail
  (with_reducible refine (gd_ok _ _ hp _ l3 k x m hx3 hxm hgd3 k0 k1 _ hR4 u3 hhi4).mono ?_); rintro e w5 ⟨g, rfl, hg5, hP5, hb5⟩
  have hB5 := hB4.below hb5 hs0
  have hsz : w.heap.size < g := by
    have := hb1.size; have := hb2.size; have := hb3.size; have := hb4.size; omega
  have hbw : Below w.heap.size w w5 := below_two hbb0 (hb1.trans (hb2.trans (hb3.trans (hb4.trans hb5)))) (Nat.le_of_lt hs0)
  obtain ⟨c0, c1, c2, c3⟩ := hB5.cells
  obtain ⟨z0, z1, z2, z3⟩ := hB5.thaws
  clear hB4 hB5 hb1 hb2 hb3 hb4 hb5 Z2 Z3 Z4 HHI hR4
  go_wp2
  refine bodyPost_ret (v := .tuple #[.agg #[.int .u64 t, .int .u64 f, .int .u16 k, .slice (some ⟨g, 0, none⟩) m m], .int .i64 0]) (by simp [results, Try.results13, go_sem, c0, c1, c2, c3]) rfl ⟨g, rfl, Nat.le_of_lt hsz, ?_, ?_⟩
  · exact (((hP5.far (Nat.ne_of_lt hsz) _).far (Nat.ne_of_lt hsz) _).far (Nat.ne_of_lt hsz) _).far (Nat.ne_of_lt hsz) _
  · exact (((hbw.setCell (Nat.le_refl _) _).setCell (Nat.le_refl _) _).setCell (Nat.le_refl _) _).setCell (Nat.le_refl _) _

theorem get_short1 (A : Option Addr) (n c : Nat) (l : List UInt8) (hl : Hid (l.length = n)) (hn : n ≤ 10000) (h : l.length < 6) (w : World) (hr : RB w A 0 w.heap.size l) :
    Calls Try.prog 13 #[.slice A n c] w (GetBad 2 w) := by
  obtain ⟨l1, hl1⟩ : ∃ l1, l1 = l.drop 6 := ⟨_, rfl⟩
  obtain ⟨l2, hl2⟩ : ∃ l2, l2 = l1.drop 6 := ⟨_, rfl⟩
  have hn0 := hl.out
  have q1 : l1.length = l.length - 6 := by rw [hl1]; simp
  have q2 : l2.length = l.length - 12 := by rw [hl2, hl1]; simp
  have B0 : BadN false l.length 6 := .inr (.inr (by omega))
  have B1 : BadN true l.length 6 := .inl rfl
  have B2 : BadN true l.length 2 := .inl rfl
  have u0 : l.length ≤ 100000 := by omega
  have u1 : l1.length ≤ 100000 := by omega
  have u2 : l2.length ≤ 100000 := by omega
  have HL1 := Lib.hid hl1
  have HL2 := Lib.hid hl2
  clear hl1 hl2 q1 q2 hn0
  go_enter Try.func13, Try.ntmps13
  go_wp2_with fail
  obtain ⟨w0, hB0, hbb0, hs0, hw0⟩ := boxed w 0 0 0 none 0 0
  rw [← hw0]
  clear hw0
  (with_reducible refine (new_any A c l n 0 w.heap.size hl (by omega) _ (hr.below hbb0 (Nat.le_refl _)) (Nat.le_of_lt hs0)).mono ?_); rintro e w1 ⟨hp, A1, rfl, hR1, hb1⟩
  have hB1 := hB0.below hb1 hs0
  obtain ⟨hi, hhi⟩ : ∃ hi, hi = w1.heap.size := ⟨_, rfl⟩
  rw [← hhi] at hR1
  clear hhi hB0
  go_wp2_with fail
  (with_reducible refine (num_bad _ _ hp _ l _ 6 _ hR1 (by omega) (by omega) (by omega) B0).mono ?_); rintro e w2 ⟨rfl, hR2, hb2, hz2⟩
  have hB2 := hB1.below hb2 hs0
  clear hz2 hB1 hR1
  go_wp2_with fail
  (with_reducible refine (num_bad _ _ hp _ l _ 6 _ hR2 (by omega) (by omega) (by omega) B1).mono ?_); rintro e w3 ⟨rfl, hR3, hb3, hz3⟩
  have hB3 := hB2.below hb3 hs0
  clear hz3 hB2 hR2
  go_wp2_with fail
  (with_reducible refine (num_bad _ _ hp _ l _ 2 _ hR3 (by omega) (by omega) (by omega) B2).mono ?_); rintro e w4 ⟨rfl, hR4, hb4, hz4⟩
  have hB4 := hB3.below hb4 hs0
  clear hz4 hB3 hR3
  go_wp2_with fail
  (with_reducible refine (short_any _ _ hp _ _ true _ hR4).mono ?_); rintro e w' ⟨rfl, rfl⟩
  have hbw : Below w.heap.size w w4 := below_two hbb0 (hb1.trans (hb2.trans (hb3.trans hb4))) (Nat.le_of_lt hs0)
  obtain ⟨c0, c1, c2, c3⟩ := hB4.cells
  obtain ⟨z0, z1, z2, z3⟩ := hB4.thaws
  clear hB4 hb1 hb2 hb3 hb4 hR4
  go_wp2
  refine bodyPost_ret (v := .tuple #[.agg #[.int .u64 0, .int .u64 0, .int .u16 0, .slice none 0 0], .int .i64 2]) (by simp [results, Try.results13, go_sem, c0, c1, c2, c3]) rfl ⟨rfl, ?_⟩
  exact (((hbw.setCell (Nat.le_refl _) _).setCell (Nat.le_refl _) _).setCell (Nat.le_refl _) _).setCell (Nat.le_refl _) _

theorem get_short2 (A : Option Addr) (n c : Nat) (l : List UInt8) (hl : Hid (l.length = n)) (hn : n ≤ 10000) (h6 : 6 ≤ l.length) (h : l.length < 12) (w : World) (hr : RB w A 0 w.heap.size l) :
    Calls Try.prog 13 #[.slice A n c] w (GetBad 2 w) := by
  obtain ⟨l1, hl1⟩ : ∃ l1, l1 = l.drop 6 := ⟨_, rfl⟩
  obtain ⟨l2, hl2⟩ : ∃ l2, l2 = l1.drop 6 := ⟨_, rfl⟩
  have hn0 := hl.out
  have q1 : l1.length = l.length - 6 := by rw [hl1]; simp
  have q2 : l2.length = l.length - 12 := by rw [hl2, hl1]; simp
  have B0 : 6 ≤ l.length := h6
  have B1 : BadN false l1.length 6 := .inr (.inr (by omega))
  have B2 : BadN true l1.length 2 := .inl rfl
  have u0 : l.length ≤ 100000 := by omega
  have u1 : l1.length ≤ 100000 := by omega
  have u2 : l2.length ≤ 100000 := by omega
  have HL1 := Lib.hid hl1
  have HL2 := Lib.hid hl2
  clear hl1 hl2 q1 q2 hn0
  go_enter Try.func13, Try.ntmps13
  go_wp2_with fail
  obtain ⟨w0, hB0, hbb0, hs0, hw0⟩ := boxed w 0 0 0 none 0 0
  rw [← hw0]
  clear hw0
  (with_reducible refine (new_any A c l n 0 w.heap.size hl (by omega) _ (hr.below hbb0 (Nat.le_refl _)) (Nat.le_of_lt hs0)).mono ?_); rintro e w1 ⟨hp, A1, rfl, hR1, hb1⟩
  have hB1 := hB0.below hb1 hs0
  obtain ⟨hi, hhi⟩ : ∃ hi, hi = w1.heap.size := ⟨_, rfl⟩
  rw [← hhi] at hR1
  clear hhi hB0
  go_wp2_with fail
  (with_reducible refine (num_ok _ _ hp _ l 6 6 (Lib.hid rfl) _ hR1 (by omega) B0).mono ?_); rintro e w2 ⟨rfl, hR2, hb2, hz2⟩
  rw [← HL1.out] at hR2
  obtain ⟨y1, hy1⟩ : ∃ y, y = numU (l.take 6) := ⟨_, rfl⟩
  rw [← hy1]
  clear hy1
  have hB2 := hB1.below hb2 hs0
  clear hz2 hB1 hR1
  go_wp2_with fail
  (with_reducible refine (num_bad _ _ hp _ l1 _ 6 _ hR2 (by omega) (by omega) (by omega) B1).mono ?_); rintro e w3 ⟨rfl, hR3, hb3, hz3⟩
  have hB3 := hB2.below hb3 hs0
  clear hz3 hB2 hR2
  go_wp2_with fail
  (with_reducible refine (num_bad _ _ hp _ l1 _ 2 _ hR3 (by omega) (by omega) (by omega) B2).mono ?_); rintro e w4 ⟨rfl, hR4, hb4, hz4⟩
  have hB4 := hB3.below hb4 hs0
  clear hz4 hB3 hR3
  go_wp2_with fail
  (with_reducible refine (short_any _ _ hp _ _ true _ hR4).mono ?_); rintro e w' ⟨rfl, rfl⟩
  have hbw : Below w.heap.size w w4 := below_two hbb0 (hb1.trans (hb2.trans (hb3.trans hb4))) (Nat.le_of_lt hs0)
  obtain ⟨c0, c1, c2, c3⟩ := hB4.cells
  obtain ⟨z0, z1, z2, z3⟩ := hB4.thaws
  clear hB4 hb1 hb2 hb3 hb4 hR4
  go_wp2
  refine bodyPost_ret (v := .tuple #[.agg #[.int .u64 0, .int .u64 0, .int .u16 0, .slice none 0 0], .int .i64 2]) (by simp [results, Try.results13, go_sem, c0, c1, c2, c3]) rfl ⟨rfl, ?_⟩
  exact (((hbw.setCell (Nat.le_refl _) _).setCell (Nat.le_refl _) _).setCell (Nat.le_refl _) _).setCell (Nat.le_refl _) _

theorem get_short3 (A : Option Addr) (n c : Nat) (l : List UInt8) (hl : Hid (l.length = n)) (hn : n ≤ 10000) (h6 : 12 ≤ l.length) (h : l.length < 14) (w : World) (hr : RB w A 0 w.heap.size l) :
    Calls Try.prog 13 #[.slice A n c] w (GetBad 2 w) := by
  obtain ⟨l1, hl1⟩ : ∃ l1, l1 = l.drop 6 := ⟨_, rfl⟩
  obtain ⟨l2, hl2⟩ : ∃ l2, l2 = l1.drop 6 := ⟨_, rfl⟩
  have hn0 := hl.out
  have q1 : l1.length = l.length - 6 := by rw [hl1]; simp
  have q2 : l2.length = l.length - 12 := by rw [hl2, hl1]; simp
  have B0 : 6 ≤ l.length := by omega
  have B1 : 6 ≤ l1.length := by omega
  have B2 : BadN false l2.length 2 := .inr (.inr (by omega))
  have u0 : l.length ≤ 100000 := by omega
  have u1 : l1.length ≤ 100000 := by omega
  have u2 : l2.length ≤ 100000 := by omega
  have HL1 := Lib.hid hl1
  have HL2 := Lib.hid hl2
  clear hl1 hl2 q1 q2 hn0
  go_enter Try.func13, Try.ntmps13
  go_wp2_with fail
  obtain ⟨w0, hB0, hbb0, hs0, hw0⟩ := boxed w 0 0 0 none 0 0
  rw [← hw0]
  clear hw0
  (with_reducible refine (new_any A c l n 0 w.heap.size hl (by omega) _ (hr.below hbb0 (Nat.le_refl _)) (Nat.le_of_lt hs0)).mono ?_); rintro e w1 ⟨hp, A1, rfl, hR1, hb1⟩
  have hB1 := hB0.below hb1 hs0
  obtain ⟨hi, hhi⟩ : ∃ hi, hi = w1.heap.size := ⟨_, rfl⟩
  rw [← hhi] at hR1
  clear hhi hB0
  go_wp2_with fail
  (with_reducible refine (num_ok _ _ hp _ l 6 6 (Lib.hid rfl) _ hR1 (by omega) B0).mono ?_); rintro e w2 ⟨rfl, hR2, hb2, hz2⟩
  rw [← HL1.out] at hR2
  obtain ⟨y1, hy1⟩ : ∃ y, y = numU (l.take 6) := ⟨_, rfl⟩
  rw [← hy1]
  clear hy1
  have hB2 := hB1.below hb2 hs0
  clear hz2 hB1 hR1
  go_wp2_with fail
  (with_reducible refine (num_ok _ _ hp _ l1 6 6 (Lib.hid rfl) _ hR2 (by omega) B1).mono ?_); rintro e w3 ⟨rfl, hR3, hb3, hz3⟩
  rw [← HL2.out] at hR3
  obtain ⟨y2, hy2⟩ : ∃ y, y = numU (l1.take 6) := ⟨_, rfl⟩
  rw [← hy2]
  clear hy2
  have hB3 := hB2.below hb3 hs0
  clear hz3 hB2 hR2
  go_wp2_with fail
  (with_reducible refine (num_bad _ _ hp _ l2 _ 2 _ hR3 (by omega) (by omega) (by omega) B2).mono ?_); rintro e w4 ⟨rfl, hR4, hb4, hz4⟩
  have hB4 := hB3.below hb4 hs0
  clear hz4 hB3 hR3
  go_wp2_with fail
  (with_reducible refine (short_any _ _ hp _ _ true _ hR4).mono ?_); rintro e w' ⟨rfl, rfl⟩
  have hbw : Below w.heap.size w w4 := below_two hbb0 (hb1.trans (hb2.trans (hb3.trans hb4))) (Nat.le_of_lt hs0)
  obtain ⟨c0, c1, c2, c3⟩ := hB4.cells
  obtain ⟨z0, z1, z2, z3⟩ := hB4.thaws
  clear hB4 hb1 hb2 hb3 hb4 hR4
  go_wp2
  refine bodyPost_ret (v := .tuple #[.agg #[.int .u64 0, .int .u64 0, .int .u16 0, .slice none 0 0], .int .i64 2]) (by simp [results, Try.results13, go_sem, c0, c1, c2, c3]) rfl ⟨rfl, ?_⟩
  exact (((hbw.setCell (Nat.le_refl _) _).setCell (Nat.le_refl _) _).setCell (Nat.le_refl _) _).setCell (Nat.le_refl _) _

theorem get_wrong (A : Option Addr) (n c : Nat) (l : List UInt8) (z : Int) (hl : Hid (l.length = n)) (hn : n ≤ 10000) (h14 : 14 ≤ l.length) (hz : Hid (gdE (kindOf l) (l.drop 14).length = z)) (hz0 : z ≠ 0) (w : World) (hr : RB w A 0 w.heap.size l) :
    Calls Try.prog 13 #[.slice A n c] w (GetBad z w) := by
  obtain ⟨l1, hl1⟩ : ∃ l1, l1 = l.drop 6 := ⟨_, rfl⟩
  obtain ⟨l2, hl2⟩ : ∃ l2, l2 = l1.drop 6 := ⟨_, rfl⟩
  obtain ⟨l3, hl3⟩ : ∃ l3, l3 = l2.drop 2 := ⟨_, rfl⟩
  have e2 : l2 = l.drop 12 := by rw [hl2, hl1, List.drop_drop]
  have e3 : l3 = l.drop 14 := by rw [hl3, e2, List.drop_drop]
  have ht : Hid (numU (l.take 6) = toOf l) := Lib.hid rfl
  have hf : Hid (numU (l1.take 6) = fromOf l) := by show _ = _; rw [hl1]; rfl
  have hk : Hid (numU (l2.take 2) = kindOf l) := by show _ = _; rw [e2]; rfl
  obtain ⟨k0, k1⟩ := kindOf_lt l
  have hgd3 : Hid (gdE (kindOf l) l3.length = z) := by show _ = _; rw [e3]; exact hz.out
  have hn0 := hl.out
  have q1 : l1.length = l.length - 6 := by rw [hl1]; simp
  have q2 : l2.length = l.length - 12 := by rw [e2]; simp
  have q3 : l3.length = l.length - 14 := by rw [e3]; simp
  have b0 : 6 ≤ l.length := by omega
  have b1 : 6 ≤ l1.length := by omega
  have b2 : 2 ≤ l2.length := by omega
  have u0 : l.length ≤ 100000 := by omega
  have u1 : l1.length ≤ 100000 := by omega
  have u2 : l2.length ≤ 100000 := by omega
  have u3 : l3.length ≤ 100000 := by omega
  have HL1 := Lib.hid hl1
  have HL2 := Lib.hid hl2
  have HL3 := Lib.hid hl3
  clear hl1 hl2 hl3 e2 e3 q1 q2 q3 hn0 hz h14
  obtain ⟨t, hT⟩ : ∃ t, t = toOf l := ⟨_, rfl⟩
  obtain ⟨f, hF⟩ : ∃ f, f = fromOf l := ⟨_, rfl⟩
  obtain ⟨k, hK⟩ : ∃ k, k = kindOf l := ⟨_, rfl⟩
  rw [← hT] at ht
  rw [← hF] at hf
  rw [← hK] at hk hgd3 k0 k1
  clear hT hF hK
  have hwk : IntKind.u16.wrap k = k := by rw [show IntKind.u16.wrap k = k % 65536 by simp [IntKind.wrap, IntKind.bits, IntKind.signed]]; omega
  go_enter Try.func13, Try.ntmps13
  go_wp2_with fail
  obtain ⟨w0, hB0, hbb0, hs0, hw0⟩ := boxed w 0 0 0 none 0 0
  rw [← hw0]
  clear hw0
  (with_reducible refine (new_any A c l n 0 w.heap.size hl (by omega) _ (hr.below hbb0 (Nat.le_refl _)) (Nat.le_of_lt hs0)).mono ?_); rintro e w1 ⟨hp, A1, rfl, hR1, hb1⟩
  have hB1 := hB0.below hb1 hs0
  obtain ⟨hi, hhi⟩ : ∃ hi, hi = w1.heap.size := ⟨_, rfl⟩
  rw [← hhi] at hR1
  have HHI := Lib.hid hhi
  clear hhi hB0
  go_wp2_with fail
  (with_reducible refine (num_ok _ _ hp _ l 6 6 (Lib.hid rfl) _ hR1 (by omega) b0).mono ?_); rintro e w2 ⟨rfl, hR2, hb2, hz2⟩
  rw [ht.out]
  rw [← HL1.out] at hR2
  have hB2 := hB1.below hb2 hs0
  have Z2 := Lib.hid hz2
  clear hz2 hB1 hR1
  go_wp2_with fail
  (with_reducible refine (num_ok _ _ hp _ l1 6 6 (Lib.hid rfl) _ hR2 (by omega) b1).mono ?_); rintro e w3 ⟨rfl, hR3, hb3, hz3⟩
  rw [hf.out]
  rw [← HL2.out] at hR3
  have hB3 := hB2.below hb3 hs0
  have Z3 := Lib.hid hz3
  clear hz3 hB2 hR2
  go_wp2_with fail
  (with_reducible refine (num_ok _ _ hp _ l2 2 2 (Lib.hid rfl) _ hR3 (by omega) b2).mono ?_); rintro e w4 ⟨rfl, hR4, hb4, hz4⟩
  rw [hk.out]
  rw [← HL3.out] at hR4
  have hB4 := hB3.below hb4 hs0
  have Z4 := Lib.hid hz4
  clear hz4 hB3 hR3
  go_wp2_with fail
  (with_reducible refine (short_any _ _ hp _ l3 false _ hR4).mono ?_); rintro e w' ⟨rfl, rfl⟩
  have hhi4 : hi ≤ w4.heap.size := by rw [Z4.out, Z3.out, Z2.out, HHI.out]; exact Nat.le_refl _
  go_wp2_with fail
  (with_reducible refine (gd_bad _ _ hp _ l3 k z hgd3 hz0 k0 k1 _ hR4 u3 hhi4).mono ?_); rintro e w5 ⟨A5, n5, c5, rfl, hb5⟩
  have hB5 := hB4.below hb5 hs0
  have hbw : Below w.heap.size w w5 := below_two hbb0 (hb1.trans (hb2.trans (hb3.trans (hb4.trans hb5)))) (Nat.le_of_lt hs0)
  obtain ⟨c0, c1, c2, c3⟩ := hB5.cells
  obtain ⟨z0, z1, z2, z3⟩ := hB5.thaws
  have hzb : (z != 0) = true := by simpa using hz0
  clear hB4 hB5 hb1 hb2 hb3 hb4 hb5 Z2 Z3 Z4 HHI hR4 hz0
  go_wp2
  refine bodyPost_ret (v := .tuple #[.agg #[.int .u64 0, .int .u64 0, .int .u16 0, .slice none 0 0], .int .i64 z]) (by simp [results, Try.results13, go_sem, c0, c1, c2, c3]) rfl ⟨rfl, ?_⟩
  exact (((hbw.setCell (Nat.le_refl _) _).setCell (Nat.le_refl _) _).setCell (Nat.le_refl _) _).setCell (Nat.le_refl _) _

theorem get_bad (A : Option Addr) (n c : Nat) (l : List UInt8) (z : Int) (hl : Hid (l.length = n)) (hn : n ≤ 10000) (hz : Hid (getE l = z)) (hz0 : z ≠ 0) (w : World) (hr : RB w A 0 w.heap.size l) :
    Calls Try.prog 13 #[.slice A n c] w (GetBad z w) := by
  by_cases h : l.length < 14
  · obtain rfl : z = 2 := by rw [← hz.out]; unfold getE; rw [if_pos h]
    by_cases h6 : l.length < 6
    · exact get_short1 A n c l hl hn h6 w hr
    · by_cases h12 : l.length < 12
      · exact get_short2 A n c l hl hn (by omega) h12 w hr
      · exact get_short3 A n c l hl hn (by omega) h w hr
  · refine get_wrong A n c l z hl hn (by omega) ?_ hz0 w hr
    have := hz.out
    unfold getE at this
    rw [if_neg h] at this
    exact this

end Go.Proofs.Ytneofpgpinkamaa
