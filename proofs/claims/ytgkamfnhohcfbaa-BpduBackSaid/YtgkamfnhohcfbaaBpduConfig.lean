/- A configuration read, as the program reads it, whatever the reader's state. -/
import Derived.Test.YtgkamfnhohcfbaaBpduBase
import Derived.Test.YtgkamfnhohcfbaaWireOnly
import Derived.Deep.DeepCutAuto
import Derived.Deep.RegionHeld3
namespace Go.Proofs.Ytgkamfnhohcfbaa
open Go.ChangeShapes Go.WideShapes Go.ChangeAt Go.RowKit
set_option linter.unusedVariables false

theorem BB.only {h g : Nat} {w w' : World} {tc ch ak : Bool} {ro co br po ag ma he de : Int} (o : Only h w w') (k : BB w g tc ch ak ro co br po ag ma he de) (hg : g ≠ h) : BB w' g tc ch ak ro co br po ag ma he de := o.bk k hg

/-- One number read: its value, what is left, whether the end came too soon. -/
def NR (l : List UInt8) (s : Bool) (k : Nat) (v : Int) (l' : List UInt8) (s' : Bool) : Prop := nV l s k = v ∧ nL l s k = l' ∧ nS l s k = s'

/-- What 'config' leaves. -/
def CfgEnd (lo hi h : Nat) (ch ak : Bool) (ro co br po ag ma he de : Int) (l : List UInt8) (s : Bool) (w : World) (e : Ending) (w' : World) : Prop :=
  ∃ A', e = .returned (.agg #[.bool false, .bool ch, .bool ak, .int .u64 ro, .int .u32 co, .int .u64 br, .int .u16 po, .int .u16 ag, .int .u16 ma, .int .u16 he, .int .u16 de]) ∧ RD 60 w' lo hi h A' l s ∧ Below lo w w'

/-- The state between two of its statements: the reader; the answer's place, still empty; the Bpdu so far. -/
def CS (lo hi h : Nat) (l : List UInt8) (s : Bool) (cs : List Value) (w wc : World) : Prop :=
  ∃ A, RD 60 wc lo hi h A l s ∧ BB wc w.heap.size false false false 0 0 0 0 0 0 0 0 ∧ Bk wc (w.heap.size + 1) 28 cs ∧ Below lo w wc

theorem CS.num {lo hi h : Nat} {l l' : List UInt8} {s s' : Bool} {cs : List Value} {w wc wd : World} {A' : Option Addr} (c : CS lo hi h l s cs w wc) (hh : h < w.heap.size) (hr : RD 60 wd lo hi h A' l' s') (hb : Below lo wc wd) (ho : Only h wc wd) : CS lo hi h l' s' cs w wd := by
  obtain ⟨A, _, h2, h3, h4⟩ := c
  exact ⟨A', hr, h2.only ho (Nat.ne_of_gt hh), ho.bk h3 (Nat.ne_of_gt (Nat.lt_succ_of_lt hh)), h4.trans hb⟩

theorem CS.put {lo hi h : Nat} {l : List UInt8} {s : Bool} {cs : List Value} {w wc : World} (c : CS lo hi h l s cs w wc) (hhi : hi ≤ w.heap.size) (i : Nat) (u : Value) : CS lo hi h l s (cs.set i u) w (wc.setCell ⟨w.heap.size + 1, i, none⟩ u) := by
  obtain ⟨A, h1, h2, h3, h4⟩ := c
  have hlo : lo ≤ w.heap.size := Nat.le_trans h1.1 (Nat.le_trans (Nat.le_of_lt h1.2.1) hhi)
  exact ⟨A, h1.set (.inr (Nat.le_succ_of_le hhi)) u, Bk.far h2 (p := ⟨w.heap.size + 1, i, none⟩) (Nat.succ_ne_self _) u, h3.set i u, h4.setCell (Nat.le_succ_of_le hlo) u⟩

/-- The same with the array, behind so many rounds. -/
def CA (lo hi h : Nat) (l : List UInt8) (s : Bool) (cs arr : List Value) (w wc : World) : Prop := CS lo hi h l s cs w wc ∧ Bk wc (w.heap.size + 2) 48 arr

def CL (lo hi h : Nat) (l4 l5 l6 l7 l8 l9 : List UInt8) (s4 s5 s6 s7 s8 s9 : Bool) (cs : List Value) (po ag ma he de : Int) (w wc : World) : Nat → Prop
  | 0 => CA lo hi h l4 s4 cs [.int .u16 0, .int .u16 0, .int .u16 0, .int .u16 0, .int .u16 0] w wc
  | 1 => CA lo hi h l5 s5 cs [.int .u16 po, .int .u16 0, .int .u16 0, .int .u16 0, .int .u16 0] w wc
  | 2 => CA lo hi h l6 s6 cs [.int .u16 po, .int .u16 ag, .int .u16 0, .int .u16 0, .int .u16 0] w wc
  | 3 => CA lo hi h l7 s7 cs [.int .u16 po, .int .u16 ag, .int .u16 ma, .int .u16 0, .int .u16 0] w wc
  | 4 => CA lo hi h l8 s8 cs [.int .u16 po, .int .u16 ag, .int .u16 ma, .int .u16 he, .int .u16 0] w wc
  | _ => CA lo hi h l9 s9 cs [.int .u16 po, .int .u16 ag, .int .u16 ma, .int .u16 he, .int .u16 de] w wc

theorem CA.num {lo hi h : Nat} {l l' : List UInt8} {s s' : Bool} {cs arr : List Value} {w wc wd : World} {A' : Option Addr} (c : CA lo hi h l s cs arr w wc) (hh : h < w.heap.size) (hr : RD 60 wd lo hi h A' l' s') (hb : Below lo wc wd) (ho : Only h wc wd) : CA lo hi h l' s' cs arr w wd :=
  ⟨c.1.num hh hr hb ho, ho.bk c.2 (Nat.ne_of_gt (Nat.lt_succ_of_lt (Nat.lt_succ_of_lt hh)))⟩

theorem CA.arr {lo hi h : Nat} {l : List UInt8} {s : Bool} {cs arr : List Value} {w wc : World} (c : CA lo hi h l s cs arr w wc) (hhi : hi ≤ w.heap.size) (i : Nat) (u : Value) : CA lo hi h l s cs (arr.set i u) w (wc.setCell ⟨w.heap.size + 2, i, none⟩ u) := by
  obtain ⟨⟨A, h1, h2, h3, h4⟩, h5⟩ := c
  have hlo : lo ≤ w.heap.size := Nat.le_trans h1.1 (Nat.le_trans (Nat.le_of_lt h1.2.1) hhi)
  exact ⟨⟨A, h1.set (.inr (Nat.le_succ_of_le (Nat.le_succ_of_le hhi))) u, Bk.far h2 (p := ⟨w.heap.size + 2, i, none⟩) (by show w.heap.size + 2 ≠ _; omega) u, h3.far (p := ⟨w.heap.size + 2, i, none⟩) (by show w.heap.size + 2 ≠ _; omega) u, h4.setCell (Nat.le_succ_of_le (Nat.le_succ_of_le hlo)) u⟩, h5.set i u⟩

theorem CA.put {lo hi h : Nat} {l : List UInt8} {s : Bool} {cs arr : List Value} {w wc : World} (c : CA lo hi h l s cs arr w wc) (hhi : hi ≤ w.heap.size) (i : Nat) (u : Value) : CA lo hi h l s (cs.set i u) arr w (wc.setCell ⟨w.heap.size + 1, i, none⟩ u) :=
  ⟨c.1.put hhi i u, c.2.far (p := ⟨w.heap.size + 1, i, none⟩) (by show w.heap.size + 1 ≠ _; omega) u⟩

/-- The reader, and the answer's place as it is being filled. -/
def CR (lo hi h : Nat) (l : List UInt8) (s : Bool) (cs : List Value) (w wc : World) : Prop :=
  ∃ A, RD 60 wc lo hi h A l s ∧ Bk wc w.heap.size 28 cs ∧ Below lo w wc

theorem CR.put {lo hi h : Nat} {l : List UInt8} {s : Bool} {cs : List Value} {w wc : World} (c : CR lo hi h l s cs w wc) (hhi : hi ≤ w.heap.size) (i : Nat) (u : Value) : CR lo hi h l s (cs.set i u) w (wc.setCell ⟨w.heap.size, i, none⟩ u) := by
  obtain ⟨A, h1, h2, h3⟩ := c
  have hlo : lo ≤ w.heap.size := Nat.le_trans h1.1 (Nat.le_trans (Nat.le_of_lt h1.2.1) hhi)
  exact ⟨A, h1.set (.inr hhi) u, h2.set i u, h3.setCell hlo u⟩

theorem CA.answer {lo hi h : Nat} {l : List UInt8} {s : Bool} {cs arr : List Value} {w wc : World} (c : CA lo hi h l s cs arr w wc) : CR lo hi h l s [.bool false, .bool false, .bool false, .int .u64 0, .int .u32 0, .int .u64 0, .int .u16 0, .int .u16 0, .int .u16 0, .int .u16 0, .int .u16 0] w wc := by
  obtain ⟨⟨A, h1, h2, _, h4⟩, _⟩ := c
  exact ⟨A, h1, h2, h4⟩

set_option maxHeartbeats 2000000 in
theorem config_any (lo hi h : Nat) (A : Option Addr) (l0 l1 l2 l3 l4 l5 l6 l7 l8 l9 : List UInt8) (s0 s1 s2 s3 s4 s5 s6 s7 s8 s9 : Bool) (v0 ro co br po ag ma he de : Int) (ch ak : Bool)
    (h0 : Hid (NR l0 s0 1 v0 l1 s1)) (h1 : Hid (NR l1 s1 8 ro l2 s2)) (h2 : Hid (NR l2 s2 4 co l3 s3)) (h3 : Hid (NR l3 s3 8 br l4 s4)) (h4 : Hid (NR l4 s4 2 po l5 s5)) (h5 : Hid (NR l5 s5 2 ag l6 s6)) (h6 : Hid (NR l6 s6 2 ma l7 s7)) (h7 : Hid (NR l7 s7 2 he l8 s8)) (h8 : Hid (NR l8 s8 2 de l9 s9))
    (hch : (bits .and .u64 v0 1 != 0) = ch) (hak : (bits .and .u64 v0 128 != 0) = ak) (hin : BpIn ro co br po ag ma he de) (hm : l0.length ≤ 100000) (w : World) (hr : RD 60 w lo hi h A l0 s0) (hhi : hi ≤ w.heap.size) :
    Calls Try.prog 24 #[.pointer (some ⟨h, 0, none⟩)] w (CfgEnd lo hi h ch ak ro co br po ag ma he de l9 s9 w) := by
  have m1 : l1.length ≤ 100000 := by rw [← h0.out.2.1]; exact Nat.le_trans (nL_len _ _ _) hm
  have m2 : l2.length ≤ 100000 := by rw [← h1.out.2.1]; exact Nat.le_trans (nL_len _ _ _) m1
  have m3 : l3.length ≤ 100000 := by rw [← h2.out.2.1]; exact Nat.le_trans (nL_len _ _ _) m2
  have m4 : l4.length ≤ 100000 := by rw [← h3.out.2.1]; exact Nat.le_trans (nL_len _ _ _) m3
  have m5 : l5.length ≤ 100000 := by rw [← h4.out.2.1]; exact Nat.le_trans (nL_len _ _ _) m4
  have m6 : l6.length ≤ 100000 := by rw [← h5.out.2.1]; exact Nat.le_trans (nL_len _ _ _) m5
  have m7 : l7.length ≤ 100000 := by rw [← h6.out.2.1]; exact Nat.le_trans (nL_len _ _ _) m6
  have m8 : l8.length ≤ 100000 := by rw [← h7.out.2.1]; exact Nat.le_trans (nL_len _ _ _) m7
  have hhz : h < w.heap.size := Nat.lt_of_lt_of_le hr.2.1 hhi
  have hlz : lo ≤ w.heap.size := Nat.le_trans hr.1 (Nat.le_of_lt hhz)
  obtain ⟨⟨r0, r1⟩, ⟨o0, o1⟩, ⟨b0, b1⟩, ⟨p0, p1⟩, ⟨a0, a1⟩, ⟨n0, n1⟩, ⟨e0, e1⟩, ⟨d0, d1⟩⟩ := hin
  have wco : IntKind.u32.wrap co = co := by rw [show IntKind.u32.wrap co = co % 4294967296 by simp [IntKind.wrap, IntKind.bits, IntKind.signed]]; omega
  have wpo : IntKind.u16.wrap po = po := by rw [show IntKind.u16.wrap po = po % 65536 by simp [IntKind.wrap, IntKind.bits, IntKind.signed]]; omega
  have wag : IntKind.u16.wrap ag = ag := by rw [show IntKind.u16.wrap ag = ag % 65536 by simp [IntKind.wrap, IntKind.bits, IntKind.signed]]; omega
  have wma : IntKind.u16.wrap ma = ma := by rw [show IntKind.u16.wrap ma = ma % 65536 by simp [IntKind.wrap, IntKind.bits, IntKind.signed]]; omega
  have whe : IntKind.u16.wrap he = he := by rw [show IntKind.u16.wrap he = he % 65536 by simp [IntKind.wrap, IntKind.bits, IntKind.signed]]; omega
  have wde : IntKind.u16.wrap de = de := by rw [show IntKind.u16.wrap de = de % 65536 by simp [IntKind.wrap, IntKind.bits, IntKind.signed]]; omega
  go_enter Try.func24, Try.ntmps24
  go_wp2_with fail
  obtain ⟨wa, hBa, hba, hsa, hwa⟩ := bboxed w false false false 0 0 0 0 0 0 0 0
  rw [← hwa]
  have hza : wa.heap.size = w.heap.size + 1 := by rw [hwa]; simp
  have HZA := Lib.hid hza
  clear hwa hza
  (with_reducible refine (num_any lo hi h A l0 s0 1 1 (Lib.hid rfl) (by omega) _ (hr.below hba hhi) hm).mono ?_); rintro e wb ⟨Ab, rfl, hRb, hbb, hob⟩
  rw [h0.out.1]
  rw [h0.out.2.1, h0.out.2.2] at hRb
  have hBb := hBa.only hob (Nat.ne_of_gt hhz)
  have hzb : Hid (wb.heap.size = w.heap.size + 1) := Lib.hid (hob.1.trans HZA.out)
  have hbwb : Below lo w wb := (hba.mono hlz).trans hbb
  clear hBa hba hsa HZA hbb hob
  go_wp2_with fail
  obtain ⟨wc, hBc, hbc, hsc, hwc⟩ := bboxed wb false ch ak 0 0 0 0 0 0 0 0
  rw [← hwc]
  have hzc : Hid (wc.heap.size = w.heap.size + 2) := by show _ = _; rw [hwc, World.size_alloc, hzb.out]
  rw [hzb.out] at hBc ⊢
  have c0 : CS lo hi h l1 s1 [.bool false, .bool ch, .bool ak, .int .u64 0, .int .u32 0, .int .u64 0, .int .u16 0, .int .u16 0, .int .u16 0, .int .u16 0, .int .u16 0] w wc :=
    ⟨Ab, hRb.below hbc (by rw [hzb.out]; omega), hBb.below hbc (by rw [hzb.out]; omega), hBc, hbwb.trans (hbc.mono (by rw [hzb.out]; omega))⟩
  clear hwc hBc hbc hsc hBb hbwb hRb
  obtain ⟨A1, hR1, _⟩ := id c0
  (with_reducible refine (num_any lo hi h A1 l1 s1 8 8 (Lib.hid rfl) (by omega) _ hR1 m1).mono ?_); rintro e wd ⟨Ad, rfl, hRd, hbd, hod⟩
  rw [h1.out.1]
  rw [h1.out.2.1, h1.out.2.2] at hRd
  have d0 := c0.num hhz hRd hbd hod
  have hzd : Hid (wd.heap.size = w.heap.size + 2) := Lib.hid (hod.1.trans hzc.out)
  clear hR1 hRd hbd hod hzc c0
  obtain ⟨_, _, _, hX, _⟩ := id d0
  have hx := hX.cell 3
  have hf := hX.thaw 3
  clear hX
  simp only [List.getElem?_cons_zero, List.getElem?_cons_succ] at hx
  go_wp2_with fail
  clear hx hf
  obtain ⟨wc, hwc⟩ : ∃ wc, wc = wd.setCell ⟨w.heap.size + 1, 3, none⟩ (.int .u64 ro) := ⟨_, rfl⟩
  have c1 : CS lo hi h l2 s2 [.bool false, .bool ch, .bool ak, .int .u64 ro, .int .u32 0, .int .u64 0, .int .u16 0, .int .u16 0, .int .u16 0, .int .u16 0, .int .u16 0] w wc := by rw [hwc]; exact d0.put hhi 3 _
  have hzc : Hid (wc.heap.size = w.heap.size + 2) := by show _ = _; rw [hwc, ← hzd.out]; simp [World.setCell]
  rw [← hwc]
  clear hwc hzd d0
  obtain ⟨A1, hR1, _⟩ := id c1
  (with_reducible refine (num_any lo hi h A1 l2 s2 4 4 (Lib.hid rfl) (by omega) _ hR1 m2).mono ?_); rintro e wd ⟨Ad, rfl, hRd, hbd, hod⟩
  rw [h2.out.1]
  rw [h2.out.2.1, h2.out.2.2] at hRd
  have d1 := c1.num hhz hRd hbd hod
  have hzd : Hid (wd.heap.size = w.heap.size + 2) := Lib.hid (hod.1.trans hzc.out)
  clear hR1 hRd hbd hod hzc c1
  obtain ⟨_, _, _, hX, _⟩ := id d1
  have hx := hX.cell 4
  have hf := hX.thaw 4
  clear hX
  simp only [List.getElem?_cons_zero, List.getElem?_cons_succ] at hx
  go_wp2_with fail
  clear hx hf
  obtain ⟨wc, hwc⟩ : ∃ wc, wc = wd.setCell ⟨w.heap.size + 1, 4, none⟩ (.int .u32 co) := ⟨_, rfl⟩
  have c2 : CS lo hi h l3 s3 [.bool false, .bool ch, .bool ak, .int .u64 ro, .int .u32 co, .int .u64 0, .int .u16 0, .int .u16 0, .int .u16 0, .int .u16 0, .int .u16 0] w wc := by rw [hwc]; exact d1.put hhi 4 _
  have hzc : Hid (wc.heap.size = w.heap.size + 2) := by show _ = _; rw [hwc, ← hzd.out]; simp [World.setCell]
  rw [← hwc]
  clear hwc hzd d1
  obtain ⟨A1, hR1, _⟩ := id c2
  (with_reducible refine (num_any lo hi h A1 l3 s3 8 8 (Lib.hid rfl) (by omega) _ hR1 m3).mono ?_); rintro e wd ⟨Ad, rfl, hRd, hbd, hod⟩
  rw [h3.out.1]
  rw [h3.out.2.1, h3.out.2.2] at hRd
  have d2 := c2.num hhz hRd hbd hod
  have hzd : Hid (wd.heap.size = w.heap.size + 2) := Lib.hid (hod.1.trans hzc.out)
  clear hR1 hRd hbd hod hzc c2
  obtain ⟨_, _, _, hX, _⟩ := id d2
  have hx := hX.cell 5
  have hf := hX.thaw 5
  clear hX
  simp only [List.getElem?_cons_zero, List.getElem?_cons_succ] at hx
  go_wp2_with fail
  clear hx hf
  obtain ⟨wc, hwc⟩ : ∃ wc, wc = wd.setCell ⟨w.heap.size + 1, 5, none⟩ (.int .u64 br) := ⟨_, rfl⟩
  have c3 : CS lo hi h l4 s4 [.bool false, .bool ch, .bool ak, .int .u64 ro, .int .u32 co, .int .u64 br, .int .u16 0, .int .u16 0, .int .u16 0, .int .u16 0, .int .u16 0] w wc := by rw [hwc]; exact d2.put hhi 5 _
  have hzc : Hid (wc.heap.size = w.heap.size + 2) := by show _ = _; rw [hwc, ← hzd.out]; simp [World.setCell]
  rw [← hwc, hzd.out]
  clear hwc hzd d2
  obtain ⟨wx, hwx⟩ : ∃ wx, wx = wc.alloc (.cells #[.int .u16 0, .int .u16 0, .int .u16 0, .int .u16 0, .int .u16 0] 48) := ⟨_, rfl⟩
  have hA0 : Bk wx (w.heap.size + 2) 48 [.int .u16 0, .int .u16 0, .int .u16 0, .int .u16 0, .int .u16 0] := by rw [hwx, ← hzc.out]; exact heap_alloc_new wc _
  have hbx : Below wc.heap.size wc wx := by rw [hwx]; exact below_new (Nat.le_refl _)
  rw [hzc.out] at hbx
  have cx : CA lo hi h l4 s4 [.bool false, .bool ch, .bool ak, .int .u64 ro, .int .u32 co, .int .u64 br, .int .u16 0, .int .u16 0, .int .u16 0, .int .u16 0, .int .u16 0] [.int .u16 0, .int .u16 0, .int .u16 0, .int .u16 0, .int .u16 0] w wx := by
    obtain ⟨A, q1, q2, q3, q4⟩ := c3
    exact ⟨⟨A, q1.below hbx (by omega), q2.below hbx (by omega), q3.below hbx (by omega), q4.trans (hbx.mono (by omega))⟩, hA0⟩
  rw [← hwx]
  clear hwx hA0 hbx c3 hzc
  go_loopw [26] (fun i wr => ∃ j : Nat, j ≤ 5 ∧ i = .int .i64 j ∧ CL lo hi h l4 l5 l6 l7 l8 l9 s4 s5 s6 s7 s8 s9 [.bool false, .bool ch, .bool ak, .int .u64 ro, .int .u32 co, .int .u64 br, .int .u16 0, .int .u16 0, .int .u16 0, .int .u16 0, .int .u16 0] po ag ma he de w wr j) (fun i _ => 5 - (intOf i).toNat)
  case atStart => exact ⟨0, by omega, rfl, cx⟩
  case round =>
    obtain ⟨j, hj, rfl, hc⟩ := hrel
    clear cx
    match j, hj with
    | 0, _ =>
      have c : CA lo hi h l4 s4 [.bool false, .bool ch, .bool ak, .int .u64 ro, .int .u32 co, .int .u64 br, .int .u16 0, .int .u16 0, .int .u16 0, .int .u16 0, .int .u16 0] [.int .u16 0, .int .u16 0, .int .u16 0, .int .u16 0, .int .u16 0] w wr := hc
      clear hc
      obtain ⟨⟨A1, hR1, _⟩, _⟩ := id c
      go_wp2_with fail
      (with_reducible refine (num_any lo hi h A1 l4 s4 2 2 (Lib.hid rfl) (by omega) _ hR1 m4).mono ?_); rintro e wd ⟨Ad, rfl, hRd, hbd, hod⟩
      rw [h4.out.1]
      rw [h4.out.2.1, h4.out.2.2] at hRd
      have d := c.num hhz hRd hbd hod
      clear hR1 hRd hbd hod c
      have hx := d.2.cell 0
      have hf := d.2.thaw 0
      simp only [List.getElem?_cons_zero] at hx
      have D := d.arr hhi 0 (.int .u16 po)
      clear d
      go_wp2
      go_roundw
      case rel => exact ⟨1, by omega, by go_num, D⟩
      case measure => simp [intOf]
    | 1, _ =>
      have c : CA lo hi h l5 s5 [.bool false, .bool ch, .bool ak, .int .u64 ro, .int .u32 co, .int .u64 br, .int .u16 0, .int .u16 0, .int .u16 0, .int .u16 0, .int .u16 0] [.int .u16 po, .int .u16 0, .int .u16 0, .int .u16 0, .int .u16 0] w wr := hc
      clear hc
      obtain ⟨⟨A1, hR1, _⟩, _⟩ := id c
      go_wp2_with fail
      (with_reducible refine (num_any lo hi h A1 l5 s5 2 2 (Lib.hid rfl) (by omega) _ hR1 m5).mono ?_); rintro e wd ⟨Ad, rfl, hRd, hbd, hod⟩
      rw [h5.out.1]
      rw [h5.out.2.1, h5.out.2.2] at hRd
      have d := c.num hhz hRd hbd hod
      clear hR1 hRd hbd hod c
      have hx := d.2.cell 1
      have hf := d.2.thaw 1
      simp only [List.getElem?_cons_zero, List.getElem?_cons_succ] at hx
      have D := d.arr hhi 1 (.int .u16 ag)
      clear d
      go_wp2
      go_roundw
      case rel => exact ⟨2, by omega, by go_num, D⟩
      case measure => simp [intOf]
    | 2, _ =>
      have c : CA lo hi h l6 s6 [.bool false, .bool ch, .bool ak, .int .u64 ro, .int .u32 co, .int .u64 br, .int .u16 0, .int .u16 0, .int .u16 0, .int .u16 0, .int .u16 0] [.int .u16 po, .int .u16 ag, .int .u16 0, .int .u16 0, .int .u16 0] w wr := hc
      clear hc
      obtain ⟨⟨A1, hR1, _⟩, _⟩ := id c
      go_wp2_with fail
      (with_reducible refine (num_any lo hi h A1 l6 s6 2 2 (Lib.hid rfl) (by omega) _ hR1 m6).mono ?_); rintro e wd ⟨Ad, rfl, hRd, hbd, hod⟩
      rw [h6.out.1]
      rw [h6.out.2.1, h6.out.2.2] at hRd
      have d := c.num hhz hRd hbd hod
      clear hR1 hRd hbd hod c
      have hx := d.2.cell 2
      have hf := d.2.thaw 2
      simp only [List.getElem?_cons_zero, List.getElem?_cons_succ] at hx
      have D := d.arr hhi 2 (.int .u16 ma)
      clear d
      go_wp2
      go_roundw
      case rel => exact ⟨3, by omega, by go_num, D⟩
      case measure => simp [intOf]
    | 3, _ =>
      have c : CA lo hi h l7 s7 [.bool false, .bool ch, .bool ak, .int .u64 ro, .int .u32 co, .int .u64 br, .int .u16 0, .int .u16 0, .int .u16 0, .int .u16 0, .int .u16 0] [.int .u16 po, .int .u16 ag, .int .u16 ma, .int .u16 0, .int .u16 0] w wr := hc
      clear hc
      obtain ⟨⟨A1, hR1, _⟩, _⟩ := id c
      go_wp2_with fail
      (with_reducible refine (num_any lo hi h A1 l7 s7 2 2 (Lib.hid rfl) (by omega) _ hR1 m7).mono ?_); rintro e wd ⟨Ad, rfl, hRd, hbd, hod⟩
      rw [h7.out.1]
      rw [h7.out.2.1, h7.out.2.2] at hRd
      have d := c.num hhz hRd hbd hod
      clear hR1 hRd hbd hod c
      have hx := d.2.cell 3
      have hf := d.2.thaw 3
      simp only [List.getElem?_cons_zero, List.getElem?_cons_succ] at hx
      have D := d.arr hhi 3 (.int .u16 he)
      clear d
      go_wp2
      go_roundw
      case rel => exact ⟨4, by omega, by go_num, D⟩
      case measure => simp [intOf]
    | 4, _ =>
      have c : CA lo hi h l8 s8 [.bool false, .bool ch, .bool ak, .int .u64 ro, .int .u32 co, .int .u64 br, .int .u16 0, .int .u16 0, .int .u16 0, .int .u16 0, .int .u16 0] [.int .u16 po, .int .u16 ag, .int .u16 ma, .int .u16 he, .int .u16 0] w wr := hc
      clear hc
      obtain ⟨⟨A1, hR1, _⟩, _⟩ := id c
      go_wp2_with fail
      (with_reducible refine (num_any lo hi h A1 l8 s8 2 2 (Lib.hid rfl) (by omega) _ hR1 m8).mono ?_); rintro e wd ⟨Ad, rfl, hRd, hbd, hod⟩
      rw [h8.out.1]
      rw [h8.out.2.1, h8.out.2.2] at hRd
      have d := c.num hhz hRd hbd hod
      clear hR1 hRd hbd hod c
      have hx := d.2.cell 4
      have hf := d.2.thaw 4
      simp only [List.getElem?_cons_zero, List.getElem?_cons_succ] at hx
      have D := d.arr hhi 4 (.int .u16 de)
      clear d
      go_wp2
      go_roundw
      case rel => exact ⟨5, by omega, by go_num, D⟩
      case measure => simp [intOf]
    | 5, _ =>
      have c : CA lo hi h l9 s9 [.bool false, .bool ch, .bool ak, .int .u64 ro, .int .u32 co, .int .u64 br, .int .u16 0, .int .u16 0, .int .u16 0, .int .u16 0, .int .u16 0] [.int .u16 po, .int .u16 ag, .int .u16 ma, .int .u16 he, .int .u16 de] w wr := hc
      clear hc
      have y0 : wr.cell? ⟨w.heap.size + 2, 0, none⟩ = some (.int .u16 po) := c.2.cell 0
      obtain ⟨_, _, _, hX, _⟩ := id c.1
      have x6 : wr.cell? ⟨w.heap.size + 1, 6, none⟩ = some (.int .u16 0) := hX.cell 6
      have f6 := hX.thaw 6
      clear hX
      go_wp2_with fail
      obtain ⟨wq, hwq⟩ : ∃ wq, wq = wr.setCell ⟨w.heap.size + 1, 6, none⟩ (.int .u16 po) := ⟨_, rfl⟩
      have cq : CA lo hi h l9 s9 [.bool false, .bool ch, .bool ak, .int .u64 ro, .int .u32 co, .int .u64 br, .int .u16 po, .int .u16 0, .int .u16 0, .int .u16 0, .int .u16 0] [.int .u16 po, .int .u16 ag, .int .u16 ma, .int .u16 he, .int .u16 de] w wq := by rw [hwq]; exact c.put hhi 6 _
      rw [← hwq]
      clear hwq x6 f6 y0 c
      obtain ⟨y1, y2, y3, y4⟩ : wq.cell? ⟨w.heap.size + 2, 1, none⟩ = some (.int .u16 ag) ∧ wq.cell? ⟨w.heap.size + 2, 2, none⟩ = some (.int .u16 ma) ∧ wq.cell? ⟨w.heap.size + 2, 3, none⟩ = some (.int .u16 he) ∧ wq.cell? ⟨w.heap.size + 2, 4, none⟩ = some (.int .u16 de) := ⟨cq.2.cell 1, cq.2.cell 2, cq.2.cell 3, cq.2.cell 4⟩
      obtain ⟨_, _, _, hX, _⟩ := id cq.1
      obtain ⟨d0, d1, d2, d3, d4, d5, d6, d7, d8, d9, d10⟩ := BB.cells (show BB wq (w.heap.size + 1) false ch ak ro co br po 0 0 0 0 from hX)
      obtain ⟨f0, f1, f2, f3, f4, f5, f6, f7, f8, f9, f10⟩ := BB.thaws (show BB wq (w.heap.size + 1) false ch ak ro co br po 0 0 0 0 from hX)
      clear hX
      go_region_held3 (fun w' => w'.cell? ⟨w.heap.size + 2, 1, none⟩ = some (.int .u16 ag) ∧ w'.cell? ⟨w.heap.size + 2, 2, none⟩ = some (.int .u16 ma) ∧ w'.cell? ⟨w.heap.size + 2, 3, none⟩ = some (.int .u16 he) ∧ w'.cell? ⟨w.heap.size + 2, 4, none⟩ = some (.int .u16 de)) (go_keep) (fail)
      clear y1 y2 y3 y4 wco wpo wag wma whe wde hch hak
      obtain ⟨_, _, hBr, _, _⟩ := id cq.1
      obtain ⟨c0, c1, c2, c3, c4, c5, c6, c7, c8, c9, c10⟩ := hBr.cells
      obtain ⟨z0, z1, z2, z3, z4, z5, z6, z7, z8, z9, z10⟩ := hBr.thaws
      clear hBr
      go_wp2_with fail
      have cr := ((((cq.put hhi 7 (.int .u16 ag)).put hhi 8 (.int .u16 ma)).put hhi 9 (.int .u16 he)).put hhi 10 (.int .u16 de)).answer
      have cr := (((((((((((cr.put hhi 0 (.bool false)).put hhi 1 (.bool ch)).put hhi 2 (.bool ak)).put hhi 3 (.int .u64 ro)).put hhi 4 (.int .u32 co)).put hhi 5 (.int .u64 br)).put hhi 6 (.int .u16 po)).put hhi 7 (.int .u16 ag)).put hhi 8 (.int .u16 ma)).put hhi 9 (.int .u16 he)).put hhi 10 (.int .u16 de))
      clear c0 c1 c2 c3 c4 c5 c6 c7 c8 c9 c10 z0 z1 z2 z3 z4 z5 z6 z7 z8 z9 z10 d0 d1 d2 d3 d4 d5 d6 d7 d8 d9 d10 f0 f1 f2 f3 f4 f5 f6 f7 f8 f9 f10 cq
      generalize World.setCell _ ⟨w.heap.size, 10, none⟩ _ = we at cr ⊢
      obtain ⟨A', k1, k2, k3⟩ := cr
      obtain ⟨e0, e1, e2, e3, e4, e5, e6, e7, e8, e9, e10⟩ := BB.cells (show BB we w.heap.size false ch ak ro co br po ag ma he de from k2)
      exact bodyPost_ret (v := .agg #[.bool false, .bool ch, .bool ak, .int .u64 ro, .int .u32 co, .int .u64 br, .int .u16 po, .int .u16 ag, .int .u16 ma, .int .u16 he, .int .u16 de]) (by simp [results, Try.results24, go_sem, e0, e1, e2, e3, e4, e5, e6, e7, e8, e9, e10]) rfl ⟨A', rfl, k1, k3.drew⟩

end Go.Proofs.Ytgkamfnhohcfbaa
