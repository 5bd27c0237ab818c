/- Several texts in one, one behind the other: BpduGet, BpduRefGet, BpduFor, BpduBackMath, FrameOpenCap, SendOlderPure, HeardHears, RankApi, HeardWith. -/
import Derived.Test.YtnmnihlhcokjpaaGreatDoorPk19
import Derived.Test.YtnmnihlhcokjpaaGreatDoorPk01
import Derived.Lib.MinMax
import Derived.WalkMore
import Derived.ScopeJumps
import Derived.Deep.QuietTactic
import Derived.BigQuiet
import Derived.BigRegion
import Derived.Deep.RegionWith
import Derived.Deep.RegionHeld3
import Derived.Test.YtnmnihlhcokjpaaGreatDoorPk07
import Derived.Test.YtnmnihlhcokjpaaGreatDoorPk09
import Derived.Test.YtnmnihlhcokjpaaGreatDoorPk10
import Derived.Test.YtnmnihlhcokjpaaGreatDoorPk03
import Derived.Test.YtnmnihlhcokjpaaGreatDoorPk04
import Derived.Test.YtnmnihlhcokjpaaGreatDoorPk12

/- Get, as the program reads bytes. -/
namespace Go.Proofs.YtnmnihlhcokjpaaGreatDoor
set_option maxRecDepth 100000
open Go.ChangeShapes Go.WideShapes Go.ChangeAt Go.RowKit
set_option linter.unusedVariables false

/-- What 'Get' leaves, of the program's make. -/
def GetEnd (l : List UInt8) (w : World) (e : Ending) (w' : World) : Prop :=
  e = .returned (.tuple #[.agg #[.bool (gTc l), .bool (gCh l), .bool (gAk l), .int .u64 (gRo l), .int .u32 (gCo l), .int .u64 (gBr l), .int .u16 (gPo l), .int .u16 (gAg l), .int .u16 (gMa l), .int .u16 (gHe l), .int .u16 (gDe l)], .int .i64 (gE l)]) ∧ Below w.heap.size w w'

theorem check_far (ch ak : Bool) (ro co br po ag ma he de : Int) (h : 2147483648 ≤ co) (w : World) :
    Calls Tryz.prog 69 #[.agg #[.bool false, .bool ch, .bool ak, .int .u64 ro, .int .u32 co, .int .u64 br, .int .u16 po, .int .u16 ag, .int .u16 ma, .int .u16 he, .int .u16 de]] w fun e w' => e = .returned (.int .i64 4) ∧ Below w.heap.size w w' := by
  have hd : decide (2147483648 ≤ co) = true := by simpa using h
  go_enter Tryz.func69, Tryz.ntmps69
  go_wp2
  go_ret
  exact ⟨rfl, below_new (Nat.le_refl _)⟩

theorem check_old (ch ak : Bool) (ro co br po ag ma he de : Int) (h : ¬ 2147483648 ≤ co) (g : ma ≤ ag) (w : World) :
    Calls Tryz.prog 69 #[.agg #[.bool false, .bool ch, .bool ak, .int .u64 ro, .int .u32 co, .int .u64 br, .int .u16 po, .int .u16 ag, .int .u16 ma, .int .u16 he, .int .u16 de]] w fun e w' => e = .returned (.int .i64 5) ∧ Below w.heap.size w w' := by
  have hd : decide (2147483648 ≤ co) = false := by simpa using h
  have hg : decide (ma ≤ ag) = true := by simpa using g
  go_enter Tryz.func69, Tryz.ntmps69
  go_wp2
  go_ret
  exact ⟨rfl, below_new (Nat.le_refl _)⟩

theorem check_good (ch ak : Bool) (ro co br po ag ma he de : Int) (h : ¬ 2147483648 ≤ co) (g : ¬ ma ≤ ag) (w : World) :
    Calls Tryz.prog 69 #[.agg #[.bool false, .bool ch, .bool ak, .int .u64 ro, .int .u32 co, .int .u64 br, .int .u16 po, .int .u16 ag, .int .u16 ma, .int .u16 he, .int .u16 de]] w fun e w' => e = .returned (.int .i64 0) ∧ Below w.heap.size w w' := by
  have hd : decide (2147483648 ≤ co) = false := by simpa using h
  have hg : decide (ma ≤ ag) = false := by simpa using g
  go_enter Tryz.func69, Tryz.ntmps69
  go_wp2
  go_ret
  exact ⟨rfl, below_new (Nat.le_refl _)⟩

theorem first_below {B : Nat} {a w : World} (h : Below B a w) : Below B a w := h

/-- The state inside 'Get': the reader, the answer's place, the Bpdu's box. -/
def GS (lo hi h : Nat) (l : List UInt8) (s : Bool) (cs ds : List Value) (w wc : World) : Prop :=
  ∃ A, RD 136 wc lo hi h A l s ∧ Bk wc w.heap.size 46 cs ∧ Bk wc (w.heap.size + 1) 46 ds ∧ Below w.heap.size w wc

theorem GS.go {lo hi h : Nat} {l l' : List UInt8} {s s' : Bool} {cs ds : List Value} {w wc wd : World} {A' : Option Addr} (c : GS lo hi h l s cs ds w wc) (hlo : Hid (lo = w.heap.size + 2)) (hr : RD 136 wd lo hi h A' l' s') (hb : Below lo wc wd) : GS lo hi h l' s' cs ds w wd := by
  have e := hlo.out
  obtain ⟨A, _, h2, h3, h4⟩ := c
  exact ⟨A', hr, h2.below hb (by omega), h3.below hb (by omega), h4.trans (hb.mono (by omega))⟩

theorem GS.same {lo hi h : Nat} {l : List UInt8} {s : Bool} {cs ds : List Value} {w wc wd : World} (c : GS lo hi h l s cs ds w wc) (hlo : Hid (lo = w.heap.size + 2)) (hz : hi ≤ wc.heap.size) (hb : Below wc.heap.size wc wd) : GS lo hi h l s cs ds w wd := by
  have e := hlo.out
  obtain ⟨A, h1, h2, h3, h4⟩ := c
  have q1 := h1.1
  have q2 := h1.2.1
  exact ⟨A, h1.below hb hz, h2.below hb (by omega), h3.below hb (by omega), h4.trans (hb.mono (by omega))⟩

theorem GS.put {lo hi h : Nat} {l : List UInt8} {s : Bool} {cs ds : List Value} {w wc : World} (c : GS lo hi h l s cs ds w wc) (hlo : Hid (lo = w.heap.size + 2)) (i : Nat) (u : Value) : GS lo hi h l s (cs.set i u) ds w (wc.setCell ⟨w.heap.size, i, none⟩ u) := by
  have e := hlo.out
  obtain ⟨A, h1, h2, h3, h4⟩ := c
  exact ⟨A, h1.set (.inl (by show w.heap.size < lo; omega)) u, h2.set i u, h3.far (p := ⟨w.heap.size, i, none⟩) (by show w.heap.size ≠ _; omega) u, h4.setCell (Nat.le_refl _) u⟩

theorem GS.put1 {lo hi h : Nat} {l : List UInt8} {s : Bool} {cs ds : List Value} {w wc : World} (c : GS lo hi h l s cs ds w wc) (hlo : Hid (lo = w.heap.size + 2)) (i : Nat) (u : Value) : GS lo hi h l s cs (ds.set i u) w (wc.setCell ⟨w.heap.size + 1, i, none⟩ u) := by
  have e := hlo.out
  obtain ⟨A, h1, h2, h3, h4⟩ := c
  exact ⟨A, h1.set (.inl (by show w.heap.size + 1 < lo; omega)) u, h2.far (p := ⟨w.heap.size + 1, i, none⟩) (by show w.heap.size + 1 ≠ _; omega) u, h3.set i u, h4.setCell (Nat.le_succ _) u⟩

/-- What holds where 'Get' goes to what is too short. -/
def GJ (A : Option Addr) (n c : Nat) (E : Int) (w : World) (a : Act) (w' : World) : Prop :=
  ∃ u1 u3 u4 u5 u6 u7 u8 u9 u10 u11 u12 u13 u14 u15 u16 u17 u18 u19 u20 u21 u22 u23 u24 u25 u26 u27 u28 u29 u30 u31 u32 u33 u34 u35 u36 u37 u38 u39 u40 u41 u42 u43 u44 u45 u46 : Value, a = { tmps := #[.slice A n c, u1, .pointer (some ⟨w.heap.size, 0, none⟩), u3, u4, u5, u6, u7, u8, u9, u10, u11, u12, u13, u14, u15, u16, u17, u18, u19, u20, u21, u22, u23, u24, u25, u26, u27, u28, u29, u30, u31, u32, u33, u34, u35, u36, u37, u38, u39, u40, u41, u42, u43, u44, u45, u46], defers := [] } ∧ E = 2 ∧ ∃ lo hi h l s ds, lo = w.heap.size + 2 ∧ GS lo hi h l s [.bool false, .bool false, .bool false, .int .u64 0, .int .u32 0, .int .u64 0, .int .u16 0, .int .u16 0, .int .u16 0, .int .u16 0, .int .u16 0] ds w w'

theorem front (l : List UInt8) (vb vk : Int) (lb lk : List UInt8) (sb sk : Bool) (h3 : NR (l.take 35) false 3 vb lb sb) (h1 : NR lb sb 1 vk lk sk) :
    (sk = true → l.length < 4) ∧ (sk = false → ¬ l.length < 4 ∧ vb = fld l 0 3 ∧ vk = fld l 3 1 ∧ lk = (l.take 35).drop 4) := by
  by_cases h : l.length < 4
  · refine ⟨fun _ => h, fun e => ?_⟩
    obtain ⟨a1, a2, a3⟩ := nr_short h1 e
    obtain ⟨b1, b2, b3⟩ := nr_short h3 a1
    simp only [List.length_take] at b2 b3
    omega
  · have k3 := nr_ok (l.take 35) 0 3 3 rfl (by simp; omega)
    have k1 := nr_ok (l.take 35) 3 1 4 rfl (by simp; omega)
    rw [List.drop_zero] at k3
    obtain ⟨rfl, rfl, rfl⟩ := h3
    obtain ⟨rfl, rfl, rfl⟩ := h1
    rw [k3.2.1, k3.2.2, k1.2.1, k1.2.2, k1.1, k3.1, fld_take _ _ _ _ (by decide), fld_take _ _ _ _ (by decide)]
    exact ⟨(fun e => by cases e), fun _ => ⟨h, rfl, rfl, rfl⟩⟩

theorem back_few (y l1 l2 l3 l4 l5 l6 l7 l8 l9 : List UInt8) (s1 s2 s3 s4 s5 s6 s7 s8 s9 : Bool) (v0 ro co br po ag ma he de : Int) (hy : y.length < 31)
    (h0 : NR y false 1 v0 l1 s1) (h1 : NR l1 s1 8 ro l2 s2) (h2 : NR l2 s2 4 co l3 s3) (h3 : NR l3 s3 8 br l4 s4) (h4 : NR l4 s4 2 po l5 s5) (h5 : NR l5 s5 2 ag l6 s6) (h6 : NR l6 s6 2 ma l7 s7) (h7 : NR l7 s7 2 he l8 s8) (h8 : NR l8 s8 2 de l9 s9) : s9 = true := by
  cases e : s9
  · obtain ⟨a8, b8, c8⟩ := nr_short h8 e
    obtain ⟨a7, b7, c7⟩ := nr_short h7 a8
    obtain ⟨a6, b6, c6⟩ := nr_short h6 a7
    obtain ⟨a5, b5, c5⟩ := nr_short h5 a6
    obtain ⟨a4, b4, c4⟩ := nr_short h4 a5
    obtain ⟨a3, b3, c3⟩ := nr_short h3 a4
    obtain ⟨a2, b2, c2⟩ := nr_short h2 a3
    obtain ⟨a1, b1, c1⟩ := nr_short h1 a2
    obtain ⟨a0, b0, c0⟩ := nr_short h0 a1
    omega
  · rfl

/-- A configuration's numbers as they are read, whatever is there. -/
theorem back_any (y : List UInt8) : ∃ l1 l2 l3 l4 l5 l6 l7 l8 l9 s1 s2 s3 s4 s5 s6 s7 s8 s9 v0 ro co br po ag ma he de,
    NR y false 1 v0 l1 s1 ∧ NR l1 s1 8 ro l2 s2 ∧ NR l2 s2 4 co l3 s3 ∧ NR l3 s3 8 br l4 s4 ∧ NR l4 s4 2 po l5 s5 ∧ NR l5 s5 2 ag l6 s6 ∧ NR l6 s6 2 ma l7 s7 ∧ NR l7 s7 2 he l8 s8 ∧ NR l8 s8 2 de l9 s9 ∧ BpIn ro co br po ag ma he de ∧ (0 ≤ v0 ∧ v0 < 256) :=
  ⟨_, _, _, _, _, _, _, _, _, _, _, _, _, _, _, _, _, _, _, _, _, _, _, _, _, _, _, ⟨rfl, rfl, rfl⟩, ⟨rfl, rfl, rfl⟩, ⟨rfl, rfl, rfl⟩, ⟨rfl, rfl, rfl⟩, ⟨rfl, rfl, rfl⟩, ⟨rfl, rfl, rfl⟩, ⟨rfl, rfl, rfl⟩, ⟨rfl, rfl, rfl⟩, ⟨rfl, rfl, rfl⟩,
    ⟨nV_pw _ _ 8, nV_pw _ _ 4, nV_pw _ _ 8, nV_pw _ _ 2, nV_pw _ _ 2, nV_pw _ _ 2, nV_pw _ _ 2, nV_pw _ _ 2⟩, nV_pw _ _ 1⟩

theorem back_ok (l : List UInt8) (h : ¬ l.length < 35) : 
    NR ((l.take 35).drop 4) false 1 (fld l 4 1) ((l.take 35).drop 5) false ∧ NR ((l.take 35).drop 5) false 8 (fld l 5 8) ((l.take 35).drop 13) false ∧ NR ((l.take 35).drop 13) false 4 (fld l 13 4) ((l.take 35).drop 17) false ∧ NR ((l.take 35).drop 17) false 8 (fld l 17 8) ((l.take 35).drop 25) false ∧ NR ((l.take 35).drop 25) false 2 (fld l 25 2) ((l.take 35).drop 27) false ∧ NR ((l.take 35).drop 27) false 2 (fld l 27 2) ((l.take 35).drop 29) false ∧ NR ((l.take 35).drop 29) false 2 (fld l 29 2) ((l.take 35).drop 31) false ∧ NR ((l.take 35).drop 31) false 2 (fld l 31 2) ((l.take 35).drop 33) false ∧ NR ((l.take 35).drop 33) false 2 (fld l 33 2) ((l.take 35).drop 35) false := by
  have e : (l.take 35).length = 35 := by simp; omega
  have k := fun p k q (hq : q = p + k) (h : q ≤ 35) => fld_take l p k 35 (by omega) ▸ nr_ok (l.take 35) p k q hq (by omega)
  exact ⟨k 4 1 5 rfl (by decide), k 5 8 13 rfl (by decide), k 13 4 17 rfl (by decide), k 17 8 25 rfl (by decide), k 25 2 27 rfl (by decide), k 27 2 29 rfl (by decide), k 29 2 31 rfl (by decide), k 31 2 33 rfl (by decide), k 33 2 35 rfl (by decide)⟩

theorem conf_ways (l lk : List UInt8) (hlk : lk = (l.take 35).drop 4) : ∃ l1 l2 l3 l4 l5 l6 l7 l8 l9 s1 s2 s3 s4 s5 s6 s7 s8 s9 v0 ro co br po ag ma he de ch ak,
    Hid (NR lk false 1 v0 l1 s1) ∧ Hid (NR l1 s1 8 ro l2 s2) ∧ Hid (NR l2 s2 4 co l3 s3) ∧ Hid (NR l3 s3 8 br l4 s4) ∧ Hid (NR l4 s4 2 po l5 s5) ∧ Hid (NR l5 s5 2 ag l6 s6) ∧ Hid (NR l6 s6 2 ma l7 s7) ∧ Hid (NR l7 s7 2 he l8 s8) ∧ Hid (NR l8 s8 2 de l9 s9) ∧ BpIn ro co br po ag ma he de ∧ Hid ((bits .and .u64 v0 1 != 0) = ch) ∧ Hid ((bits .and .u64 v0 128 != 0) = ak) ∧
    Hid (s9 = true ∧ l.length < 35 ∨ s9 = false ∧ ¬ l.length < 35 ∧ ch = (fld l 4 1 % 2 == 1) ∧ ak = decide (128 ≤ fld l 4 1) ∧ ro = fld l 5 8 ∧ co = fld l 13 4 ∧ br = fld l 17 8 ∧ po = fld l 25 2 ∧ ag = fld l 27 2 ∧ ma = fld l 29 2 ∧ he = fld l 31 2 ∧ de = fld l 33 2) := by
  subst hlk
  by_cases h : l.length < 35
  · obtain ⟨l1, l2, l3, l4, l5, l6, l7, l8, l9, s1, s2, s3, s4, s5, s6, s7, s8, s9, v0, ro, co, br, po, ag, ma, he, de, N0, N1, N2, N3, N4, N5, N6, N7, N8, NB, _⟩ := back_any ((l.take 35).drop 4)
    exact ⟨l1, l2, l3, l4, l5, l6, l7, l8, l9, s1, s2, s3, s4, s5, s6, s7, s8, s9, v0, ro, co, br, po, ag, ma, he, de, _, _, N0, N1, N2, N3, N4, N5, N6, N7, N8, NB, Lib.hid rfl, Lib.hid rfl, .inl ⟨back_few ((l.take 35).drop 4) l1 l2 l3 l4 l5 l6 l7 l8 l9 s1 s2 s3 s4 s5 s6 s7 s8 s9 v0 ro co br po ag ma he de (by simp; omega) N0 N1 N2 N3 N4 N5 N6 N7 N8, h⟩⟩
  · obtain ⟨N0, N1, N2, N3, N4, N5, N6, N7, N8⟩ := back_ok l h
    obtain ⟨f1, f2⟩ := flag_any (fld l 4 1) (fld1 l 4).1 (fld1 l 4).2
    exact ⟨_, _, _, _, _, _, _, _, _, _, _, _, _, _, _, _, _, _, _, _, _, _, _, _, _, _, _, _, _, N0, N1, N2, N3, N4, N5, N6, N7, N8, ⟨fld8 _ _, fld4 _ _, fld8 _ _, fld2 _ _, fld2 _ _, fld2 _ _, fld2 _ _, fld2 _ _⟩, f1, f2, .inr ⟨rfl, h, rfl, rfl, rfl, rfl, rfl, rfl, rfl, rfl, rfl, rfl⟩⟩

set_option maxRecDepth 100000 in
set_option maxHeartbeats 2000000 in
theorem get_any (A : Option Addr) (c : Nat) (l : List UInt8) (n : Nat) (hn : Hid (l.length = n)) (hm : n ≤ 10000) (hnc : n ≤ c) (w : World) (hr : RB w A 0 w.heap.size l) :
    Calls Tryz.prog 29 #[.slice A n c] w (GetEnd l w) := by
  obtain ⟨q, hq⟩ : ∃ q : Nat, q = min n 35 := ⟨_, rfl⟩
  have hmin : min (n : Int) 35 = (q : Int) := by omega
  have hc := cut3_any A n c q (by omega)
  have hq2 : Hid (q = min n 35) := Lib.hid hq
  clear hq
  obtain ⟨vb, lb, sb, H3⟩ : ∃ vb lb sb, Hid (NR (l.take 35) false 3 vb lb sb) := ⟨_, _, _, Lib.hid ⟨rfl, rfl, rfl⟩⟩
  obtain ⟨vk, lk, sk, H1⟩ : ∃ vk lk sk, Hid (NR lb sb 1 vk lk sk) := ⟨_, _, _, Lib.hid ⟨rfl, rfl, rfl⟩⟩
  have HF := Lib.hid (front l vb vk lb lk sb sk H3.out H1.out)
  have hyq : Hid ((l.take 35).length = q) := by show _ = _; rw [List.length_take, hn.out, hq2.out]; omega
  go_enter Tryz.func29, Tryz.ntmps29
  go_wp2_with fail
  refine wp_scope_jumps 0 (GJ A n c (gE l) w) (fun _ _ => 0) rfl ?_ ?_
  · go_wp2_with fail
    obtain ⟨w0, hB0, hb0, hs0, hw0⟩ := bboxed w false false false 0 0 0 0 0 0 0 0
    rw [← hw0]
    have hz0 : w0.heap.size = w.heap.size + 1 := by rw [hw0]; simp
    obtain ⟨w1, hB1, hb1, hs1, hw1⟩ := bboxed w0 false false false 0 0 0 0 0 0 0 0
    rw [← hw1]
    have hz1 : Hid (w1.heap.size = w.heap.size + 2) := by show _ = _; rw [hw1, World.size_alloc, hz0]
    rw [hz0] at hB1 hb1
    have hbw : Below w.heap.size w w1 := hb0.trans (hb1.mono (Nat.le_succ _))
    have hB0' := hB0.below hb1 (Nat.lt_succ_self _)
    clear hw0 hw1 hs1 hs0 hz0 hB0 hb0 hb1
    (with_reducible refine (new_any A c (l.take 35) q 0 w.heap.size hyq (by omega) _ ((hr.take 35).below hbw (Nat.le_refl _)) hbw.size).mono ?_); rintro e w2 ⟨h, A1, rfl, hR2, hb2⟩
    obtain ⟨lo, hlo⟩ : ∃ lo, lo = w1.heap.size := ⟨_, rfl⟩
    obtain ⟨hi, hhi⟩ : ∃ hi, hi = w2.heap.size := ⟨_, rfl⟩
    rw [← hlo, ← hhi] at hR2
    rw [← hlo] at hb2
    have hL : Hid (lo = w.heap.size + 2) := Lib.hid (hlo.trans hz1.out)
    have hH : Hid (hi ≤ w2.heap.size) := Lib.hid (Nat.le_of_eq hhi)
    have g2 : GS lo hi h (l.take 35) false [.bool false, .bool false, .bool false, .int .u64 0, .int .u32 0, .int .u64 0, .int .u16 0, .int .u16 0, .int .u16 0, .int .u16 0, .int .u16 0] [.bool false, .bool false, .bool false, .int .u64 0, .int .u32 0, .int .u64 0, .int .u16 0, .int .u16 0, .int .u16 0, .int .u16 0, .int .u16 0] w w2 := by
      have e := hL.out
      exact ⟨A1, hR2, hB0'.below hb2 (by omega), hB1.below hb2 (by omega), hbw.trans (hb2.mono (by omega))⟩
    clear hlo hhi hz1 hbw hB0' hB1 hb2 hR2 w1
    obtain ⟨y, hy⟩ : ∃ y, y = l.take 35 := ⟨_, rfl⟩
    rw [← hy] at g2 H3 hyq
    have HY := Lib.hid hy
    clear hy
    have m0 : y.length ≤ 100000 := by rw [hyq.out, hq2.out]; omega
    have m1 : lb.length ≤ 100000 := by rw [← H3.out.2.1]; exact Nat.le_trans (nL_len _ _ _) m0
    have m2 : lk.length ≤ 100000 := by rw [← H1.out.2.1]; exact Nat.le_trans (nL_len _ _ _) m1
    clear hc hmin
    go_wp2_with fail
    obtain ⟨A2, hR2, _⟩ := id g2
    (with_reducible refine (num_any lo hi h A2 y false 3 3 (Lib.hid rfl) (by omega) _ hR2 m0).mono ?_); rintro e w3 ⟨A3, rfl, hR3, hb3, ho3⟩
    rw [H3.out.1]
    rw [H3.out.2.1, H3.out.2.2] at hR3
    have g3 := g2.go hL hR3 hb3
    have hH3 : Hid (hi ≤ w3.heap.size) := Lib.hid (ho3.1 ▸ hH.out)
    clear hR2 hb3 ho3 g2 hH
    go_wp2_with fail
    (with_reducible refine (num_any lo hi h A3 lb sb 1 1 (Lib.hid rfl) (by omega) _ hR3 m1).mono ?_); rintro e w4 ⟨A4, rfl, hR4, hb4, ho4⟩
    rw [H1.out.1]
    rw [H1.out.2.1, H1.out.2.2] at hR4
    have g4 := g3.go hL hR4 hb4
    have hH4 : Hid (hi ≤ w4.heap.size) := Lib.hid (ho4.1 ▸ hH3.out)
    clear hR3 hb4 ho4 g3 hH3
    go_wp2_with fail
    (with_reducible refine (short_any lo hi h A4 lk sk _ hR4).mono ?_); rintro e w5 ⟨rfl, rfl⟩
    cases sk
    · obtain ⟨F1, F2, F3, F4⟩ := HF.out.2 rfl
      have HL := Lib.hid F1
      have HB := Lib.hid F2
      have HK := Lib.hid F3
      have HD := Lib.hid F4
      clear F1 F2 F3 F4
      obtain ⟨_, _, hX, hY, _⟩ := id g4
      obtain ⟨c0, c1, c2, c3, c4, c5, c6, c7, c8, c9, c10⟩ := BB.cells (show BB _ w.heap.size false false false 0 0 0 0 0 0 0 0 from hX)
      obtain ⟨z0, z1, z2, z3, z4, z5, z6, z7, z8, z9, z10⟩ := BB.thaws (show BB _ w.heap.size false false false 0 0 0 0 0 0 0 0 from hX)
      clear hX hY
      by_cases b0 : vb = 0
      · have d0 : (vb != 0) = false := by simpa using b0
        have B0 : Hid (fld l 0 3 = 0) := Lib.hid (HB.out ▸ b0)
        clear b0
        by_cases k0 : vk = 0
        · -- CONFIG
          have K : Hid (fld l 3 1 = 0) := Lib.hid (HK.out ▸ k0)
          subst k0
          have E : ∃ l1 l2 l3 l4 l5 l6 l7 l8 l9 s1 s2 s3 s4 s5 s6 s7 s8 s9 v0 ro co br po ag ma he de ch ak,
              Hid (NR lk false 1 v0 l1 s1) ∧ Hid (NR l1 s1 8 ro l2 s2) ∧ Hid (NR l2 s2 4 co l3 s3) ∧ Hid (NR l3 s3 8 br l4 s4) ∧ Hid (NR l4 s4 2 po l5 s5) ∧ Hid (NR l5 s5 2 ag l6 s6) ∧ Hid (NR l6 s6 2 ma l7 s7) ∧ Hid (NR l7 s7 2 he l8 s8) ∧ Hid (NR l8 s8 2 de l9 s9) ∧ BpIn ro co br po ag ma he de ∧ Hid ((bits .and .u64 v0 1 != 0) = ch) ∧ Hid ((bits .and .u64 v0 128 != 0) = ak) ∧
              Hid (s9 = true ∧ l.length < 35 ∨ s9 = false ∧ ¬ l.length < 35 ∧ ch = (fld l 4 1 % 2 == 1) ∧ ak = decide (128 ≤ fld l 4 1) ∧ ro = fld l 5 8 ∧ co = fld l 13 4 ∧ br = fld l 17 8 ∧ po = fld l 25 2 ∧ ag = fld l 27 2 ∧ ma = fld l 29 2 ∧ he = fld l 31 2 ∧ de = fld l 33 2) := conf_ways l lk HD.out
          obtain ⟨l1, l2, l3, l4, l5, l6, l7, l8, l9, s1, s2, s3, s4, s5, s6, s7, s8, s9, v0, ro, co, br, po, ag, ma, he, de, ch, ak, N0, N1, N2, N3, N4, N5, N6, N7, N8, NB, NC, NA, NW⟩ := E
          go_wp2_with fail
          (with_reducible refine (config_any lo hi h A4 lk l1 l2 l3 l4 l5 l6 l7 l8 l9 false s1 s2 s3 s4 s5 s6 s7 s8 s9 v0 ro co br po ag ma he de ch ak N0 N1 N2 N3 N4 N5 N6 N7 N8 NC.out NA.out NB m2 _ hR4 hH4.out).mono ?_); rintro e w6 ⟨A6, rfl, hR6, hb6⟩
          have g6 := g4.go hL hR6 hb6
          have hH6 : Hid (hi ≤ w6.heap.size) := Lib.hid (Nat.le_trans hH4.out hb6.size)
          clear hR4 hb6 hR6 c0 c1 c2 c3 c4 c5 c6 c7 c8 c9 c10 z0 z1 z2 z3 z4 z5 z6 z7 z8 z9 z10 g4
          obtain ⟨_, _, hX, hY, _⟩ := id g6
          obtain ⟨d0, d1, d2, d3, d4, d5, d6, d7, d8, d9, d10⟩ := BB.cells (show BB _ (w.heap.size + 1) false false false 0 0 0 0 0 0 0 0 from hY)
          obtain ⟨f0, f1, f2, f3, f4, f5, f6, f7, f8, f9, f10⟩ := BB.thaws (show BB _ (w.heap.size + 1) false false false 0 0 0 0 0 0 0 0 from hY)
          clear hX hY
          go_wp2_with fail
          clear d0 d1 d2 d3 d4 d5 d6 d7 d8 d9 d10 f0 f1 f2 f3 f4 f5 f6 f7 f8 f9 f10
          have g7 := (((((((((((g6.put1 hL 0 (.bool false)).put1 hL 1 (.bool ch)).put1 hL 2 (.bool ak)).put1 hL 3 (.int .u64 ro)).put1 hL 4 (.int .u32 co)).put1 hL 5 (.int .u64 br)).put1 hL 6 (.int .u16 po)).put1 hL 7 (.int .u16 ag)).put1 hL 8 (.int .u16 ma)).put1 hL 9 (.int .u16 he)).put1 hL 10 (.int .u16 de))
          generalize hw7 : World.setCell _ ⟨w.heap.size + 1, 10, none⟩ _ = w7 at g7 ⊢
          have hH7 : Hid (hi ≤ w7.heap.size) := Lib.hid (by rw [← hw7]; simp only [World.size_setCell]; exact hH6.out)
          clear hw7
          clear g6 hH6
          obtain ⟨A7, hR7, _⟩ := id g7
          (with_reducible refine (short_any lo hi h A7 l9 s9 _ hR7).mono ?_); rintro e w8 ⟨rfl, rfl⟩
          clear hR7 H3 H1 HF N0 N1 N2 N3 N4 N5 N6 N7 N8 NC NA
          cases s9
          · have NW' : ¬ l.length < 35 ∧ ch = (fld l 4 1 % 2 == 1) ∧ ak = decide (128 ≤ fld l 4 1) ∧ ro = fld l 5 8 ∧ co = fld l 13 4 ∧ br = fld l 17 8 ∧ po = fld l 25 2 ∧ ag = fld l 27 2 ∧ ma = fld l 29 2 ∧ he = fld l 31 2 ∧ de = fld l 33 2 := by
              rcases NW.out with ⟨e, _⟩ | ⟨_, e⟩
              · cases e
              · exact e
            obtain ⟨x1, x2, x3, x4, x5, x6, x7, x8, x9, x10, x11⟩ := NW'
            have X := Lib.hid (And.intro x1 (And.intro x2 (And.intro x3 (And.intro x4 (And.intro x5 (And.intro x6 (And.intro x7 (And.intro x8 (And.intro x9 (And.intro x10 x11))))))))))
            clear x1 x2 x3 x4 x5 x6 x7 x8 x9 x10 x11 NW
            obtain ⟨_, _, hX, hY, _⟩ := id g7
            obtain ⟨c0, c1, c2, c3, c4, c5, c6, c7, c8, c9, c10⟩ := BB.cells (show BB _ w.heap.size false false false 0 0 0 0 0 0 0 0 from hX)
            obtain ⟨z0, z1, z2, z3, z4, z5, z6, z7, z8, z9, z10⟩ := BB.thaws (show BB _ w.heap.size false false false 0 0 0 0 0 0 0 0 from hX)
            obtain ⟨d0, d1, d2, d3, d4, d5, d6, d7, d8, d9, d10⟩ := BB.cells (show BB _ (w.heap.size + 1) false ch ak ro co br po ag ma he de from hY)
            clear hX hY
            by_cases far : 2147483648 ≤ co
            · have KE : Hid (gE l = 4) := by
                obtain ⟨x1, x2, x3, x4, x5, x6, x7, x8, x9, x10, x11⟩ := X.out
                exact Lib.hid (gE_far l x1 B0.out K.out (x5 ▸ far))
              go_wp2_with fail
              (with_reducible refine (check_far ch ak ro co br po ag ma he de far _).mono ?_); rintro e w8 ⟨rfl, hb8⟩
              have g8 := g7.same hL hH7.out hb8
              clear c0 c1 c2 c3 c4 c5 c6 c7 c8 c9 c10 z0 z1 z2 z3 z4 z5 z6 z7 z8 z9 z10 d0 d1 d2 d3 d4 d5 d6 d7 d8 d9 d10
              obtain ⟨_, _, hX, hY, _⟩ := id g8
              obtain ⟨c0, c1, c2, c3, c4, c5, c6, c7, c8, c9, c10⟩ := BB.cells (show BB _ w.heap.size false false false 0 0 0 0 0 0 0 0 from hX)
              obtain ⟨z0, z1, z2, z3, z4, z5, z6, z7, z8, z9, z10⟩ := BB.thaws (show BB _ w.heap.size false false false 0 0 0 0 0 0 0 0 from hX)
              obtain ⟨d0, d1, d2, d3, d4, d5, d6, d7, d8, d9, d10⟩ := BB.cells (show BB _ (w.heap.size + 1) false ch ak ro co br po ag ma he de from hY)
              clear hX hY
              go_wp2_with fail
              have gz := (((((((((((g8.put hL 0 (.bool false)).put hL 1 (.bool false)).put hL 2 (.bool false)).put hL 3 (.int .u64 0)).put hL 4 (.int .u32 0)).put hL 5 (.int .u64 0)).put hL 6 (.int .u16 0)).put hL 7 (.int .u16 0)).put hL 8 (.int .u16 0)).put hL 9 (.int .u16 0)).put hL 10 (.int .u16 0))
              generalize World.setCell _ ⟨w.heap.size, 10, none⟩ _ = we at gz ⊢
              obtain ⟨_, _, k2, _, k4⟩ := gz
              obtain ⟨e0, e1, e2, e3, e4, e5, e6, e7, e8, e9, e10⟩ := BB.cells (show BB we w.heap.size false false false 0 0 0 0 0 0 0 0 from k2)
              simp only [Exit.jump]
              exact bodyPost_ret (v := .tuple #[.agg #[.bool false, .bool false, .bool false, .int .u64 0, .int .u32 0, .int .u64 0, .int .u16 0, .int .u16 0, .int .u16 0, .int .u16 0, .int .u16 0], .int .i64 4]) (by simp [results, Tryz.results29, go_sem, e0, e1, e2, e3, e4, e5, e6, e7, e8, e9, e10]) rfl ⟨by obtain ⟨z0, z1, z2, z3, z4, z5, z6, z7, z8, z9, z10⟩ := g_bad l (by rw [KE.out]; decide); rw [z0, z1, z2, z3, z4, z5, z6, z7, z8, z9, z10, KE.out], first_below k4⟩
            · have FAR := Lib.hid far
              by_cases old : ma ≤ ag
              · have KE : Hid (gE l = 5) := by
                  obtain ⟨x1, x2, x3, x4, x5, x6, x7, x8, x9, x10, x11⟩ := X.out
                  exact Lib.hid (gE_old l x1 B0.out K.out (x5 ▸ far) (x8 ▸ x9 ▸ old))
                go_wp2_with fail
                (with_reducible refine (check_old ch ak ro co br po ag ma he de (by have := FAR.out; omega) old _).mono ?_); rintro e w8 ⟨rfl, hb8⟩
                have g8 := g7.same hL hH7.out hb8
                clear c0 c1 c2 c3 c4 c5 c6 c7 c8 c9 c10 z0 z1 z2 z3 z4 z5 z6 z7 z8 z9 z10 d0 d1 d2 d3 d4 d5 d6 d7 d8 d9 d10
                obtain ⟨_, _, hX, hY, _⟩ := id g8
                obtain ⟨c0, c1, c2, c3, c4, c5, c6, c7, c8, c9, c10⟩ := BB.cells (show BB _ w.heap.size false false false 0 0 0 0 0 0 0 0 from hX)
                obtain ⟨z0, z1, z2, z3, z4, z5, z6, z7, z8, z9, z10⟩ := BB.thaws (show BB _ w.heap.size false false false 0 0 0 0 0 0 0 0 from hX)
                obtain ⟨d0, d1, d2, d3, d4, d5, d6, d7, d8, d9, d10⟩ := BB.cells (show BB _ (w.heap.size + 1) false ch ak ro co br po ag ma he de from hY)
                clear hX hY
                go_wp2_with fail
                have gz := (((((((((((g8.put hL 0 (.bool false)).put hL 1 (.bool false)).put hL 2 (.bool false)).put hL 3 (.int .u64 0)).put hL 4 (.int .u32 0)).put hL 5 (.int .u64 0)).put hL 6 (.int .u16 0)).put hL 7 (.int .u16 0)).put hL 8 (.int .u16 0)).put hL 9 (.int .u16 0)).put hL 10 (.int .u16 0))
                generalize World.setCell _ ⟨w.heap.size, 10, none⟩ _ = we at gz ⊢
                obtain ⟨_, _, k2, _, k4⟩ := gz
                obtain ⟨e0, e1, e2, e3, e4, e5, e6, e7, e8, e9, e10⟩ := BB.cells (show BB we w.heap.size false false false 0 0 0 0 0 0 0 0 from k2)
                simp only [Exit.jump]
                exact bodyPost_ret (v := .tuple #[.agg #[.bool false, .bool false, .bool false, .int .u64 0, .int .u32 0, .int .u64 0, .int .u16 0, .int .u16 0, .int .u16 0, .int .u16 0, .int .u16 0], .int .i64 5]) (by simp [results, Tryz.results29, go_sem, e0, e1, e2, e3, e4, e5, e6, e7, e8, e9, e10]) rfl ⟨by obtain ⟨z0, z1, z2, z3, z4, z5, z6, z7, z8, z9, z10⟩ := g_bad l (by rw [KE.out]; decide); rw [z0, z1, z2, z3, z4, z5, z6, z7, z8, z9, z10, KE.out], first_below k4⟩
              · have OLD := Lib.hid old
                have KE : Hid (gE l = 0) := by
                  obtain ⟨x1, x2, x3, x4, x5, x6, x7, x8, x9, x10, x11⟩ := X.out
                  exact Lib.hid (gE_good l x1 B0.out K.out (x5 ▸ far) (x8 ▸ x9 ▸ old))
                go_wp2_with fail
                (with_reducible refine (check_good ch ak ro co br po ag ma he de (by have := FAR.out; omega) (by have := OLD.out; omega) _).mono ?_); rintro e w8 ⟨rfl, hb8⟩
                have g8 := g7.same hL hH7.out hb8
                clear c0 c1 c2 c3 c4 c5 c6 c7 c8 c9 c10 z0 z1 z2 z3 z4 z5 z6 z7 z8 z9 z10 d0 d1 d2 d3 d4 d5 d6 d7 d8 d9 d10 far old
                obtain ⟨_, _, hX, hY, _⟩ := id g8
                obtain ⟨c0, c1, c2, c3, c4, c5, c6, c7, c8, c9, c10⟩ := BB.cells (show BB _ w.heap.size false false false 0 0 0 0 0 0 0 0 from hX)
                obtain ⟨z0, z1, z2, z3, z4, z5, z6, z7, z8, z9, z10⟩ := BB.thaws (show BB _ w.heap.size false false false 0 0 0 0 0 0 0 0 from hX)
                obtain ⟨d0, d1, d2, d3, d4, d5, d6, d7, d8, d9, d10⟩ := BB.cells (show BB _ (w.heap.size + 1) false ch ak ro co br po ag ma he de from hY)
                clear hX hY
                go_wp2_with fail
                have gz := (((((((((((g8.put hL 0 (.bool false)).put hL 1 (.bool ch)).put hL 2 (.bool ak)).put hL 3 (.int .u64 ro)).put hL 4 (.int .u32 co)).put hL 5 (.int .u64 br)).put hL 6 (.int .u16 po)).put hL 7 (.int .u16 ag)).put hL 8 (.int .u16 ma)).put hL 9 (.int .u16 he)).put hL 10 (.int .u16 de))
                generalize World.setCell _ ⟨w.heap.size, 10, none⟩ _ = we at gz ⊢
                obtain ⟨_, _, k2, _, k4⟩ := gz
                obtain ⟨e0, e1, e2, e3, e4, e5, e6, e7, e8, e9, e10⟩ := BB.cells (show BB we w.heap.size false ch ak ro co br po ag ma he de from k2)
                simp only [Exit.jump]
                exact bodyPost_ret (v := .tuple #[.agg #[.bool false, .bool ch, .bool ak, .int .u64 ro, .int .u32 co, .int .u64 br, .int .u16 po, .int .u16 ag, .int .u16 ma, .int .u16 he, .int .u16 de], .int .i64 0]) (by simp [results, Tryz.results29, go_sem, e0, e1, e2, e3, e4, e5, e6, e7, e8, e9, e10]) rfl ⟨by obtain ⟨x1, x2, x3, x4, x5, x6, x7, x8, x9, x10, x11⟩ := X.out; obtain ⟨z0, z1, z2, z3, z4, z5, z6, z7, z8, z9, z10⟩ := g_conf l KE.out K.out; rw [z0, z1, z2, z3, z4, z5, z6, z7, z8, z9, z10, KE.out, x2, x3, x4, x5, x6, x7, x8, x9, x10, x11], first_below k4⟩
          · have KE : Hid (gE l = 2) := by
              rcases NW.out with ⟨_, e⟩ | ⟨e, _⟩
              · exact Lib.hid (gE_few l HL.out B0.out K.out e)
              · cases e
            go_wp2_with fail
            go_step3
            exact ⟨rfl, _, _, _, _, _, _, _, _, _, _, _, _, _, _, _, _, _, _, _, _, _, _, _, _, _, _, _, _, _, _, _, _, _, _, _, _, _, _, _, _, _, _, _, _, _, rfl, KE.out, lo, hi, h, l9, true, _, hL.out, g7⟩
          -- END CONFIG
        · by_cases k1 : vk = 128
          · have K : Hid (fld l 3 1 = 128) := Lib.hid (HK.out ▸ k1)
            subst k1
            clear k0
            go_wp2_with fail
            have gz := (((((((((((g4.put hL 0 (.bool true)).put hL 1 (.bool false)).put hL 2 (.bool false)).put hL 3 (.int .u64 0)).put hL 4 (.int .u32 0)).put hL 5 (.int .u64 0)).put hL 6 (.int .u16 0)).put hL 7 (.int .u16 0)).put hL 8 (.int .u16 0)).put hL 9 (.int .u16 0)).put hL 10 (.int .u16 0))
            generalize World.setCell _ ⟨w.heap.size, 10, none⟩ _ = we at gz ⊢
            obtain ⟨_, _, k2, _, k4⟩ := gz
            obtain ⟨e0, e1, e2, e3, e4, e5, e6, e7, e8, e9, e10⟩ := BB.cells (show BB we w.heap.size true false false 0 0 0 0 0 0 0 0 from k2)
            simp only [Exit.jump]
            exact bodyPost_ret (v := .tuple #[.agg #[.bool true, .bool false, .bool false, .int .u64 0, .int .u32 0, .int .u64 0, .int .u16 0, .int .u16 0, .int .u16 0, .int .u16 0, .int .u16 0], .int .i64 0]) (by simp [results, Tryz.results29, go_sem, e0, e1, e2, e3, e4, e5, e6, e7, e8, e9, e10]) rfl ⟨by obtain ⟨z0, z1, z2, z3, z4, z5, z6, z7, z8, z9, z10⟩ := g_tcn l (gE_tcn l HL.out B0.out K.out) K.out; rw [z0, z1, z2, z3, z4, z5, z6, z7, z8, z9, z10, gE_tcn l HL.out B0.out K.out], first_below k4⟩
          · have d1 : (vk != 0) = true := by simpa using k0
            have d2 : (vk != 128) = true := by simpa using k1
            have K : Hid (gE l = 3) := Lib.hid (gE_form l HL.out (.inr ⟨HK.out ▸ k0, HK.out ▸ k1⟩))
            clear k0 k1
            go_wp2_with fail
            have gz := (((((((((((g4.put hL 0 (.bool false)).put hL 1 (.bool false)).put hL 2 (.bool false)).put hL 3 (.int .u64 0)).put hL 4 (.int .u32 0)).put hL 5 (.int .u64 0)).put hL 6 (.int .u16 0)).put hL 7 (.int .u16 0)).put hL 8 (.int .u16 0)).put hL 9 (.int .u16 0)).put hL 10 (.int .u16 0))
            generalize World.setCell _ ⟨w.heap.size, 10, none⟩ _ = we at gz ⊢
            obtain ⟨_, _, k2, _, k4⟩ := gz
            obtain ⟨e0, e1, e2, e3, e4, e5, e6, e7, e8, e9, e10⟩ := BB.cells (show BB we w.heap.size false false false 0 0 0 0 0 0 0 0 from k2)
            simp only [Exit.jump]
            exact bodyPost_ret (v := .tuple #[.agg #[.bool false, .bool false, .bool false, .int .u64 0, .int .u32 0, .int .u64 0, .int .u16 0, .int .u16 0, .int .u16 0, .int .u16 0, .int .u16 0], .int .i64 3]) (by simp [results, Tryz.results29, go_sem, e0, e1, e2, e3, e4, e5, e6, e7, e8, e9, e10]) rfl ⟨by obtain ⟨z0, z1, z2, z3, z4, z5, z6, z7, z8, z9, z10⟩ := g_bad l (by rw [K.out]; decide); rw [z0, z1, z2, z3, z4, z5, z6, z7, z8, z9, z10, K.out], first_below k4⟩
      · have d0 : (vb != 0) = true := by simpa using b0
        have K : Hid (gE l = 3) := Lib.hid (gE_form l HL.out (.inl (HB.out ▸ b0)))
        clear b0
        go_wp2_with fail
        have gz := (((((((((((g4.put hL 0 (.bool false)).put hL 1 (.bool false)).put hL 2 (.bool false)).put hL 3 (.int .u64 0)).put hL 4 (.int .u32 0)).put hL 5 (.int .u64 0)).put hL 6 (.int .u16 0)).put hL 7 (.int .u16 0)).put hL 8 (.int .u16 0)).put hL 9 (.int .u16 0)).put hL 10 (.int .u16 0))
        generalize World.setCell _ ⟨w.heap.size, 10, none⟩ _ = we at gz ⊢
        obtain ⟨_, _, k2, _, k4⟩ := gz
        obtain ⟨e0, e1, e2, e3, e4, e5, e6, e7, e8, e9, e10⟩ := BB.cells (show BB we w.heap.size false false false 0 0 0 0 0 0 0 0 from k2)
        simp only [Exit.jump]
        exact bodyPost_ret (v := .tuple #[.agg #[.bool false, .bool false, .bool false, .int .u64 0, .int .u32 0, .int .u64 0, .int .u16 0, .int .u16 0, .int .u16 0, .int .u16 0, .int .u16 0], .int .i64 3]) (by simp [results, Tryz.results29, go_sem, e0, e1, e2, e3, e4, e5, e6, e7, e8, e9, e10]) rfl ⟨by obtain ⟨z0, z1, z2, z3, z4, z5, z6, z7, z8, z9, z10⟩ := g_bad l (by rw [K.out]; decide); rw [z0, z1, z2, z3, z4, z5, z6, z7, z8, z9, z10, K.out], first_below k4⟩
    · have K : Hid (gE l = 2) := Lib.hid (gE_short l (HF.out.1 rfl))
      go_wp2_with fail
      go_step3
      exact ⟨rfl, _, _, _, _, _, _, _, _, _, _, _, _, _, _, _, _, _, _, _, _, _, _, _, _, _, _, _, _, _, _, _, _, _, _, _, _, _, _, _, _, _, _, _, _, _, rfl, K.out, lo, hi, h, lk, true, _, hL.out, g4⟩
  · rintro a' w' ⟨u1, u3, u4, u5, u6, u7, u8, u9, u10, u11, u12, u13, u14, u15, u16, u17, u18, u19, u20, u21, u22, u23, u24, u25, u26, u27, u28, u29, u30, u31, u32, u33, u34, u35, u36, u37, u38, u39, u40, u41, u42, u43, u44, u45, u46, rfl, hE, lo, hi, h, l', s', ds, hlo, g⟩
    have hL := Lib.hid hlo
    have HE := Lib.hid hE
    clear hlo hE
    obtain ⟨_, _, hX, hY, _⟩ := id g
    obtain ⟨c0, c1, c2, c3, c4, c5, c6, c7, c8, c9, c10⟩ := BB.cells (show BB _ w.heap.size false false false 0 0 0 0 0 0 0 0 from hX)
    obtain ⟨z0, z1, z2, z3, z4, z5, z6, z7, z8, z9, z10⟩ := BB.thaws (show BB _ w.heap.size false false false 0 0 0 0 0 0 0 0 from hX)
    clear hX hY
    go_wp2_with fail
    have gz := (((((((((((g.put hL 0 (.bool false)).put hL 1 (.bool false)).put hL 2 (.bool false)).put hL 3 (.int .u64 0)).put hL 4 (.int .u32 0)).put hL 5 (.int .u64 0)).put hL 6 (.int .u16 0)).put hL 7 (.int .u16 0)).put hL 8 (.int .u16 0)).put hL 9 (.int .u16 0)).put hL 10 (.int .u16 0))
    generalize World.setCell _ ⟨w.heap.size, 10, none⟩ _ = we at gz ⊢
    obtain ⟨_, _, k2, _, k4⟩ := gz
    obtain ⟨e0, e1, e2, e3, e4, e5, e6, e7, e8, e9, e10⟩ := BB.cells (show BB we w.heap.size false false false 0 0 0 0 0 0 0 0 from k2)
    simp only [Exit.jump]
    exact bodyPost_ret (v := .tuple #[.agg #[.bool false, .bool false, .bool false, .int .u64 0, .int .u32 0, .int .u64 0, .int .u16 0, .int .u16 0, .int .u16 0, .int .u16 0, .int .u16 0], .int .i64 2]) (by simp [results, Tryz.results29, go_sem, e0, e1, e2, e3, e4, e5, e6, e7, e8, e9, e10]) rfl ⟨by obtain ⟨z0, z1, z2, z3, z4, z5, z6, z7, z8, z9, z10⟩ := g_bad l (by rw [HE.out]; decide); rw [z0, z1, z2, z3, z4, z5, z6, z7, z8, z9, z10, HE.out], first_below k4⟩

end Go.Proofs.YtnmnihlhcokjpaaGreatDoor

/- The document's Get: the same answer. -/
namespace Go.Proofs.YtnmnihlhcokjpaaGreatDoor
set_option maxRecDepth 100000
open Go.ChangeShapes Go.WideShapes Go.ChangeAt Go.RowKit
set_option linter.unusedVariables false

/-- The answer's place and the Bpdu's box. -/
def BRS (cs ds : List Value) (w wc : World) : Prop :=
  Bk wc w.heap.size 46 cs ∧ Bk wc (w.heap.size + 1) 46 ds ∧ Below w.heap.size w wc

theorem BRS.put {cs ds : List Value} {w wc : World} (c : BRS cs ds w wc) (i : Nat) (u : Value) : BRS (cs.set i u) ds w (wc.setCell ⟨w.heap.size, i, none⟩ u) :=
  ⟨c.1.set i u, c.2.1.far (p := ⟨w.heap.size, i, none⟩) (by show w.heap.size ≠ _; omega) u, c.2.2.setCell (Nat.le_refl _) u⟩

theorem BRS.put1 {cs ds : List Value} {w wc : World} (c : BRS cs ds w wc) (i : Nat) (u : Value) : BRS cs (ds.set i u) w (wc.setCell ⟨w.heap.size + 1, i, none⟩ u) :=
  ⟨c.1.far (p := ⟨w.heap.size + 1, i, none⟩) (by show w.heap.size + 1 ≠ _; omega) u, c.2.1.set i u, c.2.2.setCell (Nat.le_succ _) u⟩

end Go.Proofs.YtnmnihlhcokjpaaGreatDoor

/- To a port: the program's For, and the document's. -/
namespace Go.Proofs.YtnmnihlhcokjpaaGreatDoor
set_option maxRecDepth 100000
open Go.ChangeShapes Go.WideShapes Go.ChangeAt Go.RowKit
set_option linter.unusedVariables false

/-- What 'For' leaves. -/
def ForEnd (l : List UInt8) (b p : Int) (w : World) (e : Ending) (w' : World) : Prop :=
  e = .returned (.tuple #[.agg #[.bool (fTc l b p), .bool (fCh l b p), .bool (fAk l b p), .int .u64 (fRo l b p), .int .u32 (fCo l b p), .int .u64 (fBr l b p), .int .u16 (fPo l b p), .int .u16 (fAg l b p), .int .u16 (fMa l b p), .int .u16 (fHe l b p), .int .u16 (fDe l b p)], .int .i64 (fE l b p)]) ∧ Below w.heap.size w w'

/-- The answer's place. -/
def QS (cs : List Value) (w wc : World) : Prop := Bk wc w.heap.size 46 cs ∧ Below w.heap.size w wc

theorem QS.put {cs : List Value} {w wc : World} (c : QS cs w wc) (i : Nat) (u : Value) : QS (cs.set i u) w (wc.setCell ⟨w.heap.size, i, none⟩ u) :=
  ⟨c.1.set i u, c.2.setCell (Nat.le_refl _) u⟩

end Go.Proofs.YtnmnihlhcokjpaaGreatDoor

/- A Bpdu's bytes, read: lists and numbers alone. -/
namespace Go.Proofs.YtnmnihlhcokjpaaGreatDoor
set_option maxRecDepth 100000
open Go Go.RowKit
set_option linter.unusedVariables false

theorem rest_1 (n : Int) (h0 : 0 ≤ n) (h1 : n < 256) : restK n 1 = n := by simp only [restK]; omega
theorem rest_3 (n : Int) (h0 : 0 ≤ n) (h1 : n < 16777216) : restK n 3 = n := by simp only [restK]; omega
theorem fld_mid (x y : List UInt8) (v : Int) (p k : Nat) (hp : x.length = p) (h0 : 0 ≤ v) (h1 : v < 18446744073709551616) (hr : restK v k = v) : fld (x ++ (beB v k ++ y)) p k = v := by
  unfold fld
  rw [List.drop_append_of_le_length (by omega), List.drop_eq_nil_of_le (by omega), List.nil_append, List.take_append_of_le_length (by rw [beB_len]; exact Nat.le_refl _), List.take_of_length_le (by rw [beB_len]; exact Nat.le_refl _), numU_beB v h0 h1, hr]

theorem tcnB_len : tcnB.length = 4 := by decide

theorem tcn_flds (z : List UInt8) : fld (tcnB ++ z) 0 3 = 0 ∧ fld (tcnB ++ z) 3 1 = 128 := by
  have a := fld_mid [] (beB 128 1 ++ z) 0 0 3 rfl (by omega) (by omega) (rest_3 _ (by omega) (by omega))
  have b := fld_mid (beB 0 3) z 128 3 1 (beB_len 0 3) (by omega) (by omega) (rest_1 _ (by omega) (by omega))
  refine ⟨?_, ?_⟩
  · simpa only [tcnB, List.append_assoc, List.nil_append] using a
  · simpa only [tcnB, List.append_assoc, List.nil_append] using b

theorem gE_tcnB (z : List UInt8) : gE (tcnB ++ z) = 0 := gE_tcn _ (by simp [tcnB_len]) (tcn_flds z).1 (tcn_flds z).2

theorem g_tcnB (z : List UInt8) : gTc (tcnB ++ z) = true ∧ gCh (tcnB ++ z) = false ∧ gAk (tcnB ++ z) = false ∧ gRo (tcnB ++ z) = 0 ∧ gCo (tcnB ++ z) = 0 ∧ gBr (tcnB ++ z) = 0 ∧ gPo (tcnB ++ z) = 0 ∧ gAg (tcnB ++ z) = 0 ∧ gMa (tcnB ++ z) = 0 ∧ gHe (tcnB ++ z) = 0 ∧ gDe (tcnB ++ z) = 0 :=
  g_tcn (tcnB ++ z) (gE_tcnB z) (tcn_flds z).2

end Go.Proofs.YtnmnihlhcokjpaaGreatDoor

/- Open, and how much room there is behind what it hands out. -/
namespace Go.Proofs.YtnmnihlhcokjpaaGreatDoor
set_option maxRecDepth 100000
open Go.ChangeShapes Go.WideShapes Go.ChangeAt Go.RowKit
set_option linter.unusedVariables false

def OpenYesC (x : List UInt8) (m : Nat) (w : World) (e : Ending) (w' : World) : Prop :=
  ∃ D cap, e = .returned (.tuple #[.slice D m cap, .bool true]) ∧ m ≤ cap ∧ RB w' D 0 w'.heap.size x ∧ Below w.heap.size w w'
def OpenEndC (t k : Int) (l : List UInt8) (n : Nat) (w : World) (e : Ending) (w' : World) : Prop :=
  (openB t k l = true ∧ OpenYesC (l.drop 3) (n - 3) w e w') ∨ (openB t k l = false ∧ OpenNo w e w')

end Go.Proofs.YtnmnihlhcokjpaaGreatDoor

/- What a configuration that went out is read as: no program but the bytes. -/
namespace Go.Proofs.YtnmnihlhcokjpaaGreatDoor
set_option maxRecDepth 100000
open Go.ChangeShapes Go.WideShapes Go.ChangeAt Go.RowKit
set_option linter.unusedVariables false

/-- What Get makes of bytes. -/
def getQ (l : List UInt8) : Bq := ⟨gTc l, gCh l, gAk l, gRo l, gCo l, gBr l, gPo l, gAg l, gMa l, gHe l, gDe l⟩
end Go.Proofs.YtnmnihlhcokjpaaGreatDoor

/- hears: contract. -/
namespace Go.Proofs.YtnmnihlhcokjpaaGreatDoor
set_option maxRecDepth 100000
open Go.ChangeShapes Go.WideShapes Go.ChangeAt Go.RowKit
set_option linter.unusedVariables false
set_option linter.unusedSimpArgs false

theorem hears_is (t : Th) (A : Option Addr) (n cap : Nat) (L : List Po) (hL : Hid (L.length = n)) (i : Int) (q : Bool) (hq : Hid ((if 0 ≤ i then (match L[i.toNat]? with | none => false | some p => !decide (p.st = 0)) else false) = q)) (w : World) (hp : Hid (PoAt w A w.heap.size L)) :
    Calls Tryz.prog 30 #[.agg (lT t A n cap).toArray, .int .i64 i] w fun e w' => e = .returned (.bool q) ∧ Below w.heap.size w w' := by
  obtain ⟨wb, hwb, S⟩ := hs_one w 31 (lT t A n cap)
  have HP := Lib.hid ((hp.out.below S.old (Nat.le_refl _)).wide S.old.size)
  have hq' := hq.out
  clear hq
  go_enter Tryz.func30, Tryz.ntmps30
  go_upto_region 1 with fail
  clear hwb
  have c18 := S.cell 0 18 rfl rfl
  by_cases i0 : i < 0
  · obtain rfl : false = q := by rw [← hq', if_neg (by omega)]
    have i1 : ¬ 0 ≤ i := by omega
    clear hq'
    go_wp2
    go_ret
    exact ⟨rfl, S.old⟩
  · have i1 : 0 ≤ i := by omega
    rw [if_pos i1] at hq'
    by_cases i2 : (n : Int) ≤ i
    · obtain rfl : false = q := by rw [← hq', List.getElem?_eq_none (by have := hL.out; omega)]
      have i3 : ¬ i < (n : Int) := by omega
      clear hq'
      go_wp2
      go_ret
      exact ⟨rfl, S.old⟩
    · obtain ⟨k, rfl⟩ : ∃ k : Nat, i = k := ⟨i.toNat, by omega⟩
      obtain ⟨x, hx⟩ := po_at hL.out (show k < n by omega)
      rw [Int.toNat_natCast, hx] at hq'
      obtain ⟨ad, rfl, -, -, h1⟩ := HP.out.cells hx
      have p1 := h1 0 _ rfl
      have hki : (k : Int) < (n : Int) := by omega
      have hkz : ¬ (n : Int) ≤ (k : Int) := by omega
      clear h1 hx HP hp
      by_cases hs : x.st = 0
      · obtain rfl : false = q := by rw [← hq']; simp [hs]
        have hb : (x.st != 0) = false := by simp [hs]
        clear hq' hs
        go_wp2
        go_ret
        exact ⟨rfl, S.old⟩
      · obtain rfl : true = q := by rw [← hq']; simp [hs]
        have hb : (x.st != 0) = true := by simp [hs]
        clear hq' hs
        go_wp2
        go_ret
        exact ⟨rfl, S.old⟩


end Go.Proofs.YtnmnihlhcokjpaaGreatDoor

/- Via, Keeps, Supersedes, Of, the document's answers, the law's example. -/
namespace Go.Proofs.YtnmnihlhcokjpaaGreatDoor
set_option maxRecDepth 100000
open Go.ChangeShapes Go.WideShapes Go.ChangeAt Go.RowKit
set_option linter.unusedVariables false

theorem of_is (x : Vec) (tc ch ak : Bool) (ag ma he de : Int) (w : World) :
    Calls Tryz.prog 37 #[.agg #[.bool tc, .bool ch, .bool ak, .int .u64 x.r, .int .u32 x.c, .int .u64 x.b, .int .u16 x.p, .int .u16 ag, .int .u16 ma, .int .u16 he, .int .u16 de]] w
      fun e w' => e = .returned (.agg #[.int .u64 x.r, .int .u32 x.c, .int .u64 x.b, .int .u16 x.p]) ∧ Below w.heap.size w w' := by
  go_enter Tryz.func37, Tryz.ntmps37
  go_wp2
  exact bodyPost_ret (v := .agg #[.int .u64 x.r, .int .u32 x.c, .int .u64 x.b, .int .u16 x.p]) (by simp [results, Tryz.results37, go_sem]) rfl ⟨rfl, ((Below.refl _ _).alloc (Nat.le_refl _) _).alloc (by simp) _⟩

set_option maxHeartbeats 1000000 in
theorem sup_is (x y : Vec) (o : Int) (r : Bool) (hr : Hid (supB x y o = r)) (w : World) :
    Calls Tryz.prog 36 #[.agg #[.int .u64 x.r, .int .u32 x.c, .int .u64 x.b, .int .u16 x.p], .agg #[.int .u64 y.r, .int .u32 y.c, .int .u64 y.b, .int .u16 y.p], .int .u64 o] w fun e w' => e = .returned (.bool r) ∧ Below w.heap.size w w' := by
  obtain ⟨wb, hwb, hx, hy, B⟩ := boxes2 61 w x y
  have hxl := hx.lt
  have hyl := hy.lt
  have z := B.size
  have HW := fun W => Lib.hid (wp_is x y W)
  rcases wpI_cases x y with ⟨-, e⟩ | ⟨-, e⟩ | ⟨-, e⟩
  · rw [supB_lt e] at hr
    rw [e] at HW
    have hr := Lib.hid hr.out
    clear e
    obtain ⟨x0, x1, x2, x3⟩ := hx.cells
    obtain ⟨y0, y1, y2, y3⟩ := hy.cells
    go_enter Tryz.func36, Tryz.ntmps36
    go_wp2_with fail
    (with_reducible refine (HW _).out.mono ?_); rintro e w5 ⟨rfl, b5⟩
    clear HW
    go_wp2
    go_ret
    exact ⟨ret_bool (by first | rfl | exact hr.out), B.trans (b5.mono z)⟩
  · rw [supB_eq e] at hr
    rw [e] at HW
    clear e
    obtain ⟨x0, x1, x2, x3⟩ := hx.cells
    obtain ⟨y0, y1, y2, y3⟩ := hy.cells
    by_cases hb : x.b = o
    · have e := hr.out
      rw [decide_eq_true hb] at e
      have e := Lib.hid (show decide (x.p ≤ y.p) = r from e)
      clear hr
      subst hb
      go_enter Tryz.func36, Tryz.ntmps36
      go_wp2_with fail
      (with_reducible refine (HW _).out.mono ?_); rintro e w5 ⟨rfl, b5⟩
      clear HW
      obtain ⟨c0, c1, c2, c3⟩ := (hx.below b5 hxl).cells
      obtain ⟨d0, d1, d2, d3⟩ := (hy.below b5 hyl).cells
      go_wp2
      go_ret
      exact ⟨ret_bool (by first | rfl | exact e.out), B.trans (b5.mono z)⟩
    · have e := hr.out
      rw [decide_eq_false hb] at e
      have e := Lib.hid (show true = r from e)
      clear hr
      go_enter Tryz.func36, Tryz.ntmps36
      go_wp2_with fail
      (with_reducible refine (HW _).out.mono ?_); rintro e w5 ⟨rfl, b5⟩
      clear HW
      obtain ⟨c0, c1, c2, c3⟩ := (hx.below b5 hxl).cells
      obtain ⟨d0, d1, d2, d3⟩ := (hy.below b5 hyl).cells
      go_wp2
      go_ret
      exact ⟨ret_bool (by first | rfl | exact e.out), B.trans (b5.mono z)⟩
  · rw [supB_gt e] at hr
    rw [e] at HW
    have hr := Lib.hid hr.out
    clear e
    obtain ⟨x0, x1, x2, x3⟩ := hx.cells
    obtain ⟨y0, y1, y2, y3⟩ := hy.cells
    go_enter Tryz.func36, Tryz.ntmps36
    go_wp2_with fail
    (with_reducible refine (HW _).out.mono ?_); rintro e w5 ⟨rfl, b5⟩
    clear HW
    go_wp2
    go_ret
    exact ⟨ret_bool (by first | rfl | exact hr.out), B.trans (b5.mono z)⟩

end Go.Proofs.YtnmnihlhcokjpaaGreatDoor

/- with, and what its closures do to a port: contracts. -/
namespace Go.Proofs.YtnmnihlhcokjpaaGreatDoor
set_option maxRecDepth 100000
open Go.ChangeShapes Go.WideShapes Go.ChangeAt Go.RowKit
set_option linter.unusedVariables false
set_option linter.unusedSimpArgs false

/-- What a closure does to the port k of a row. -/
def ChEnd (gN : Nat) (cb : Array Value) (k : Nat) (y : Po) (L : List Po) (w : World) : Prop :=
  ∀ (l : List (Nat × TypeId × List Value)) (g : Nat) (W : World), TS w l (some ⟨g, 0, none⟩) L W →
    Calls Tryz.prog gN (#[.pointer (some ⟨g, k * 15, none⟩)] ++ cb) W (fun e W' => e = .returned (.tuple #[]) ∧ TS w l (some ⟨g, 0, none⟩) (L.set k y) W')

theorem tcn1_ok {L : List Po} {k : Nat} {x : Po} (hk : L[k]? = some x) (w : World) : ChEnd 34 #[] k { x with ak := true } L w := by
  intro l g W h
  have p7 := h.port_cell hk 7 rfl
  obtain ⟨_, e', _, _, hfz⟩ := h.at hk
  cases e'
  have f7 := hfz (k * 15 + 7)
  clear hfz
  have HT := Lib.hid (show TS w l (some ⟨g, 0, none⟩) (L.set k { x with ak := true }) (W.setCell ⟨g, k * 15 + 7, none⟩ (.bool true)) from h.put (y := { x with ak := true }) hk 7 [.bool true] (by simp) rfl)
  clear h hk
  go_enter Tryz.func34, Tryz.ntmps34
  go_wp2
  exact bodyPost_end (results_none rfl _ _ _) rfl ⟨rfl, HT.out⟩

set_option maxHeartbeats 2000000 in
theorem takes1_ok {L : List Po} {k : Nat} {p : Po} {x : Bq} (hk : L[k]? = some p) (hxb : BqIn x) (w : World) {bx : Nat} (hbx : Bk w bx 46 (lB x)) : ChEnd 75 #[.pointer (some ⟨bx, 0, none⟩)] k (heldP p x) L w := by
  intro l g W h
  have HOF := fun W => Lib.hid (show Calls Tryz.prog 37 #[.agg (lB x).toArray] W (fun e w' => e = .returned (.agg #[.int .u64 x.ro, .int .u32 x.co, .int .u64 x.br, .int .u16 x.po]) ∧ Below W.heap.size W w') from of_is (confV x) x.tc x.ch x.ak x.ag x.ma x.he x.de W)
  have hxB := hxb
  unfold BqIn BpIn at hxB
  have hwa : IntKind.i64.wrap x.ag = x.ag := by simp [IntKind.wrap, IntKind.bits, IntKind.signed]; omega
  have HST := fun W => Lib.hid (start_is x.ag (by omega) (by omega) W)
  have hst : startI x.ag = x.ag := by unfold startI; omega
  rw [hst] at HST
  have HWA := Lib.hid hwa
  have HK := Lib.hid hk
  have b0 := Lib.hid (hbx.below h.old hbx.lt)
  have hb0 : W.heap[bx]? = some (.cells (lB x).toArray 46 (0, 0)) := b0.out
  clear hwa hst hxB hxb hk hbx
  go_enter Tryz.func75, Tryz.ntmps75
  go_wp2_with (with_reducible refine wpList_load_row rfl 46 (.tmp 1) rfl bx (by kernel_rfl) _ _ (0, 0) _ hb0 Tryz.underlying46 rfl (by kernel_rfl) ?_)
  (with_reducible refine (HOF _).out.mono ?_); rintro e W1 ⟨rfl, b1⟩
  have T1 := h.below b1
  have B1 := Lib.hid ((show Bk W bx 46 (lB x) from b0.out).below b1 (Bk.lt b0.out))
  clear h hb0 b0 b1 HOF
  have p3 := T1.port_cell HK.out 3 rfl
  have p4 := T1.port_cell HK.out 4 rfl
  have p5 := T1.port_cell HK.out 5 rfl
  have p6 := T1.port_cell HK.out 6 rfl
  obtain ⟨_, e', _, _, hfz⟩ := T1.at HK.out
  cases e'
  have f3 := hfz (k * 15 + 3)
  have f4 := hfz (k * 15 + 4)
  have f5 := hfz (k * 15 + 5)
  have f6 := hfz (k * 15 + 6)
  clear hfz
  obtain ⟨pc, hpc⟩ := T1.port_block HK.out
  have B2 := Lib.hid (show Bk (((W1.setCell ⟨g, k * 15 + 3, none⟩ (.int .u64 x.ro)).setCell ⟨g, k * 15 + 4, none⟩ (.int .u32 x.co)).setCell ⟨g, k * 15 + 5, none⟩ (.int .u64 x.br) |>.setCell ⟨g, k * 15 + 6, none⟩ (.int .u16 x.po)) bx 46 (lB x) from by
    have hne : bx ≠ g := bk_ne B1.out hpc (by decide)
    exact (setCells_other [.int .u64 x.ro, .int .u32 x.co, .int .u64 x.br, .int .u16 x.po] (k * 15 + 3) W1 bx hne).trans B1.out)
  clear hpc
  go_upto_region 1 with fail
  have T2 : TS w l (some ⟨g, 0, none⟩) (L.set k { p with hr := x.ro, hc := x.co, hb := x.br, hp := x.po }) ((((W1.setCell ⟨g, k * 15 + 3, none⟩ (.int .u64 x.ro)).setCell ⟨g, k * 15 + 4, none⟩ (.int .u32 x.co)).setCell ⟨g, k * 15 + 5, none⟩ (.int .u64 x.br)).setCell ⟨g, k * 15 + 6, none⟩ (.int .u16 x.po)) := T1.put (y := { p with hr := x.ro, hc := x.co, hb := x.br, hp := x.po }) HK.out 3 [.int .u64 x.ro, .int .u32 x.co, .int .u64 x.br, .int .u16 x.po] (by simp) rfl
  generalize (((W1.setCell ⟨g, k * 15 + 3, none⟩ (.int .u64 x.ro)).setCell ⟨g, k * 15 + 4, none⟩ (.int .u32 x.co)).setCell ⟨g, k * 15 + 5, none⟩ (.int .u64 x.br)).setCell ⟨g, k * 15 + 6, none⟩ (.int .u16 x.po) = W2 at T2 B2 ⊢
  clear T1 B1 p3 p4 p5 p6 f3 f4 f5 f6
  have HK2 := Lib.hid (show (L.set k { p with hr := x.ro, hc := x.co, hb := x.br, hp := x.po })[k]? = some { p with hr := x.ro, hc := x.co, hb := x.br, hp := x.po } from List.getElem?_set_self (po_lt HK.out))
  have b7 : W2.cell? ⟨bx, 7, none⟩ = some (.int .u16 x.ag) := B2.out.cell 7
  have hwa := HWA.out
  go_wp2_with fail
  (with_reducible refine (HST _).out.mono ?_); rintro e W3 ⟨rfl, b3⟩
  have T3 := T2.below b3
  clear T2 b7 hwa b3 HST B2
  have p9 := T3.port_cell HK2.out 9 rfl
  have p10 := T3.port_cell HK2.out 10 rfl
  obtain ⟨_, e', _, _, hfz⟩ := T3.at HK2.out
  cases e'
  have f9 := hfz (k * 15 + 9)
  have f10 := hfz (k * 15 + 10)
  clear hfz
  have HT := Lib.hid (T3.put (y := heldP p x) HK2.out 9 [.bool true, .int .i64 x.ag] (by simp) rfl)
  go_wp2
  refine bodyPost_end (results_none rfl _ _ _) rfl ⟨rfl, ?_⟩
  have h := HT.out
  rw [List.set_set] at h
  exact h

set_option maxHeartbeats 2000000 in
theorem with_is (t : Th) (A : Option Addr) (n cap : Nat) (L : List Po) (k : Nat) (x y : Po) (hk : Hid (L[k]? = some x)) (gN : Nat) (cb : Array Value) (eg : ∀ args w, (callFunc gN args).run Tryz.prog w = .ok (.enter gN args) w) (hL : Hid (L.length = n)) (hf : n ≤ 200) (hc : Hid (A = none → cap = 0)) (w : World) (hch : Hid (ChEnd gN cb k y L w)) (hp : Hid (PoAt w A w.heap.size L)) :
    Calls Tryz.prog 33 #[.agg (lT t A n cap).toArray, .int .i64 k, .func (.func gN) #[] cb] w (TOut w t n (L.set k y)) := by
  have hkn : k < n := by have := po_lt hk.out; have := hL.out; omega
  have hki : (k : Int) < (n : Int) := by omega
  have hkz : ¬ (n : Int) ≤ (k : Int) := by omega
  obtain ⟨wb, hwb, S⟩ := hs_two w 31 31 (lT t A n cap) [.int .u64 0, .int .u64 0, .int .u32 0, .int .i64 0, .int .i64 0, .int .i64 0, .int .i64 0, .int .i64 0, .int .i64 0, .int .i64 0, .bool false, .bool false, .bool false, .int .i64 0, .bool false, .int .i64 0, .bool false, .int .i64 0, .slice none 0 0]
  go_enter Tryz.func33, Tryz.ntmps33
  go_upto_region 1 with fail
  clear hwb
  obtain ⟨X, hX⟩ : ∃ q, w.heap.size = q := ⟨_, rfl⟩
  rw [hX] at S
  obtain ⟨Y, hY⟩ : ∃ q, X + 1 = q := ⟨_, rfl⟩
  rw [hY] at S
  rw [hX]
  rw [hY]
  clear hX hY
  have HC := Lib.hid (tcopy_is t A n cap L hL hf hc wb (Lib.hid ((hp.out.below S.old (Nat.le_refl _)).wide S.old.size)))
  have hx := S.bk 1 rfl
  go_wp2_with (with_reducible refine wpList_load_row rfl 31 (.tmp 3) rfl X (by kernel_rfl) _ _ (0, 0) _ hx Tryz.underlying31 rfl (by kernel_rfl) ?_)
  (with_reducible refine HC.out.mono ?_); rintro e w1 ⟨D, cap', rfl, hz, k1⟩
  have S1 := TS.take S k1
  have HZ := Lib.hid hz
  clear S hx HC k1 hz
  have hx := S1.hs.bk 1 rfl
  go_upto_region 2 with (refine wpList_store_row rfl 31 _ _ rfl X _ rfl rfl _ _ hx (by kernel_rfl) (by kernel_rfl) (by kernel_rfl) ?_)
  have S2 : TS w [(Y, 31, [.int .u64 0, .int .u64 0, .int .u32 0, .int .i64 0, .int .i64 0, .int .i64 0, .int .i64 0, .int .i64 0, .int .i64 0, .int .i64 0, .bool false, .bool false, .bool false, .int .i64 0, .bool false, .int .i64 0, .bool false, .int .i64 0, .slice none 0 0]), (X, 31, lT t D n cap')] D L _ := S1.row 1 rfl (lT t D n cap')
  generalize w1.setRow X (lT t D n cap').toArray = w2 at S2 ⊢
  clear S1 hx
  obtain ⟨g, rfl, -⟩ := S2.at hk.out
  have c18 := S2.hs.cell 1 18 rfl rfl
  have HCH := Lib.hid (hch.out _ _ _ S2)
  go_wp2_with fail
  (with_reducible refine HCH.out.mono ?_); rintro e w3 ⟨rfl, S3⟩
  clear S2 c18 HCH
  have hx := S3.hs.bk 1 rfl
  have hy := S3.hs.bk 0 rfl
  go_wp2_with (first | (with_reducible refine wpList_load_row rfl 31 (.tmp 3) rfl X (by kernel_rfl) _ _ (0, 0) _ hx Tryz.underlying31 rfl (by kernel_rfl) ?_) | (refine wpList_store_row rfl 31 _ _ rfl Y _ rfl rfl _ _ hy (by kernel_rfl) (by kernel_rfl) (by kernel_rfl) ?_))
  exact bodyPost_ret (v := .agg (lT t (some ⟨g, 0, none⟩) n cap').toArray) (results_cell_row rfl _ _ Y _ _ _ _ rfl (setRow_heap _ _ _ _ _ _ hy) Tryz.underlying31 rfl (by kernel_rfl)) rfl ⟨_, cap', rfl, HZ.out, (S3.row 0 rfl (lT t (some ⟨g, 0, none⟩) n cap')).nobox⟩

end Go.Proofs.YtnmnihlhcokjpaaGreatDoor
