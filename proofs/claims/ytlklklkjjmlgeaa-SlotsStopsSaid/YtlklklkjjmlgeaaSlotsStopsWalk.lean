/- The law SlotsStops, walked. -/
import Derived.Test.YtlklklkjjmlgeaaSlotsAllI
import Derived.Test.YtlklklkjjmlgeaaSlotsAgainWalk
import Derived.Deep.RegionHeld3
import Derived.Lib.MinMax
import Derived.IntWalk
namespace Go.Proofs.Ytlklklkjjmlgeaa
open Go.ChangeShapes Go.WideShapes Go.ChangeAt Go.RowKit
set_option linter.unusedVariables false

/-- What lies there while one goes through: the limit, how many have come, the table; nothing older has turned. -/
structure StopC (w : World) (stp : Int) (bs bn G : Nat) (c : List (Int × Int)) (m : Nat) (W : World) : Prop where
  lim : W.cell? ⟨bs, 0, none⟩ = some (.int .u8 stp)
  cnt : Bk W bn 3 [.int .i64 m]
  tab : HTI W (G + 1) G 64 c
  old : Below w.heap.size w W
  low : w.heap.size ≤ bs ∧ bs < W.heap.size ∧ w.heap.size ≤ bn ∧ bn ≠ bs ∧ bn ≠ G ∧ bn ≠ G + 1

theorem StopC.below {w W W' : World} {stp : Int} {bs bn G m : Nat} {c : List (Int × Int)} (h : StopC w stp bs bn G c m W) (hb : Below W.heap.size W W') : StopC w stp bs bn G c m W' :=
  ⟨(hb.cell (p := ⟨bs, 0, none⟩) h.low.2.1).trans h.lim, h.cnt.below hb h.cnt.lt, h.tab.below hb, h.old.trans (hb.mono h.old.size), h.low.1, Nat.lt_of_lt_of_le h.low.2.1 hb.size, h.low.2.2⟩

theorem StopC.step {w W : World} {stp : Int} {bs bn G m : Nat} {c : List (Int × Int)} (h : StopC w stp bs bn G c m W) (x : Int) (hx : x = ((m + 1 : Nat) : Int)) : StopC w stp bs bn G c (m + 1) (W.setCell ⟨bn, 0, none⟩ (.int .i64 x)) := by
  subst hx
  have hbn := h.cnt.lt
  obtain ⟨l1, l2, l3, l4, l5, l6⟩ := h.low
  refine ⟨?_, h.cnt.set 0 _, ?_, h.old.setCell l3 _, l1, by simp [World.setCell]; exact l2, l3, l4, l5, l6⟩
  · rw [World.cell?_setCell_other _ _ _ _ (fun e => l4 (by cases e; rfl))]
    exact h.lim
  · refine h.tab.keep fun b hb => Below.heap_setCell W _ _ b ?_
    show b ≠ bn
    rcases hb with rfl | rfl <;> omega

theorem stops1 {w W : World} {stp : Int} {bs bn G m : Nat} {c : List (Int × Int)} (h : StopC w stp bs bn G c m W) (hm : m ≤ 64) (s0 : 0 ≤ stp) (s1 : stp ≤ 255) (a : Int) (v : Int) (b : Bool) (hb : decide (((m + 1 : Nat) : Int) < stp) = b) :
    Calls Try.prog 26 #[.int .u64 a, .int .i64 v, .pointer (some ⟨bn, 0, none⟩), .pointer (some ⟨bs, 0, none⟩)] W fun e W' => e = .returned (.bool b) ∧ StopC w stp bs bn G c (m + 1) W' ∧ But bn W W' := by
  have hc := h.cnt.cell 0
  have hz := h.cnt.thaw 0
  have hl := h.lim
  have hne := h.low.2.2.2.1
  have hl2 : (W.setCell ⟨bn, 0, none⟩ (.int .i64 ((m : Int) + 1))).cell? ⟨bs, 0, none⟩ = some (.int .u8 stp) := by
    rw [World.cell?_setCell_other _ _ _ _ (fun e => hne (by cases e; rfl))]
    exact hl
  have hc' : W.cell? ⟨bn, 0, none⟩ = some (.int .i64 m) := hc
  have HC := Lib.hid (h.step ((m : Int) + 1) (by omega))
  have HB : Hid (decide ((m : Int) + 1 < stp) = b) := by rw [Hid, ← hb]; congr 1
  clear h hc hb
  go_enter Try.func26, Try.ntmps26
  go_wp2
  go_ret
  exact ⟨ret_bool HB.out, HC.out, (But.refl _ _).set 0 _⟩

/-- How many have come in the end. -/
def StopE (w : World) (stp : Int) (bs bn G : Nat) (c : List (Int × Int)) (W : World) : Prop := ∃ m : Nat, StopC w stp bs bn G c m W ∧ min (c.length : Int) (max stp 1) = m

theorem stop_end {w W : World} {stp : Int} {bs bn G : Nat} {c : List (Int × Int)} (s0 : 0 ≤ stp)
    (h : GoneI c (fun pre W => StopC w stp bs bn G c pre.length W ∧ (pre.length = 0 ∨ (pre.length : Int) < stp)) (fun pre W => StopC w stp bs bn G c pre.length W ∧ stp ≤ pre.length ∧ (pre.length = 1 ∨ (pre.length : Int) - 1 < stp)) W) :
    StopE w stp bs bn G c W := by
  obtain ⟨S, hS, h⟩ := h
  have hl := hS.1.length_eq
  rcases h with ⟨h1, h2⟩ | ⟨pre, x, post, e, h1, h2, h3⟩
  · refine ⟨S.length, h1, ?_⟩
    omega
  · refine ⟨(pre ++ [x]).length, h1, ?_⟩
    have hlen : (pre ++ [x]).length = pre.length + 1 := by simp
    rw [e, List.length_append, List.length_cons] at hl
    rw [hlen] at h2 h3 ⊢
    omega

set_option maxRecDepth 100000 in
set_option maxHeartbeats 8000000 in
theorem SlotsStops_walk (a0 : Option Addr) (len0 cap0 : Nat) (z0 : List Int) (a1 : Int) (w : World) (w0 : IsRow .u64 w a0 len0 cap0 z0) (w1 : (Lit.int .u8 a1).wf = true) :
    Calls Try.prog 6 #[.slice a0 len0 cap0, .int .u8 a1] w fun e w' => e = .returned (.bool true) ∧ Below w.heap.size w w' := by
  obtain ⟨p0, p1⟩ := bounds_u8 w1
  obtain ⟨U, hU, hm, hN⟩ := nums_in w0
  have HU := Lib.hid hU
  have HN := Lib.hid hN
  clear w0 w1 hU hN
  have bb := new_below w (.cells #[.int .u8 a1] 5)
  have hbz : (w.alloc (.cells #[.int .u8 a1] 5)).heap.size = w.heap.size + 1 := by simp
  have hbc : (w.alloc (.cells #[.int .u8 a1] 5)).cell? ⟨w.heap.size, 0, none⟩ = some (.int .u8 a1) := by simp
  obtain ⟨wb, hwb⟩ : ∃ wb, w.alloc (.cells #[.int .u8 a1] 5) = wb := ⟨_, rfl⟩
  rw [hwb] at bb hbz hbc
  have HBZ := Lib.hid hbz
  have HBC := Lib.hid hbc
  have HWB := Lib.hid hwb
  clear hbz hbc hwb
  by_cases hc : 400 < len0
  · go_enter Try.func6, Try.ntmps6
    go_wp2_with fail
    (with_reducible refine (awake_is _).mono ?_); rintro e w1 ⟨rfl, b1⟩
    go_wp2_with fail
    (with_reducible refine (awake_is _).mono ?_); rintro e w2 ⟨rfl, b2⟩
    go_wp2
    go_ret
    rw [HWB.out] at b1
    have b3 := b1.trans (b2.mono b1.size)
    exact ⟨rfl, bb.trans (b3.mono bb.size)⟩
  · have hc' : len0 ≤ 400 := by omega
    go_enter Try.func6, Try.ntmps6
    go_wp2_with fail
    rw [HWB.out]
    (with_reducible refine (awake_is _).mono ?_); rintro e w1 ⟨rfl, b1⟩
    go_wp2_with fail
    (with_reducible refine (newI_api 64 64 (by decide) _).mono ?_); rintro e w2 ⟨rfl, t2, b2⟩
    have hs1 := b1.size
    obtain ⟨G, hG⟩ : ∃ G, w1.heap.size = G := ⟨_, rfl⟩
    rw [hG] at t2 b2 hs1 ⊢
    have T2 := Lib.hid t2
    have B2 : Below wb.heap.size wb w2 := b1.trans (b2.mono hs1)
    clear t2 b2 hG b1
    go_wp2
    go_loopw [6] (fun i wr => ∃ (k : Nat) (c : List (Int × Int)), k ≤ len0 ∧ i = .int .i64 k ∧ Hid (HTI wr (G + 1) G 64 c) ∧ Below wb.heap.size wb wr) (fun i _ => len0 - (intOf i).toNat)
    case atStart => exact ⟨0, _, Nat.zero_le _, rfl, T2, B2⟩
    case round =>
      clear B2 T2
      obtain ⟨k, c, hk, rfl, T, B⟩ := hrel
      by_cases hkn : k < len0
      · obtain ⟨u, hu⟩ := get_of_lt (l := U) (i := k) (by rw [HU.out]; exact hkn)
        obtain ⟨ad, rfl, hab, hcell, hu0, hu1⟩ := ((HN.out.below bb).below (B.mono bb.size)) k u hu
        clear hu
        have hki : (k : Int) < (len0 : Int) := by omega
        go_wp2_with fail
        (with_reducible refine (putI_api T.out u hu0 hu1 k _ rfl).mono ?_); rintro e w6 ⟨rfl, t6, b6⟩
        have T6 := Lib.hid t6
        have B6 := But.below B b6 B.size hs1
        clear t6 b6 B
        go_wp2
        go_roundw
        case rel => exact ⟨k + 1, _, by omega, by go_num, T6, B6⟩
        case measure => simp [intOf]; omega
      · rename World => wr
        have BW : Below w.heap.size w wr := bb.trans (B.mono bb.size)
        have hszw := B.size
        have htl := T.out.lt
        have hz1 := HBZ.out
        -- the count's box, and the iterator's
        have C0 : StopC w a1 w.heap.size wr.heap.size G c 0 (wr.alloc (.cells #[.int .i64 0] 3)) := by
          have nb := new_below wr (.cells #[.int .i64 0] 3)
          refine ⟨?_, ?_, T.out.below nb, BW.trans (nb.mono BW.size), Nat.le_refl _, by simp; omega, by omega, by omega, by omega, by omega⟩
          · rw [nb.cell (p := ⟨w.heap.size, 0, none⟩) (by show w.heap.size < _; omega), B.cell (p := ⟨w.heap.size, 0, none⟩) (by show w.heap.size < _; omega)]
            exact HBC.out
          · exact heap_alloc_new wr _
        have C1 := C0.below (new_below _ (.cells #[.pointer (some ⟨G + 1, 0, none⟩)] 25))
        have HC1 := Lib.hid C1
        have hle := C1.tab.le
        have HT := Lib.hid (throughI 26 #[.pointer (some ⟨wr.heap.size, 0, none⟩), .pointer (some ⟨w.heap.size, 0, none⟩)] _ (G + 1) G 64 c C1.tab (wr.heap.size + 1) (by simp)
          (fun pre W => StopC w a1 w.heap.size wr.heap.size G c pre.length W ∧ (pre.length = 0 ∨ (pre.length : Int) < a1)) (fun pre W => StopC w a1 w.heap.size wr.heap.size G c pre.length W ∧ a1 ≤ pre.length ∧ (pre.length = 1 ∨ (pre.length : Int) - 1 < a1))
          (fun pre W W' hj hb => ⟨hj.1.below hb, hj.2⟩) ⟨C1, .inl rfl⟩ (enters_of Try.func26 (by kernel_rfl) rfl)
          (fun pre a v post W hS ha0 ha1 hsz hj => by
            have hpl := hS.1.length_eq
            simp at hpl
            refine (stops1 hj.1 (by omega) p0 p1 a v _ rfl).mono fun e W' ⟨he, hc2, hbut⟩ => ⟨⟨hbut.size, fun b hb1 hb2 => hbut.block hb2 (by simp at hb1; omega)⟩, ?_⟩
            have hlen : (pre ++ [(a, v)]).length = pre.length + 1 := by simp
            by_cases hlt : ((pre.length + 1 : Nat) : Int) < a1
            · exact .inl ⟨by rw [he, decide_eq_true hlt], by rw [hlen]; exact hc2, by rw [hlen]; exact .inr hlt⟩
            · refine .inr ⟨by rw [he, decide_eq_false hlt], by rw [hlen]; exact hc2, by rw [hlen]; omega, ?_⟩
              rw [hlen]
              rcases hj.2 with h0 | h0
              · exact .inl (by omega)
              · exact .inr (by omega)))
        clear C0 C1 hle htl
        go_wp2_with fail
        (with_reducible refine (allI_is _ _).mono ?_); rintro e w6 ⟨rfl, rfl⟩
        go_wp2_with fail
        (with_reducible refine HT.out.mono ?_); rintro e w7 ⟨rfl, hg⟩
        obtain ⟨m, hc7, hmin⟩ := stop_end p0 hg
        have hcn := hc7.cnt.cell 0
        have hcn' : w7.cell? ⟨wr.heap.size, 0, none⟩ = some (.int .i64 m) := hcn
        have hcl := hc7.lim
        have T7 := Lib.hid hc7.tab
        have HO := Lib.hid hc7.old
        have HM := Lib.hid hmin
        have hl1 := hc7.low.2.1
        have hl2 := hc7.cnt.lt
        clear hg hc7 hcn hmin HT HC1
        have hmm := HM.out
        have hw1 : IntKind.i64.wrap a1 = a1 := IntWalk.i64_in _ (by omega)
        go_wp2
        go_region_held3 (fun w' => w'.cell? ⟨wr.heap.size, 0, none⟩ = some (.int .i64 m) ∧ w'.cell? ⟨w.heap.size, 0, none⟩ = some (.int .u8 a1)) (first | exact ⟨hcn', hcl⟩ | exact ⟨(hb8.cell (p := ⟨wr.heap.size, 0, none⟩) hl2).trans hcn', (hb8.cell (p := ⟨w.heap.size, 0, none⟩) hl1).trans hcl⟩ | assumption) (first
          | (go_at_call 17; (with_reducible refine (lenI_api T7.out.drew).mono ?_); rintro e w8 ⟨rfl, hb8⟩))
        all_goals go_wp2
        all_goals go_ret
        all_goals exact ⟨rfl, HO.out.drew.trans (hb8.mono HO.out.size)⟩

end Go.Proofs.Ytlklklkjjmlgeaa
