/- passes and Drop of a table. -/
import Derived.Test.YtlklklkjjmlgeaaSlotsNumI
import Derived.StillTailTactics
import Derived.Deep.QuietTactic
import Derived.BigQuiet
import Derived.RegionTactic
import Derived.BigRegion
import Derived.Outline
namespace Go.Proofs.Ytlklklkjjmlgeaa
open Go.ChangeShapes Go.WideShapes Go.ChangeAt Go.RowKit
set_option linter.unusedVariables false

theorem way_quiet (x y n : Nat) (hx : x < n) (hy : y < n) (hn : n ≤ 64) (w : World) :
    Calls Try.prog 36 #[.int .i64 x, .int .i64 y, .int .i64 n] w fun e w' => e = .returned (.int .i64 (wayN n x y)) ∧ w' = w :=
  (way_is x y n hx hy hn w).mono fun _ _ ⟨he, hw⟩ => ⟨he, hw.symm⟩

theorem below_drewN {B : Nat} {a w : World} (h : Below B a w) (n : Nat) : Below B a (w.drewN n) := ⟨h.os, h.tape, h.output, h.size, h.block⟩

set_option maxRecDepth 100000 in
set_option maxHeartbeats 1000000 in
theorem passes_is (w : World) (h g : Nat) (l : List (Pl Int)) (t : TBI w h g l) (i j : Nat) (hi : i < l.length) (hj : j < l.length) (p : Pl Int) (hp : l[i]? = some p) (hw0 : 0 ≤ p.addr) (hw1 : p.addr ≤ 18446744073709551615) :
    Calls Try.prog 29 #[.pointer (some ⟨h, 0, none⟩), .int .i64 i, .int .i64 j] w fun e w' =>
      e = .returned (.bool (decide (wayN l.length (hs l.length p.addr) j < wayN l.length (hs l.length p.addr) i))) ∧ Below w.heap.size w w' := by
  obtain ⟨n, hn⟩ : ∃ n, l.length = n := ⟨_, rfl⟩
  have n64 : n ≤ 64 := by have := t.2.2.2; omega
  have c0 := TB.cell0 t
  obtain ⟨e0, e1, e2⟩ := t.cells hp
  rw [hn] at c0 hi hj ⊢
  have hii : (i : Int) < (n : Int) := by omega
  have hjj : (j : Int) < (n : Int) := by omega
  have HT := Lib.hid t
  have HN := Lib.hid hn
  obtain ⟨pf, a, pv⟩ := p
  dsimp only at e0 e1 e2 hw0 hw1 ⊢
  have hf := hs_lt n (by omega) a
  have HS := fun W => Lib.hid (slot_is a n hw0 hw1 (by omega) n64 W)
  obtain ⟨f, hfe⟩ : ∃ f, hs n a = f := ⟨_, rfl⟩
  rw [hfe] at HS hf
  rw [hfe]
  have HP := Lib.hid hp
  clear t hp hn hfe
  go_enter Try.func29, Try.ntmps29
  go_wp2
  go_still_tail 13, (by kernel_rfl)
  change wpList _ _ _ _ _ w.drew
  have hd : Below w.heap.size w w.drew := (Below.refl _ _).drew
  generalize w.drew = w2 at hd ⊢
  have t2 := HT.out.below hd
  have c2 := TB.cell0 t2
  rw [HN.out] at c2
  obtain ⟨_, d1, _⟩ := t2.cells HP.out
  dsimp only at d1
  clear t2 c0 e0 e1 e2
  go_wp2_with fail
  (with_reducible refine (HS _).out.mono ?_); rintro e w3 ⟨rfl, hb⟩
  have hb3 : Below w.heap.size w w3 := hd.trans (hb.mono hd.size)
  have t3 := HT.out.below hb3
  have c3 := TB.cell0 t3
  rw [HN.out] at c3
  clear t3 c2 d1 HS
  go_wp2_with fail
  go_quiet ((go_at_call 36; exact Calls.quiet_of_same (way_quiet _ _ n (by omega) (by omega) n64 _)))
  go_wp2
  go_ret
  exact ⟨rfl, below_drewN hb3 _⟩


set_option maxHeartbeats 1000000 in
theorem drop_no (w : World) (h g : Nat) (l : List (Pl Int)) (t : TBI w h g l) (a : Int) (ha0 : 0 ≤ a) (ha1 : a ≤ 18446744073709551615) (p : Int) (HL : Hid (lookFrom l a l.length (hs l.length a) = (p, false))) :
    Calls Try.prog 10 #[.pointer (some ⟨h, 0, none⟩), .int .u64 a] w fun e w' => e = .returned (.bool false) ∧ Below w.heap.size w w' := by
  have HF := Lib.hid (findI_is w h g l t a ha0 ha1 p false HL)
  clear t
  go_enter Try.func10, Try.ntmps10
  go_wp2_with fail
  (with_reducible refine HF.out.mono ?_); rintro e w1 ⟨rfl, hb⟩
  clear HF
  go_wp2
  go_ret
  exact ⟨rfl, hb⟩

/-- Numbers that may be addresses. -/
def WfL (l : List (Pl Int)) : Prop := ∀ p ∈ l, 0 ≤ p.addr ∧ p.addr ≤ 18446744073709551615

theorem wfl_set {l : List (Pl Int)} (h : WfL l) (x : Pl Int) (hx : 0 ≤ x.addr ∧ x.addr ≤ 18446744073709551615) (q : Nat) : WfL (l.set q x) := fun p hp => by
  rcases mem_set hp with e | e
  · rw [e]; exact hx
  · exact h p e

/-- Whether what is at place i passes the hole. -/
def passB (n : Nat) (a : Int) (i hole : Nat) : Bool := decide (wayN n (hs n a) hole < wayN n (hs n a) i)

theorem passes_b (w : World) (h g : Nat) (l : List (Pl Int)) (t : TBI w h g l) (n : Nat) (hn : l.length = n) (i j : Nat) (hi : i < n) (hj : j < n) (p : Pl Int) (hp : l[i]? = some p) (hw0 : 0 ≤ p.addr) (hw1 : p.addr ≤ 18446744073709551615) (b : Bool)
    (hb : passB n p.addr i j = b) : Calls Try.prog 29 #[.pointer (some ⟨h, 0, none⟩), .int .i64 i, .int .i64 j] w fun e w' => e = .returned (.bool b) ∧ Below w.heap.size w w' := by
  subst hn
  rw [← hb]
  exact passes_is w h g l t i j hi hj p hp hw0 hw1

theorem moved {w w3 : World} {h g n o j : Nat} {lc : List (Pl Int)} (t : TBI w3 h g lc) (b : But g w w3) (hl : lc.length = n) (ho : o < n) (hj : j < n) (xa : Int) (xv : Int) :
    TBI ((((((w3.setCell ⟨g, o * 3, none⟩ (.bool true)).setCell ⟨g, o * 3 + 1, none⟩ (.int .u64 xa)).setCell ⟨g, o * 3 + 2, none⟩ (.int .i64 xv)).setCell ⟨g, j * 3, none⟩ (.bool false)).setCell ⟨g, j * 3 + 1, none⟩ (.int .u64 0)).setCell ⟨g, j * 3 + 2, none⟩ (.int .i64 0)).drew h g ((lc.set o ⟨true, xa, xv⟩).set j noPl) ∧
    But g w ((((((w3.setCell ⟨g, o * 3, none⟩ (.bool true)).setCell ⟨g, o * 3 + 1, none⟩ (.int .u64 xa)).setCell ⟨g, o * 3 + 2, none⟩ (.int .i64 xv)).setCell ⟨g, j * 3, none⟩ (.bool false)).setCell ⟨g, j * 3 + 1, none⟩ (.int .u64 0)).setCell ⟨g, j * 3 + 2, none⟩ (.int .i64 0)).drew := by
  have T1 := TB.set encI_len t (i := o) (by omega) (p := ⟨true, xa, xv⟩) rfl
  have T2 := TB.set encI_len T1 (i := j) (by rw [List.length_set]; omega) (p := noPl) rfl
  have B1 := ((b.set (o * 3) (.bool true)).set (o * 3 + 1) (.int .u64 xa)).set (o * 3 + 2) (.int .i64 xv)
  have B2 := ((B1.set (j * 3) (.bool false)).set (j * 3 + 1) (.int .u64 0)).set (j * 3 + 2) (.int .i64 0)
  exact ⟨TB.drew T2, But.drew B2⟩

theorem moved_len {n o j : Nat} {lc : List (Pl Int)} {x : Pl Int} (hl : lc.length = n) : Hid (((lc.set o x).set j noPl).length = n) := by
  rw [Hid, List.length_set, List.length_set, hl]

theorem moved_hole {n o j : Nat} {lc : List (Pl Int)} {x : Pl Int} (hl : lc.length = n) (hj : j < n) : Hid (((lc.set o x).set j noPl)[j]? = some noPl) := by
  rw [Hid]; simp [hl, hj]

theorem moved_wf {o j : Nat} {lc : List (Pl Int)} {x : Pl Int} (hw : WfL lc) (hx : 0 ≤ x.addr ∧ x.addr ≤ 18446744073709551615) : Hid (WfL ((lc.set o x).set j noPl)) :=
  wfl_set (wfl_set hw _ hx o) _ ⟨Int.le_refl _, (by decide : (0 : Int) ≤ 18446744073709551615)⟩ j

set_option maxRecDepth 100000 in
set_option maxHeartbeats 4000000 in
theorem drop_yes (w : World) (h g : Nat) (l : List (Pl Int)) (t : TBI w h g l) (a : Int) (ha0 : 0 ≤ a) (ha1 : a ≤ 18446744073709551615) (q : Nat) (HL : Hid (lookFrom l a l.length (hs l.length a) = ((q : Int), true))) (hq : q < l.length) (hwf : WfL l)
    (R : List (Pl Int)) (HR : Hid (dropFrom (hs l.length) l.length (l.set q noPl) q q = R)) :
    Calls Try.prog 10 #[.pointer (some ⟨h, 0, none⟩), .int .u64 a] w fun e w' => e = .returned (.bool true) ∧ TBI w' h g R ∧ But g w w' := by
  have HF := Lib.hid (findI_is w h g l t a ha0 ha1 q true HL)
  obtain ⟨n, hn⟩ : ∃ n, l.length = n := ⟨_, rfl⟩
  have n64 : n ≤ 64 := by have := t.2.2.2; omega
  have hgl := t.lt.2
  have HT := Lib.hid t
  have HN := Lib.hid hn
  rw [hn] at HR hq
  have hqi : (q : Int) < (n : Int) := by omega
  clear t hn HL
  go_enter Try.func10, Try.ntmps10
  go_wp2_with fail
  (with_reducible refine HF.out.mono ?_); rintro e w1 ⟨rfl, hb⟩
  clear HF
  have t1 := HT.out.below hb
  have c0 := TB.cell0 t1
  rw [HN.out] at c0
  obtain ⟨x, hx⟩ := get_of_lt (l := l) (i := q) (by rw [HN.out]; exact hq)
  obtain ⟨e0, e1, e2⟩ := t1.cells hx
  have f0 := TB.thaw t1 (q * 3)
  have f1 := TB.thaw t1 (q * 3 + 1)
  have f2 := TB.thaw t1 (q * 3 + 2)
  have HT2 := Lib.hid (TB.set encI_len t1 (i := q) (by rw [HN.out]; exact hq) (p := noPl) rfl)
  have HB2 := Lib.hid ((((But.of_below hb).set (g := g) (q * 3) (.bool false)).set (q * 3 + 1) (.int .u64 0)).set (q * 3 + 2) (.int .i64 0))
  have c1 : ((((w1.setCell ⟨g, q * 3, none⟩ (.bool false)).setCell ⟨g, q * 3 + 1, none⟩ (.int .u64 0)).setCell ⟨g, q * 3 + 2, none⟩ (.int .i64 0))).cell? ⟨h, 0, none⟩ = some (.slice (some ⟨g, 0, none⟩) n n) := by
    have := TB.cell0 HT2.out
    rw [List.length_set, HN.out] at this
    exact this
  clear t1 hx
  go_wp2
  go_loopw [5, 7, 29] (fun x y i wr => ∃ (k s o : Nat) (lc : List (Pl Int)), k ≤ n ∧ i = .int .i64 k ∧ y = .int .i64 s ∧ x = .int .i64 o ∧ s < n ∧ o < n ∧ Hid (lc.length = n) ∧ Hid (lc[o]? = some noPl) ∧ Hid (WfL lc) ∧ TBI wr h g lc ∧ But g w wr ∧ Hid (dropFrom (hs n) (n - k) lc s o = R)) (fun _ _ i _ => n - (intOf i).toNat)
  case atStart => exact ⟨0, q, q, l.set q noPl, Nat.zero_le _, rfl, rfl, rfl, hq, hq, by rw [Hid, List.length_set, HN.out], by rw [Hid]; simp [HN.out, hq], wfl_set hwf noPl ⟨Int.le_refl _, (by decide : (0 : Int) ≤ 18446744073709551615)⟩ q, HT2.out, HB2.out, HR⟩
  case round =>
    obtain ⟨k, s, o, lc, hk, rfl, rfl, rfl, hs1, ho, HLN, HO, HW, t, hB, HD⟩ := hrel
    clear HR c1 HB2 HT2 e0 e1 e2 f0 f1 f2 c0 HT
    have c0 := TB.cell0 t
    rw [HLN.out] at c0
    by_cases hkn : k < n
    · obtain ⟨j, hj⟩ : ∃ j, nx n s = j := ⟨_, rfl⟩
      have hjn : j < n := by rw [← hj]; exact nx_lt hs1
      have HJ := Lib.hid hj
      have hnext : ∀ W, Hid (Calls Try.prog 28 #[.int .i64 s, .int .i64 n] W fun e w' => e = .returned (.int .i64 j) ∧ W = w') := fun W => by rw [← hj]; exact next_is s n (by omega) (by omega) W
      obtain ⟨x, hx⟩ := get_of_lt (l := lc) (i := j) (by rw [HLN.out]; exact hjn)
      obtain ⟨e0, e1, e2⟩ := t.cells hx
      have hst : dropFrom (hs n) (n - k) lc s o = if x.full = false then lc else if wayN n (hs n x.addr) o < wayN n (hs n x.addr) j then dropFrom (hs n) (n - (k + 1)) ((lc.set o x).set j noPl) j j else dropFrom (hs n) (n - (k + 1)) lc j o := by
        have : n - k = (n - (k + 1)) + 1 := by omega
        rw [this, dropFrom, HLN.out, hj, hx]
      have hwx := HW.out _ (List.mem_of_getElem? hx)
      have HX := Lib.hid hx
      have HT := Lib.hid t
      clear hj hx t
      obtain ⟨xf, xa, xv⟩ := x
      dsimp only at e0 e1 e2 hst hwx
      have hkk : (k : Int) < (n : Int) := by omega
      cases xf with
      | false =>
        have hr : lc = R := by rw [← HD.out, hst]; rfl
        have HR := Lib.hid hr
        clear hst hr
        go_wp2_with fail
        (with_reducible refine (hnext _).out.mono ?_); rintro e w' ⟨rfl, rfl⟩
        go_wp2
        go_ret
        exact ⟨rfl, by rw [← HR.out]; exact HT.out, hB⟩
      | true =>
        by_cases hp : wayN n (hs n xa) o < wayN n (hs n xa) j
        · have hr : dropFrom (hs n) (n - (k + 1)) ((lc.set o ⟨true, xa, xv⟩).set j noPl) j j = R := by rw [← HD.out, hst, if_neg (by decide), if_pos hp]
          have HR := Lib.hid hr
          have hps := fun W (tW : TBI W h g lc) => Lib.hid (passes_b W h g lc tW n HLN.out j o hjn ho _ HX.out hwx.1 hwx.2 true (by unfold passB; exact decide_eq_true hp))
          clear hst hr hp
          go_wp2_with fail
          (with_reducible refine (hnext _).out.mono ?_); rintro e w' ⟨rfl, rfl⟩
          go_wp2_with fail
          (with_reducible refine (hps _ HT.out).out.mono ?_); rintro e w3 ⟨rfl, hb3⟩
          have t3 := HT.out.below hb3
          have c3 := TB.cell0 t3
          rw [HLN.out] at c3
          obtain ⟨g0, g1, g2⟩ := t3.cells HX.out
          obtain ⟨o0, o1, o2⟩ := t3.cells HO.out
          dsimp only [noPl] at g0 g1 g2 o0 o1 o2
          have hne : j ≠ o := fun e => by
            have h1 := HX.out
            have h2 := HO.out
            rw [e, h2] at h1
            have := congrArg Pl.full (Option.some.inj h1)
            simp [noPl] at this
          have fz := fun i => TB.thaw t3 i
          have f0 := fz (j * 3)
          have f1 := fz (j * 3 + 1)
          have f2 := fz (j * 3 + 2)
          have f3 := fz (o * 3)
          have f4 := fz (o * 3 + 1)
          have f5 := fz (o * 3 + 2)
          have hjn' : (j : Int) < (n : Int) := by omega
          have hon' : (o : Int) < (n : Int) := by omega
          have HT3 := Lib.hid t3
          have hB3 := Lib.hid (hB.trans (But.of_below hb3))
          clear t3 fz e0 e1 e2 c0 hps hb3 hB
          go_wp2
          go_region
          go_wp2
          go_roundw
          case rel =>
            obtain ⟨T2, B2⟩ := moved HT3.out hB3.out HLN.out ho hjn xa xv
            exact ⟨k + 1, j, j, (lc.set o ⟨true, xa, xv⟩).set j noPl, by omega, by go_num, rfl, rfl, hjn, hjn, moved_len HLN.out, moved_hole HLN.out hjn, moved_wf HW.out hwx, T2, B2, HR⟩
          case measure => simp [intOf]; omega
        · have hr : dropFrom (hs n) (n - (k + 1)) lc j o = R := by rw [← HD.out, hst, if_neg (by decide), if_neg hp]
          have HR := Lib.hid hr
          have hps := fun W (tW : TBI W h g lc) => Lib.hid (passes_b W h g lc tW n HLN.out j o hjn ho _ HX.out hwx.1 hwx.2 false (by unfold passB; exact decide_eq_false hp))
          clear hst hr hp
          go_wp2_with fail
          (with_reducible refine (hnext _).out.mono ?_); rintro e w' ⟨rfl, rfl⟩
          go_wp2_with fail
          (with_reducible refine (hps _ HT.out).out.mono ?_); rintro e w3 ⟨rfl, hb3⟩
          go_wp2
          go_roundw
          case rel => exact ⟨k + 1, j, o, lc, by omega, by go_num, rfl, rfl, hjn, ho, HLN, HO, HW, HT.out.below hb3, hB.trans (But.of_below hb3), HR⟩
          case measure => simp [intOf]; omega
    · have hr : lc = R := by rw [← HD.out, show n - k = 0 by omega]; rfl
      have HR := Lib.hid hr
      have HT := Lib.hid t
      clear hr t
      go_wp2
      go_ret
      exact ⟨rfl, by rw [← HR.out]; exact HT.out, hB⟩

end Go.Proofs.Ytlklklkjjmlgeaa
