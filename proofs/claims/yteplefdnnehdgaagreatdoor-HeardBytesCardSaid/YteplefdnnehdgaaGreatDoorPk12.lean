/- Several texts in one, one behind the other: HeardState, HeardHears, RankApi, HeardWith, TreeUpdate, TreeStates. -/
import Derived.Test.YteplefdnnehdgaaGreatDoorPk10
import Derived.Test.YteplefdnnehdgaaGreatDoorPk11
import Derived.Test.YteplefdnnehdgaaGreatDoorPk03
import Derived.Test.YteplefdnnehdgaaGreatDoorPk04
import Derived.Test.YteplefdnnehdgaaGreatDoorPk05

/- Boxes, ports and what goes out, while Outs grow. -/
namespace Go.Proofs.YteplefdnnehdgaaGreatDoor
set_option maxRecDepth 100000
open Go.ChangeShapes Go.WideShapes Go.ChangeAt Go.RowKit
set_option linter.unusedVariables false
set_option linter.unusedSimpArgs false

theorem TS.grownT {w wx wy : World} {l : List (Nat × TypeId × List Value)} {D : Option Addr} {L : List Po} {base n : Nat} {v : Value} {xs : List Value} (h : TS w l D L wx) (hown : wx.ownsRow base 60 5 v n xs) (gr : wx.grownBy wy v.ownBlock) (hl : ∀ y ∈ l, 60 ≠ y.2.1) (hB : w.heap.size ≤ base) : TS w l D L wy :=
  ⟨h.1.grownT hown gr hl hB, h.2.imp id fun ⟨g, r, e, s⟩ => ⟨g, r, e, s.grownT hown gr (fun y hy => by
    rcases List.mem_append.1 hy with q | q
    · exact hl y q
    · obtain rfl := List.mem_singleton.1 q
      dsimp only
      decide) hB⟩⟩
/-- A box of the call's own that is a view. -/
theorem OutsR.tree {w w' w0 : World} {base g : Nat} {v : Value} {M : List Ou} {l : List (Nat × TypeId × List Value)} (h : OutsR w base v M) (S : Hs w0 l w) (i : Nat) {cs : List Value} (hi : l[i]? = some (g, 31, cs)) (hh : ∀ k, k ≠ g → w'.heap[k]? = w.heap[k]?) : OutsR w' base v M :=
  h.but (S.1 i _ _ _ hi).1 (by decide) (by decide) hh
theorem OutsR.store {w w0 : World} {base g : Nat} {v : Value} {M : List Ou} {l : List (Nat × TypeId × List Value)} (h : OutsR w base v M) (S : Hs w0 l w) (i : Nat) {cs : List Value} (hi : l[i]? = some (g, 31, cs)) (cs' : Array Value) : OutsR (w.setRow g cs') base v M :=
  h.tree S i hi (fun k hk => setRow_other w g k _ hk)
theorem OutsR.port {w w' w0 : World} {base : Nat} {v : Value} {M : List Ou} {l : List (Nat × TypeId × List Value)} {g : Nat} {L : List Po} (h : OutsR w base v M) (S : TS w0 l (some ⟨g, 0, none⟩) L w) {k : Nat} {x : Po} (hx : L[k]? = some x) (hh : ∀ k, k ≠ g → w'.heap[k]? = w.heap[k]?) : OutsR w' base v M := by
  obtain ⟨cs, hb⟩ := S.port_block hx
  exact h.but hb (by decide) (by decide) hh
theorem nb_det {t : Th} (h : (-9223372036854775808 ≤ t.n1 ∧ t.n1 ≤ 9223372036854775807 ∧ -9223372036854775808 ≤ t.n2 ∧ t.n2 ≤ 9223372036854775807 ∧ -9223372036854775808 ≤ t.n3 ∧ t.n3 ≤ 9223372036854775807)) : (show Prop from (-9223372036854775808 ≤ (detT t).n1 ∧ (detT t).n1 ≤ 9223372036854775807 ∧ -9223372036854775808 ≤ (detT t).n2 ∧ (detT t).n2 ≤ 9223372036854775807 ∧ -9223372036854775808 ≤ (detT t).n3 ∧ (detT t).n3 ≤ 9223372036854775807)) := by unfold detT; split; exact h; split; exact h; exact h
theorem det_bd {t : Th} (h : ThB t) : ThB (detT t) := by unfold detT; split; exact h; split; exact h; exact h
theorem det_few (t : Th) (n : Nat) : (detO t n).length ≤ 1 := by
  unfold detO tcnR
  split
  · simp
  · split
    · simp
    · split <;> simp
theorem tcn_few (t : Th) (n : Nat) : (tcnR t n).length ≤ 1 := by
  unfold tcnR
  split <;> simp
theorem settle_few (t : Th) (L : List Po) : (settleR t L).2.length ≤ 1 := by
  unfold settleR
  split
  · exact det_few _ _
  · simp
theorem sel_nb {t : Th} {L : List Po} (h : (-9223372036854775808 ≤ t.n1 ∧ t.n1 ≤ 9223372036854775807 ∧ -9223372036854775808 ≤ t.n2 ∧ t.n2 ≤ 9223372036854775807 ∧ -9223372036854775808 ≤ t.n3 ∧ t.n3 ≤ 9223372036854775807)) : (show Prop from (-9223372036854775808 ≤ (selectT t L).n1 ∧ (selectT t L).n1 ≤ 9223372036854775807 ∧ -9223372036854775808 ≤ (selectT t L).n2 ∧ (selectT t L).n2 ≤ 9223372036854775807 ∧ -9223372036854775808 ≤ (selectT t L).n3 ∧ (selectT t L).n3 ≤ 9223372036854775807)) := by
  rcases sel_cases t L with ⟨_, e, _⟩ | ⟨j, p, hj, hbj, e, _⟩ <;> rw [e] <;> exact h
theorem settle_nb {t : Th} {L : List Po} (h : (-9223372036854775808 ≤ t.n1 ∧ t.n1 ≤ 9223372036854775807 ∧ -9223372036854775808 ≤ t.n2 ∧ t.n2 ≤ 9223372036854775807 ∧ -9223372036854775808 ≤ t.n3 ∧ t.n3 ≤ 9223372036854775807)) : (show Prop from (-9223372036854775808 ≤ (settleR t L).1.1.n1 ∧ (settleR t L).1.1.n1 ≤ 9223372036854775807 ∧ -9223372036854775808 ≤ (settleR t L).1.1.n2 ∧ (settleR t L).1.1.n2 ≤ 9223372036854775807 ∧ -9223372036854775808 ≤ (settleR t L).1.1.n3 ∧ (settleR t L).1.1.n3 ≤ 9223372036854775807)) := by
  unfold settleR
  split
  · exact nb_det (sel_nb h)
  · exact sel_nb h
theorem settle_pb {t : Th} {L : List Po} (h : ∀ x ∈ L, PoB x) (ht : ThB (selectT t L)) : ∀ x ∈ (settleR t L).1.2, PoB x := by
  intro y hy
  obtain ⟨k, hk, e⟩ := List.getElem_of_mem hy
  obtain ⟨x, hx, rfl⟩ := settle_at (show (settleR t L).1.2[k]? = some y by rw [List.getElem?_eq_getElem hk, e])
  have hb := h x (List.mem_of_getElem? hx)
  have h1 : PoB (desP (selectT t L) x) := by
    unfold desP
    split
    · unfold PoB ThB becomeP at *
      try dsimp only at *
      omega
    · exact hb
  revert h1
  generalize desP (selectT t L) x = z
  intro h1
  unfold stP
  split
  · unfold riseP owesP
    split <;> (unfold PoB at *; try dsimp only at *; omega)
  · split
    · unfold riseP restP
      split <;> (unfold PoB at *; try dsimp only at *; omega)
    · unfold blockP owesP
      split <;> (unfold PoB at *; try dsimp only at *; omega)
theorem settle_n {t : Th} {L : List Po} {n : Nat} (h : L.length = n) : (settleR t L).1.2.length = n := by
  rw [settle_ports]
  unfold statesL desL
  rw [allL_len, allL_len]
  exact h
theorem late_few (r : Bool) (t : Th) (n : Nat) : (lateO r t n).length ≤ 1 := by
  unfold lateO
  split
  · split
    · exact tcn_few _ _
    · simp
  · simp
theorem set_len {L : List Po} {k n : Nat} {y : Po} (h : L.length = n) : (L.set k y).length = n := by rw [List.length_set]; exact h
theorem set_bd {L : List Po} {k : Nat} {y : Po} (h : ∀ x ∈ L, PoB x) (hy : PoB y) : ∀ x ∈ L.set k y, PoB x := fun z hz => by
  rcases List.mem_or_eq_of_mem_set hz with q | rfl
  · exact h z q
  · exact hy
theorem late_bd {r : Bool} {t : Th} (h : ThB t) : ThB (lateT r t) := by
  unfold lateT
  split
  · split <;> exact h
  · exact h
theorem late_nb {r : Bool} {t : Th} (h : (-9223372036854775808 ≤ t.n1 ∧ t.n1 ≤ 9223372036854775807 ∧ -9223372036854775808 ≤ t.n2 ∧ t.n2 ≤ 9223372036854775807 ∧ -9223372036854775808 ≤ t.n3 ∧ t.n3 ≤ 9223372036854775807)) : (show Prop from (-9223372036854775808 ≤ (lateT r t).n1 ∧ (lateT r t).n1 ≤ 9223372036854775807 ∧ -9223372036854775808 ≤ (lateT r t).n2 ∧ (lateT r t).n2 ≤ 9223372036854775807 ∧ -9223372036854775808 ≤ (lateT r t).n3 ∧ (lateT r t).n3 ≤ 9223372036854775807)) := by
  unfold lateT
  split
  · split <;> exact h
  · exact h


end Go.Proofs.YteplefdnnehdgaaGreatDoor

/- hears: contract. -/
namespace Go.Proofs.YteplefdnnehdgaaGreatDoor
set_option maxRecDepth 100000
open Go.ChangeShapes Go.WideShapes Go.ChangeAt Go.RowKit
set_option linter.unusedVariables false
set_option linter.unusedSimpArgs false

theorem hears_is (t : Th) (A : Option Addr) (n cap : Nat) (L : List Po) (hL : Hid (L.length = n)) (i : Int) (q : Bool) (hq : Hid ((if 0 ≤ i then (match L[i.toNat]? with | none => false | some p => !decide (p.st = 0)) else false) = q)) (w : World) (hp : Hid (PoAt w A w.heap.size L)) :
    Calls Tryz.prog 13 #[.agg (lT t A n cap).toArray, .int .i64 i] w fun e w' => e = .returned (.bool q) ∧ Below w.heap.size w w' := by
  obtain ⟨wb, hwb, S⟩ := hs_one w 31 (lT t A n cap)
  have HP := Lib.hid ((hp.out.below S.old (Nat.le_refl _)).wide S.old.size)
  have hq' := hq.out
  clear hq
  go_enter Tryz.func13, Tryz.ntmps13
  go_upto_region 1 with fail
  clear hwb
  have c18 := S.cell 0 18 rfl rfl
  by_cases i0 : i < 0
  · obtain rfl : false = q := by rw [← hq', if_neg (by omega)]
    have i1 : ¬ 0 ≤ i := by omega
    clear hq'
    go_wp2
    go_ret
    exact ⟨rfl, S.old⟩
  · have i1 : 0 ≤ i := by omega
    rw [if_pos i1] at hq'
    by_cases i2 : (n : Int) ≤ i
    · obtain rfl : false = q := by rw [← hq', List.getElem?_eq_none (by have := hL.out; omega)]
      have i3 : ¬ i < (n : Int) := by omega
      clear hq'
      go_wp2
      go_ret
      exact ⟨rfl, S.old⟩
    · obtain ⟨k, rfl⟩ : ∃ k : Nat, i = k := ⟨i.toNat, by omega⟩
      obtain ⟨x, hx⟩ := po_at hL.out (show k < n by omega)
      rw [Int.toNat_natCast, hx] at hq'
      obtain ⟨ad, rfl, -, -, h1⟩ := HP.out.cells hx
      have p1 := h1 0 _ rfl
      have hki : (k : Int) < (n : Int) := by omega
      have hkz : ¬ (n : Int) ≤ (k : Int) := by omega
      clear h1 hx HP hp
      by_cases hs : x.st = 0
      · obtain rfl : false = q := by rw [← hq']; simp [hs]
        have hb : (x.st != 0) = false := by simp [hs]
        clear hq' hs
        go_wp2
        go_ret
        exact ⟨rfl, S.old⟩
      · obtain rfl : true = q := by rw [← hq']; simp [hs]
        have hb : (x.st != 0) = true := by simp [hs]
        clear hq' hs
        go_wp2
        go_ret
        exact ⟨rfl, S.old⟩


end Go.Proofs.YteplefdnnehdgaaGreatDoor

/- Via, Keeps, Supersedes, Of, the document's answers, the law's example. -/
namespace Go.Proofs.YteplefdnnehdgaaGreatDoor
set_option maxRecDepth 100000
open Go.ChangeShapes Go.WideShapes Go.ChangeAt Go.RowKit
set_option linter.unusedVariables false

theorem of_is (x : Vec) (tc ch ak : Bool) (ag ma he de : Int) (w : World) :
    Calls Tryz.prog 28 #[.agg #[.bool tc, .bool ch, .bool ak, .int .u64 x.r, .int .u32 x.c, .int .u64 x.b, .int .u16 x.p, .int .u16 ag, .int .u16 ma, .int .u16 he, .int .u16 de]] w
      fun e w' => e = .returned (.agg #[.int .u64 x.r, .int .u32 x.c, .int .u64 x.b, .int .u16 x.p]) ∧ Below w.heap.size w w' := by
  go_enter Tryz.func28, Tryz.ntmps28
  go_wp2
  exact bodyPost_ret (v := .agg #[.int .u64 x.r, .int .u32 x.c, .int .u64 x.b, .int .u16 x.p]) (by simp [results, Tryz.results28, go_sem]) rfl ⟨rfl, ((Below.refl _ _).alloc (Nat.le_refl _) _).alloc (by simp) _⟩

set_option maxHeartbeats 1000000 in
theorem sup_is (x y : Vec) (o : Int) (r : Bool) (hr : Hid (supB x y o = r)) (w : World) :
    Calls Tryz.prog 27 #[.agg #[.int .u64 x.r, .int .u32 x.c, .int .u64 x.b, .int .u16 x.p], .agg #[.int .u64 y.r, .int .u32 y.c, .int .u64 y.b, .int .u16 y.p], .int .u64 o] w fun e w' => e = .returned (.bool r) ∧ Below w.heap.size w w' := by
  obtain ⟨wb, hwb, hx, hy, B⟩ := boxes2 63 w x y
  have hxl := hx.lt
  have hyl := hy.lt
  have z := B.size
  have HW := fun W => Lib.hid (wp_is x y W)
  rcases wpI_cases x y with ⟨-, e⟩ | ⟨-, e⟩ | ⟨-, e⟩
  · rw [supB_lt e] at hr
    rw [e] at HW
    have hr := Lib.hid hr.out
    clear e
    obtain ⟨x0, x1, x2, x3⟩ := hx.cells
    obtain ⟨y0, y1, y2, y3⟩ := hy.cells
    go_enter Tryz.func27, Tryz.ntmps27
    go_wp2_with fail
    (with_reducible refine (HW _).out.mono ?_); rintro e w5 ⟨rfl, b5⟩
    clear HW
    go_wp2
    go_ret
    exact ⟨ret_bool (by first | rfl | exact hr.out), B.trans (b5.mono z)⟩
  · rw [supB_eq e] at hr
    rw [e] at HW
    clear e
    obtain ⟨x0, x1, x2, x3⟩ := hx.cells
    obtain ⟨y0, y1, y2, y3⟩ := hy.cells
    by_cases hb : x.b = o
    · have e := hr.out
      rw [decide_eq_true hb] at e
      have e := Lib.hid (show decide (x.p ≤ y.p) = r from e)
      clear hr
      subst hb
      go_enter Tryz.func27, Tryz.ntmps27
      go_wp2_with fail
      (with_reducible refine (HW _).out.mono ?_); rintro e w5 ⟨rfl, b5⟩
      clear HW
      obtain ⟨c0, c1, c2, c3⟩ := (hx.below b5 hxl).cells
      obtain ⟨d0, d1, d2, d3⟩ := (hy.below b5 hyl).cells
      go_wp2
      go_ret
      exact ⟨ret_bool (by first | rfl | exact e.out), B.trans (b5.mono z)⟩
    · have e := hr.out
      rw [decide_eq_false hb] at e
      have e := Lib.hid (show true = r from e)
      clear hr
      go_enter Tryz.func27, Tryz.ntmps27
      go_wp2_with fail
      (with_reducible refine (HW _).out.mono ?_); rintro e w5 ⟨rfl, b5⟩
      clear HW
      obtain ⟨c0, c1, c2, c3⟩ := (hx.below b5 hxl).cells
      obtain ⟨d0, d1, d2, d3⟩ := (hy.below b5 hyl).cells
      go_wp2
      go_ret
      exact ⟨ret_bool (by first | rfl | exact e.out), B.trans (b5.mono z)⟩
  · rw [supB_gt e] at hr
    rw [e] at HW
    have hr := Lib.hid hr.out
    clear e
    obtain ⟨x0, x1, x2, x3⟩ := hx.cells
    obtain ⟨y0, y1, y2, y3⟩ := hy.cells
    go_enter Tryz.func27, Tryz.ntmps27
    go_wp2_with fail
    (with_reducible refine (HW _).out.mono ?_); rintro e w5 ⟨rfl, b5⟩
    clear HW
    go_wp2
    go_ret
    exact ⟨ret_bool (by first | rfl | exact hr.out), B.trans (b5.mono z)⟩

set_option maxHeartbeats 1000000 in
theorem rsup_is (x y : Vec) (o : Int) (r : Bool) (hr : Hid (supB x y o = r)) (w : World) :
    Calls Tryz.prog 40 #[.agg #[.int .u64 x.r, .int .u32 x.c, .int .u64 x.b, .int .u16 x.p], .agg #[.int .u64 y.r, .int .u32 y.c, .int .u64 y.b, .int .u16 y.p], .int .u64 o] w fun e w' => e = .returned (.bool r) ∧ Below w.heap.size w w' := by
  have hw := wpI_cases x y
  rcases Int.lt_trichotomy x.r y.r with gr | gr | gr
  · rw [supB_lt (by omega)] at hr
    have e := Lib.hid hr.out
    have n0 : ¬ x.r = y.r := by omega
    clear hr hw
    go_enter Tryz.func40, Tryz.ntmps40
    go_wp2
    go_ret
    exact ⟨ret_bool (by first | rfl | exact e.out), ((Below.refl _ _).alloc (Nat.le_refl _) _).alloc (by simp) _⟩
  · rcases Int.lt_trichotomy x.c y.c with gc | gc | gc
    · rw [supB_lt (by omega)] at hr
      have e := Lib.hid hr.out
      have n0 : ¬ x.r < y.r := by omega
      have n1 : ¬ x.c = y.c := by omega
      clear hr hw
      go_enter Tryz.func40, Tryz.ntmps40
      go_wp2
      go_ret
      exact ⟨ret_bool (by first | rfl | exact e.out), ((Below.refl _ _).alloc (Nat.le_refl _) _).alloc (by simp) _⟩
    · rcases Int.lt_trichotomy x.b y.b with gb | gb | gb
      · rw [supB_lt (by omega)] at hr
        have e := Lib.hid hr.out
        have n0 : ¬ x.r < y.r := by omega
        have n1 : ¬ x.c < y.c := by omega
        have n2 : ¬ x.b = y.b := by omega
        clear hr hw
        go_enter Tryz.func40, Tryz.ntmps40
        go_wp2
        go_ret
        exact ⟨ret_bool (by first | rfl | exact e.out), ((Below.refl _ _).alloc (Nat.le_refl _) _).alloc (by simp) _⟩
      · by_cases hb : x.b = o
        · rw [supB_eq (by omega)] at hr
          have e := hr.out
          rw [decide_eq_true hb] at e
          have e := Lib.hid (show decide (x.p ≤ y.p) = r from e)
          have n0 : ¬ x.r < y.r := by omega
          have n1 : ¬ x.c < y.c := by omega
          have n2 : ¬ x.b < y.b := by omega
          clear hr hw
          go_enter Tryz.func40, Tryz.ntmps40
          go_wp2
          go_ret
          exact ⟨ret_bool (by first | rfl | exact e.out), ((Below.refl _ _).alloc (Nat.le_refl _) _).alloc (by simp) _⟩
        · rw [supB_eq (by omega)] at hr
          have e := hr.out
          rw [decide_eq_false hb] at e
          have e := Lib.hid (show true = r from e)
          have n0 : ¬ x.r < y.r := by omega
          have n1 : ¬ x.c < y.c := by omega
          have n2 : ¬ x.b < y.b := by omega
          clear hr hw
          go_enter Tryz.func40, Tryz.ntmps40
          go_wp2
          go_ret
          exact ⟨ret_bool (by first | rfl | exact e.out), ((Below.refl _ _).alloc (Nat.le_refl _) _).alloc (by simp) _⟩
      · rw [supB_gt (by omega)] at hr
        have e := Lib.hid hr.out
        have n0 : ¬ x.r < y.r := by omega
        have n1 : ¬ x.c < y.c := by omega
        have n2 : ¬ x.b = y.b := by omega
        have n3 : ¬ x.b < y.b := by omega
        clear hr hw
        go_enter Tryz.func40, Tryz.ntmps40
        go_wp2
        go_ret
        exact ⟨ret_bool (by first | rfl | exact e.out), ((Below.refl _ _).alloc (Nat.le_refl _) _).alloc (by simp) _⟩
    · rw [supB_gt (by omega)] at hr
      have e := Lib.hid hr.out
      have n0 : ¬ x.r < y.r := by omega
      have n1 : ¬ x.c = y.c := by omega
      have n2 : ¬ x.c < y.c := by omega
      clear hr hw
      go_enter Tryz.func40, Tryz.ntmps40
      go_wp2
      go_ret
      exact ⟨ret_bool (by first | rfl | exact e.out), ((Below.refl _ _).alloc (Nat.le_refl _) _).alloc (by simp) _⟩
  · rw [supB_gt (by omega)] at hr
    have e := Lib.hid hr.out
    have n0 : ¬ x.r = y.r := by omega
    have n1 : ¬ x.r < y.r := by omega
    clear hr hw
    go_enter Tryz.func40, Tryz.ntmps40
    go_wp2
    go_ret
    exact ⟨ret_bool (by first | rfl | exact e.out), ((Below.refl _ _).alloc (Nat.le_refl _) _).alloc (by simp) _⟩

end Go.Proofs.YteplefdnnehdgaaGreatDoor

/- with, and what its closures do to a port: contracts. -/
namespace Go.Proofs.YteplefdnnehdgaaGreatDoor
set_option maxRecDepth 100000
open Go.ChangeShapes Go.WideShapes Go.ChangeAt Go.RowKit
set_option linter.unusedVariables false
set_option linter.unusedSimpArgs false

/-- What a closure does to the port k of a row. -/
def ChEnd (gN : Nat) (cb : Array Value) (k : Nat) (y : Po) (L : List Po) (w : World) : Prop :=
  ∀ (l : List (Nat × TypeId × List Value)) (g : Nat) (W : World), TS w l (some ⟨g, 0, none⟩) L W →
    Calls Tryz.prog gN (#[.pointer (some ⟨g, k * 15, none⟩)] ++ cb) W (fun e W' => e = .returned (.tuple #[]) ∧ TS w l (some ⟨g, 0, none⟩) (L.set k y) W')

theorem tcn1_ok {L : List Po} {k : Nat} {x : Po} (hk : L[k]? = some x) (w : World) : ChEnd 35 #[] k { x with ak := true } L w := by
  intro l g W h
  have p7 := h.port_cell hk 7 rfl
  obtain ⟨_, e', _, _, hfz⟩ := h.at hk
  cases e'
  have f7 := hfz (k * 15 + 7)
  clear hfz
  have HT := Lib.hid (show TS w l (some ⟨g, 0, none⟩) (L.set k { x with ak := true }) (W.setCell ⟨g, k * 15 + 7, none⟩ (.bool true)) from h.put (y := { x with ak := true }) hk 7 [.bool true] (by simp) rfl)
  clear h hk
  go_enter Tryz.func35, Tryz.ntmps35
  go_wp2
  exact bodyPost_end (results_none rfl _ _ _) rfl ⟨rfl, HT.out⟩

set_option maxHeartbeats 2000000 in
theorem takes1_ok {L : List Po} {k : Nat} {p : Po} {x : Bq} (hk : L[k]? = some p) (hxb : BqIn x) (w : World) {bx : Nat} (hbx : Bk w bx 56 (lB x)) : ChEnd 52 #[.pointer (some ⟨bx, 0, none⟩)] k (heldP p x) L w := by
  intro l g W h
  have HOF := fun W => Lib.hid (show Calls Tryz.prog 28 #[.agg (lB x).toArray] W (fun e w' => e = .returned (.agg #[.int .u64 x.ro, .int .u32 x.co, .int .u64 x.br, .int .u16 x.po]) ∧ Below W.heap.size W w') from of_is (confV x) x.tc x.ch x.ak x.ag x.ma x.he x.de W)
  have hxB := hxb
  unfold BqIn BpIn at hxB
  have hwa : IntKind.i64.wrap x.ag = x.ag := by simp [IntKind.wrap, IntKind.bits, IntKind.signed]; omega
  have HST := fun W => Lib.hid (start_is x.ag (by omega) (by omega) W)
  have hst : startI x.ag = x.ag := by unfold startI; omega
  rw [hst] at HST
  have HWA := Lib.hid hwa
  have HK := Lib.hid hk
  have b0 := Lib.hid (hbx.below h.old hbx.lt)
  have hb0 : W.heap[bx]? = some (.cells (lB x).toArray 56 (0, 0)) := b0.out
  clear hwa hst hxB hxb hk hbx
  go_enter Tryz.func52, Tryz.ntmps52
  go_wp2_with (with_reducible refine wpList_load_row rfl 56 (.tmp 1) rfl bx (by kernel_rfl) _ _ (0, 0) _ hb0 Tryz.underlying56 rfl (by kernel_rfl) ?_)
  (with_reducible refine (HOF _).out.mono ?_); rintro e W1 ⟨rfl, b1⟩
  have T1 := h.below b1
  have B1 := Lib.hid ((show Bk W bx 56 (lB x) from b0.out).below b1 (Bk.lt b0.out))
  clear h hb0 b0 b1 HOF
  have p3 := T1.port_cell HK.out 3 rfl
  have p4 := T1.port_cell HK.out 4 rfl
  have p5 := T1.port_cell HK.out 5 rfl
  have p6 := T1.port_cell HK.out 6 rfl
  obtain ⟨_, e', _, _, hfz⟩ := T1.at HK.out
  cases e'
  have f3 := hfz (k * 15 + 3)
  have f4 := hfz (k * 15 + 4)
  have f5 := hfz (k * 15 + 5)
  have f6 := hfz (k * 15 + 6)
  clear hfz
  obtain ⟨pc, hpc⟩ := T1.port_block HK.out
  have B2 := Lib.hid (show Bk (((W1.setCell ⟨g, k * 15 + 3, none⟩ (.int .u64 x.ro)).setCell ⟨g, k * 15 + 4, none⟩ (.int .u32 x.co)).setCell ⟨g, k * 15 + 5, none⟩ (.int .u64 x.br) |>.setCell ⟨g, k * 15 + 6, none⟩ (.int .u16 x.po)) bx 56 (lB x) from by
    have hne : bx ≠ g := bk_ne B1.out hpc (by decide)
    exact (setCells_other [.int .u64 x.ro, .int .u32 x.co, .int .u64 x.br, .int .u16 x.po] (k * 15 + 3) W1 bx hne).trans B1.out)
  clear hpc
  go_upto_region 1 with fail
  have T2 : TS w l (some ⟨g, 0, none⟩) (L.set k { p with hr := x.ro, hc := x.co, hb := x.br, hp := x.po }) ((((W1.setCell ⟨g, k * 15 + 3, none⟩ (.int .u64 x.ro)).setCell ⟨g, k * 15 + 4, none⟩ (.int .u32 x.co)).setCell ⟨g, k * 15 + 5, none⟩ (.int .u64 x.br)).setCell ⟨g, k * 15 + 6, none⟩ (.int .u16 x.po)) := T1.put (y := { p with hr := x.ro, hc := x.co, hb := x.br, hp := x.po }) HK.out 3 [.int .u64 x.ro, .int .u32 x.co, .int .u64 x.br, .int .u16 x.po] (by simp) rfl
  generalize (((W1.setCell ⟨g, k * 15 + 3, none⟩ (.int .u64 x.ro)).setCell ⟨g, k * 15 + 4, none⟩ (.int .u32 x.co)).setCell ⟨g, k * 15 + 5, none⟩ (.int .u64 x.br)).setCell ⟨g, k * 15 + 6, none⟩ (.int .u16 x.po) = W2 at T2 B2 ⊢
  clear T1 B1 p3 p4 p5 p6 f3 f4 f5 f6
  have HK2 := Lib.hid (show (L.set k { p with hr := x.ro, hc := x.co, hb := x.br, hp := x.po })[k]? = some { p with hr := x.ro, hc := x.co, hb := x.br, hp := x.po } from List.getElem?_set_self (po_lt HK.out))
  have b7 : W2.cell? ⟨bx, 7, none⟩ = some (.int .u16 x.ag) := B2.out.cell 7
  have hwa := HWA.out
  go_wp2_with fail
  (with_reducible refine (HST _).out.mono ?_); rintro e W3 ⟨rfl, b3⟩
  have T3 := T2.below b3
  clear T2 b7 hwa b3 HST B2
  have p9 := T3.port_cell HK2.out 9 rfl
  have p10 := T3.port_cell HK2.out 10 rfl
  obtain ⟨_, e', _, _, hfz⟩ := T3.at HK2.out
  cases e'
  have f9 := hfz (k * 15 + 9)
  have f10 := hfz (k * 15 + 10)
  clear hfz
  have HT := Lib.hid (T3.put (y := heldP p x) HK2.out 9 [.bool true, .int .i64 x.ag] (by simp) rfl)
  go_wp2
  refine bodyPost_end (results_none rfl _ _ _) rfl ⟨rfl, ?_⟩
  have h := HT.out
  rw [List.set_set] at h
  exact h

set_option maxHeartbeats 2000000 in
theorem with_is (t : Th) (A : Option Addr) (n cap : Nat) (L : List Po) (k : Nat) (x y : Po) (hk : Hid (L[k]? = some x)) (gN : Nat) (cb : Array Value) (eg : ∀ args w, (callFunc gN args).run Tryz.prog w = .ok (.enter gN args) w) (hL : Hid (L.length = n)) (hf : n ≤ 200) (hc : Hid (A = none → cap = 0)) (w : World) (hch : Hid (ChEnd gN cb k y L w)) (hp : Hid (PoAt w A w.heap.size L)) :
    Calls Tryz.prog 34 #[.agg (lT t A n cap).toArray, .int .i64 k, .func (.func gN) #[] cb] w (TOut w t n (L.set k y)) := by
  have hkn : k < n := by have := po_lt hk.out; have := hL.out; omega
  have hki : (k : Int) < (n : Int) := by omega
  have hkz : ¬ (n : Int) ≤ (k : Int) := by omega
  obtain ⟨wb, hwb, S⟩ := hs_two w 31 31 (lT t A n cap) [.int .u64 0, .int .u64 0, .int .u32 0, .int .i64 0, .int .i64 0, .int .i64 0, .int .i64 0, .int .i64 0, .int .i64 0, .int .i64 0, .bool false, .bool false, .bool false, .int .i64 0, .bool false, .int .i64 0, .bool false, .int .i64 0, .slice none 0 0]
  go_enter Tryz.func34, Tryz.ntmps34
  go_upto_region 1 with fail
  clear hwb
  obtain ⟨X, hX⟩ : ∃ q, w.heap.size = q := ⟨_, rfl⟩
  rw [hX] at S
  obtain ⟨Y, hY⟩ : ∃ q, X + 1 = q := ⟨_, rfl⟩
  rw [hY] at S
  rw [hX]
  rw [hY]
  clear hX hY
  have HC := Lib.hid (tcopy_is t A n cap L hL hf hc wb (Lib.hid ((hp.out.below S.old (Nat.le_refl _)).wide S.old.size)))
  have hx := S.bk 1 rfl
  go_wp2_with (with_reducible refine wpList_load_row rfl 31 (.tmp 3) rfl X (by kernel_rfl) _ _ (0, 0) _ hx Tryz.underlying31 rfl (by kernel_rfl) ?_)
  (with_reducible refine HC.out.mono ?_); rintro e w1 ⟨D, cap', rfl, hz, k1⟩
  have S1 := TS.take S k1
  have HZ := Lib.hid hz
  clear S hx HC k1 hz
  have hx := S1.hs.bk 1 rfl
  go_upto_region 2 with (refine wpList_store_row rfl 31 _ _ rfl X _ rfl rfl _ _ hx (by kernel_rfl) (by kernel_rfl) (by kernel_rfl) ?_)
  have S2 : TS w [(Y, 31, [.int .u64 0, .int .u64 0, .int .u32 0, .int .i64 0, .int .i64 0, .int .i64 0, .int .i64 0, .int .i64 0, .int .i64 0, .int .i64 0, .bool false, .bool false, .bool false, .int .i64 0, .bool false, .int .i64 0, .bool false, .int .i64 0, .slice none 0 0]), (X, 31, lT t D n cap')] D L _ := S1.row 1 rfl (lT t D n cap')
  generalize w1.setRow X (lT t D n cap').toArray = w2 at S2 ⊢
  clear S1 hx
  obtain ⟨g, rfl, -⟩ := S2.at hk.out
  have c18 := S2.hs.cell 1 18 rfl rfl
  have HCH := Lib.hid (hch.out _ _ _ S2)
  go_wp2_with fail
  (with_reducible refine HCH.out.mono ?_); rintro e w3 ⟨rfl, S3⟩
  clear S2 c18 HCH
  have hx := S3.hs.bk 1 rfl
  have hy := S3.hs.bk 0 rfl
  go_wp2_with (first | (with_reducible refine wpList_load_row rfl 31 (.tmp 3) rfl X (by kernel_rfl) _ _ (0, 0) _ hx Tryz.underlying31 rfl (by kernel_rfl) ?_) | (refine wpList_store_row rfl 31 _ _ rfl Y _ rfl rfl _ _ hy (by kernel_rfl) (by kernel_rfl) (by kernel_rfl) ?_))
  exact bodyPost_ret (v := .agg (lT t (some ⟨g, 0, none⟩) n cap').toArray) (results_cell_row rfl _ _ Y _ _ _ _ rfl (setRow_heap _ _ _ _ _ _ hy) Tryz.underlying31 rfl (by kernel_rfl)) rfl ⟨_, cap', rfl, HZ.out, (S3.row 0 rfl (lT t (some ⟨g, 0, none⟩) n cap')).nobox⟩

end Go.Proofs.YteplefdnnehdgaaGreatDoor

/- Update: contract. -/
namespace Go.Proofs.YteplefdnnehdgaaGreatDoor
set_option maxRecDepth 100000
open Go.ChangeShapes Go.WideShapes Go.ChangeAt Go.RowKit
set_option linter.unusedVariables false

def updT (t : Th) (L : List Po) : Th := selectT t L
def updL (t : Th) (L : List Po) : List Po := desL (selectT t L) L
theorem desL_len (t : Th) (L : List Po) : (desL t L).length = L.length := allL_len _ _

set_option maxHeartbeats 1000000 in
theorem update_is (t : Th) (A : Option Addr) (n cap : Nat) (L : List Po) (hL : Hid (L.length = n)) (hf : n ≤ 200) (hb : Hid (∀ x ∈ L, PoB x)) (hc : Hid (A = none → cap = 0)) (w : World) (hp : Hid (PoAt w A w.heap.size L)) :
    Calls Tryz.prog 76 #[.agg (lT t A n cap).toArray] w (TOut w (updT t L) n (updL t L)) := by
  obtain ⟨wb, hwb, S⟩ := hs_two w 31 31 (lT t A n cap) [.int .u64 0, .int .u64 0, .int .u32 0, .int .i64 0, .int .i64 0, .int .i64 0, .int .i64 0, .int .i64 0, .int .i64 0, .int .i64 0, .bool false, .bool false, .bool false, .int .i64 0, .bool false, .int .i64 0, .bool false, .int .i64 0, .slice none 0 0]
  go_enter Tryz.func76, Tryz.ntmps76
  go_upto_region 1 with fail
  clear hwb
  obtain ⟨X, hX⟩ : ∃ X, w.heap.size = X := ⟨_, rfl⟩
  rw [hX] at S
  obtain ⟨Y, hY⟩ : ∃ Y, X + 1 = Y := ⟨_, rfl⟩
  rw [hY] at S
  rw [hX]
  rw [hY]
  clear hX hY
  have hp1 := Lib.hid ((hp.out.below S.old (Nat.le_refl _)).wide S.old.size)
  have HC := Lib.hid (select_is t A n cap L hL hf hb hc wb hp1)
  have hx := S.bk 1 rfl
  go_wp2_with (refine wpList_load_row rfl 31 _ rfl X rfl _ _ (0, 0) _ hx Tryz.underlying31 rfl (by kernel_rfl) ?_)
  (with_reducible refine HC.out.mono ?_); rintro e w1 ⟨D, cap', rfl, hz, k1⟩
  have S1 := TS.take S k1
  have HZ := Lib.hid hz
  clear S hx HC hp1 k1 hz
  have HD := Lib.hid (desig_all (selectT t L) D n cap' L hL hf HZ w1 (Lib.hid S1.ports))
  go_wp2_with fail
  (with_reducible refine HD.out.mono ?_); rintro e w2 ⟨D2, cap2, rfl, hz2, k2⟩
  have S2 := TS.take S1.hs k2
  have HZ2 := Lib.hid hz2
  clear HD S1 k2 hz2
  have hy := S2.hs.bk 0 rfl
  go_wp2_with (refine wpList_store_row rfl 31 _ _ rfl Y _ rfl rfl _ _ hy (by kernel_rfl) (by kernel_rfl) (by kernel_rfl) ?_)
  exact bodyPost_ret (v := .agg (lT (updT t L) D2 n cap2).toArray) (results_cell_row rfl _ _ Y _ _ _ _ rfl (setRow_heap _ _ _ _ _ _ hy) Tryz.underlying31 rfl (by kernel_rfl)) rfl ⟨D2, cap2, rfl, HZ2.out, (S2.row 0 rfl (lT (updT t L) D2 n cap2)).nobox⟩

end Go.Proofs.YteplefdnnehdgaaGreatDoor

/- States: contract. -/
namespace Go.Proofs.YteplefdnnehdgaaGreatDoor
set_option maxRecDepth 100000
open Go.ChangeShapes Go.WideShapes Go.ChangeAt Go.RowKit
set_option linter.unusedVariables false
set_option linter.unusedSimpArgs false

/-- What States hands out. -/
def TOut2 (w : World) (t : Th) (n : Nat) (L : List Po) (b : Bool) (e : Ending) (w' : World) : Prop :=
  ∃ D cap, e = .returned (.tuple #[.agg (lT t D n cap).toArray, .bool b]) ∧ (D = none → cap = 0) ∧ TS w [] D L w'

set_option maxRecDepth 100000 in
set_option maxHeartbeats 4000000 in
theorem states_is (t : Th) (A : Option Addr) (n cap : Nat) (L : List Po) (hL : Hid (L.length = n)) (hf : n ≤ 200) (hc : Hid (A = none → cap = 0)) (w : World) (hp : Hid (PoAt w A w.heap.size L)) :
    Calls Tryz.prog 75 #[.agg (lT t A n cap).toArray] w (TOut2 w t n (statesL t L) (lostB t L n)) := by
  obtain ⟨wb, hwb, S⟩ := hs_two w 31 31 (lT t A n cap) [.int .u64 0, .int .u64 0, .int .u32 0, .int .i64 0, .int .i64 0, .int .i64 0, .int .i64 0, .int .i64 0, .int .i64 0, .int .i64 0, .bool false, .bool false, .bool false, .int .i64 0, .bool false, .int .i64 0, .bool false, .int .i64 0, .slice none 0 0]
  go_enter Tryz.func75, Tryz.ntmps75
  go_upto_region 1 with fail
  clear hwb
  obtain ⟨X, hX⟩ : ∃ X, w.heap.size = X := ⟨_, rfl⟩
  rw [hX] at S
  obtain ⟨Y, hY⟩ : ∃ Y, X + 1 = Y := ⟨_, rfl⟩
  rw [hY] at S
  rw [hX]
  rw [hY]
  clear hX hY
  have hp1 := Lib.hid ((hp.out.below S.old (Nat.le_refl _)).wide S.old.size)
  have HC := Lib.hid (tcopy_is t A n cap L hL hf hc wb hp1)
  have hx := S.bk 1 rfl
  go_wp2_with (refine wpList_load_row rfl 31 _ rfl X rfl _ _ (0, 0) _ hx Tryz.underlying31 rfl (by kernel_rfl) ?_)
  (with_reducible refine HC.out.mono ?_); rintro e w1 ⟨D, cap', rfl, hz, k1⟩
  have S1 := TS.take S k1
  have HZ := Lib.hid hz
  clear S hx HC hp1 k1 hz
  have hx := S1.hs.bk 1 rfl
  go_upto_region 2 with (refine wpList_store_row rfl 31 _ _ rfl X _ rfl rfl _ _ hx (by kernel_rfl) (by kernel_rfl) (by kernel_rfl) ?_)
  have S2 : TS w [(Y, 31, [.int .u64 0, .int .u64 0, .int .u32 0, .int .i64 0, .int .i64 0, .int .i64 0, .int .i64 0, .int .i64 0, .int .i64 0, .int .i64 0, .bool false, .bool false, .bool false, .int .i64 0, .bool false, .int .i64 0, .bool false, .int .i64 0, .slice none 0 0]), (X, 31, lT t D n cap')] D L _ := S1.row 1 rfl (lT t D n cap')
  generalize w1.setRow X (lT t D n cap').toArray = w2 at S2 ⊢
  clear S1 hx
  have c18 := S2.hs.cell 1 18 rfl rfl
  go_wp2
  clear c18
  go_loopw [4, 13] (fun b i wr => ∃ k : Nat, k ≤ n ∧ i = .int .i64 k ∧ b = .bool (lostB t L k) ∧ TS w [(Y, 31, [.int .u64 0, .int .u64 0, .int .u32 0, .int .i64 0, .int .i64 0, .int .i64 0, .int .i64 0, .int .i64 0, .int .i64 0, .int .i64 0, .bool false, .bool false, .bool false, .int .i64 0, .bool false, .int .i64 0, .bool false, .int .i64 0, .slice none 0 0]), (X, 31, lT t D n cap')] D (mixL (fun j p => (stP t j p).1) k L) wr) (fun b i _ => n - (intOf i).toNat)
  case atStart => exact ⟨0, Nat.zero_le _, rfl, rfl, by rw [mixL_zero]; exact S2⟩
  case round =>
    obtain ⟨k, hk, rfl, rfl, S⟩ := hrel
    by_cases hkn : k < n
    · obtain ⟨x, hx⟩ := po_at hL.out hkn
      have hki : (k : Int) < (n : Int) := by omega
      have hkz : ¬ (n : Int) ≤ (k : Int) := by omega
      have hm := mixL_at (f := fun j p => (stP t j p).1) hx
      have HX := Lib.hid hx
      have HM := Lib.hid hm
      obtain ⟨g, hD, hg, hcl, hfz⟩ := S.at hm
      subst hD
      have hat : ∀ i v, (lP x)[i]? = some v → wr.cell? ((⟨g, k * 15, none⟩ : Addr).add i) = some v := fun i v hv => by rw [addr_add]; exact hcl i v hv
      clear hx hm S2
      go_upto_region 6 with (first | (with_reducible refine wpList_load_at rfl 65 (.tmp 16) rfl ⟨g, k * 15, none⟩ (by kernel_rfl) _ _ hat Tryz.underlying65 rfl (by kernel_rfl) ?_) | (refine wpList_store_row rfl 65 _ _ rfl _ _ rfl rfl _ _ (heap_alloc_new _ _) (by kernel_rfl) (by kernel_rfl) (by kernel_rfl) ?_))
      rw [alloc_row]
      have T1 := S.al rfl 65 (lP x)
      obtain ⟨Z, hZ⟩ : ∃ Z, wr.heap.size = Z := ⟨_, rfl⟩
      rw [hZ] at T1 ⊢
      generalize wr.alloc (.cells (lP x).toArray 65) = v1 at T1 ⊢
      clear S hat hZ hg hcl hfz
      have c3 := T1.hs.cell 2 3 rfl rfl
      by_cases hrp : (k : Int) = t.rp
      · have hb : ((k : Int) == t.rp) = true := by simp [hrp]
        have HRP := Lib.hid hrp
        clear hrp
        have HO := fun W => Lib.hid (owes_is x W)
        have HR := fun W => Lib.hid (rise_row (owesP x) (riseP (owesP x)) (Lib.hid rfl) W)
        have hz := T1.hs.bk 0 rfl
        go_wp2_with (with_reducible refine wpList_load_row rfl 65 (.tmp 6) rfl Z (by kernel_rfl) _ _ (0, 0) _ hz Tryz.underlying65 rfl (by kernel_rfl) ?_)
        (with_reducible refine (HO _).out.mono ?_); rintro e v2 ⟨rfl, b2⟩
        have T2 := T1.below b2
        clear T1 c3 hz HO b2
        go_wp2_with fail
        (with_reducible refine (HR _).out.mono ?_); rintro e v3 ⟨rfl, b3⟩
        have T3 := T2.below b3
        clear T2 HR b3
        have hz := T3.hs.bk 0 rfl
        go_upto_region 13 with (refine wpList_store_row rfl 65 _ _ rfl Z _ rfl rfl _ _ hz (by kernel_rfl) (by kernel_rfl) (by kernel_rfl) ?_)
        have T4 := T3.row 0 rfl (lP (riseP (owesP x)))
        simp only [List.set] at T4
        generalize v3.setRow Z (lP (riseP (owesP x))).toArray = v4 at T4 ⊢
        clear T3 hz hb
        have hth := T4.there HM.out (riseP (owesP x))
        have c18 := T4.hs.cell 2 18 rfl rfl
        have hz := T4.hs.bk 0 rfl
        go_upto_region 14 with (first | (with_reducible refine wpList_load_row rfl 65 (.tmp 6) rfl Z (by kernel_rfl) _ _ (0, 0) _ hz Tryz.underlying65 rfl (by kernel_rfl) ?_) | (with_reducible refine wpList_store_mid rfl 65 (.tmp 45) _ rfl g (k * 15) (lP (riseP (owesP x))).toArray (by kernel_rfl) (by kernel_rfl) hth (by kernel_rfl) (by kernel_rfl) ?_))
        have T9 := T4.whole HM.out (riseP (owesP x))
        have hst : stP t k x = ((riseP (owesP x)), false) := by unfold stP; rw [if_pos HRP.out]
        have q : (mixL (fun j p => (stP t j p).1) k L).set k (riseP (owesP x)) = mixL (fun j p => (stP t j p).1) (k + 1) L := (congrArg (fun p : Po × Bool => (mixL (fun j p => (stP t j p).1) k L).set k p.1) hst.symm).trans (mixL_set (f := fun j p => (stP t j p).1) HX.out)
        rw [q] at T9
        have hl := lostB_step (t := t) HX.out
        rw [hst] at hl
        have HLL := Lib.hid hl
        have T8 := T9.tail
        clear hth c18 hz q hst hl T9 T4 HM
        generalize v4.setCells g (k * 15) (lP (riseP (owesP x))) = v9 at T8 ⊢
        obtain ⟨l, hl⟩ : ∃ l, lostB t L k = l := ⟨_, rfl⟩
        rw [hl] at HLL
        rw [hl]
        clear hl
        cases l with
        | false =>
          go_wp2
          go_roundw
          case rel => exact ⟨k + 1, by omega, by go_num, by rw [HLL.out]; rfl, T8⟩
          case measure => simp [intOf]; omega
        | true =>
          go_wp2
          go_roundw
          case rel => exact ⟨k + 1, by omega, by go_num, by rw [HLL.out]; rfl, T8⟩
          case measure => simp [intOf]; omega
      · have hb : ((k : Int) == t.rp) = false := by simp [hrp]
        have HRP := Lib.hid hrp
        clear hrp
        obtain ⟨d, hd⟩ : ∃ d, desB x t.ow = d := ⟨_, rfl⟩
        have HD := fun W => Lib.hid (desig_row x t.ow d (Lib.hid hd) W)
        have HDD := Lib.hid hd
        clear hd
        have hz := T1.hs.bk 0 rfl
        have c0 := T1.hs.cell 2 0 rfl rfl
        go_wp2_with (with_reducible refine wpList_load_row rfl 65 (.tmp 6) rfl Z (by kernel_rfl) _ _ (0, 0) _ hz Tryz.underlying65 rfl (by kernel_rfl) ?_)
        (with_reducible refine (HD _).out.mono ?_); rintro e v2 ⟨rfl, b2⟩
        have T2 := T1.below b2
        clear T1 c3 c0 hz HD b2
        cases d with
        | true =>
          have HR := fun W => Lib.hid (rise_row (restP x) (riseP (restP x)) (Lib.hid rfl) W)
          go_wp2_with fail
          (with_reducible refine (stop_is _).mono ?_); rintro e v3 ⟨rfl, b3⟩
          have T3 := T2.below b3
          clear T2 b3
          have z9 := T3.hs.cell 0 9 rfl rfl
          have z10 := T3.hs.cell 0 10 rfl rfl
          have f9 := T3.hs.thaw 0 9 rfl
          have f10 := T3.hs.thaw 0 10 rfl
          go_upto_region 12 with fail
          have T4 := (T3.set 0 rfl 9 (.bool false)).set 0 rfl 10 (.int .i64 0)
          simp only [List.set] at T4
          have T5 : TS w [(Z, 65, lP (restP x)), (Y, 31, [.int .u64 0, .int .u64 0, .int .u32 0, .int .i64 0, .int .i64 0, .int .i64 0, .int .i64 0, .int .i64 0, .int .i64 0, .int .i64 0, .bool false, .bool false, .bool false, .int .i64 0, .bool false, .int .i64 0, .bool false, .int .i64 0, .slice none 0 0]), (X, 31, lT t (some ⟨g, 0, none⟩) n cap')] (some ⟨g, 0, none⟩) (mixL (fun j p => (stP t j p).1) k L) _ := T4
          generalize (v3.setCell ⟨Z, 9, none⟩ (.bool false)).setCell ⟨Z, 10, none⟩ (.int .i64 0) = v4 at T5 ⊢
          clear T4 T3 z9 z10 f9 f10
          have hz := T5.hs.bk 0 rfl
          go_wp2_with (with_reducible refine wpList_load_row rfl 65 (.tmp 6) rfl Z (by kernel_rfl) _ _ (0, 0) _ hz Tryz.underlying65 rfl (by kernel_rfl) ?_)
          (with_reducible refine (HR _).out.mono ?_); rintro e v5 ⟨rfl, b5⟩
          have T6 := T5.below b5
          clear T5 HR b5 hz
          have hz := T6.hs.bk 0 rfl
          go_upto_region 13 with (refine wpList_store_row rfl 65 _ _ rfl Z _ rfl rfl _ _ hz (by kernel_rfl) (by kernel_rfl) (by kernel_rfl) ?_)
          have T7 := T6.row 0 rfl (lP (riseP (restP x)))
          simp only [List.set] at T7
          generalize v5.setRow Z (lP (riseP (restP x))).toArray = v6 at T7 ⊢
          clear T6 hz hb
          have hth := T7.there HM.out (riseP (restP x))
          have c18 := T7.hs.cell 2 18 rfl rfl
          have hz := T7.hs.bk 0 rfl
          go_upto_region 14 with (first | (with_reducible refine wpList_load_row rfl 65 (.tmp 6) rfl Z (by kernel_rfl) _ _ (0, 0) _ hz Tryz.underlying65 rfl (by kernel_rfl) ?_) | (with_reducible refine wpList_store_mid rfl 65 (.tmp 45) _ rfl g (k * 15) (lP (riseP (restP x))).toArray (by kernel_rfl) (by kernel_rfl) hth (by kernel_rfl) (by kernel_rfl) ?_))
          have T9 := T7.whole HM.out (riseP (restP x))
          have hst : stP t k x = ((riseP (restP x)), false) := by unfold stP; rw [if_neg HRP.out, if_pos HDD.out]
          have q : (mixL (fun j p => (stP t j p).1) k L).set k (riseP (restP x)) = mixL (fun j p => (stP t j p).1) (k + 1) L := (congrArg (fun p : Po × Bool => (mixL (fun j p => (stP t j p).1) k L).set k p.1) hst.symm).trans (mixL_set (f := fun j p => (stP t j p).1) HX.out)
          rw [q] at T9
          have hl := lostB_step (t := t) HX.out
          rw [hst] at hl
          have HLL := Lib.hid hl
          have T8 := T9.tail
          clear hth c18 hz q hst hl T9 T7 HM
          generalize v6.setCells g (k * 15) (lP (riseP (restP x))) = v9 at T8 ⊢
          obtain ⟨l, hl⟩ : ∃ l, lostB t L k = l := ⟨_, rfl⟩
          rw [hl] at HLL
          rw [hl]
          clear hl
          cases l with
          | false =>
            go_wp2
            go_roundw
            case rel => exact ⟨k + 1, by omega, by go_num, by rw [HLL.out]; rfl, T8⟩
            case measure => simp [intOf]; omega
          | true =>
            go_wp2
            go_roundw
            case rel => exact ⟨k + 1, by omega, by go_num, by rw [HLL.out]; rfl, T8⟩
            case measure => simp [intOf]; omega
        | false =>
          have HO := fun W => Lib.hid (owes_is x W)
          obtain ⟨y, bb, hyb⟩ : ∃ y bb, blockP (owesP x) = (y, bb) := ⟨_, _, rfl⟩
          have HB := fun W => Lib.hid (block_row (owesP x) y bb (Lib.hid hyb) W)
          have HYB := Lib.hid hyb
          clear hyb
          have hz := T2.hs.bk 0 rfl
          go_wp2_with (with_reducible refine wpList_load_row rfl 65 (.tmp 6) rfl Z (by kernel_rfl) _ _ (0, 0) _ hz Tryz.underlying65 rfl (by kernel_rfl) ?_)
          (with_reducible refine (HO _).out.mono ?_); rintro e v3 ⟨rfl, b3⟩
          have T3 := T2.below b3
          clear T2 hz HO b3
          go_wp2_with fail
          (with_reducible refine (HB _).out.mono ?_); rintro e v4 ⟨rfl, b4⟩
          have T4 := T3.below b4
          clear T3 HB b4
          have hz := T4.hs.bk 0 rfl
          go_upto_region 13 with (refine wpList_store_row rfl 65 _ _ rfl Z _ rfl rfl _ _ hz (by kernel_rfl) (by kernel_rfl) (by kernel_rfl) ?_)
          have T7 := T4.row 0 rfl (lP y)
          simp only [List.set] at T7
          generalize v4.setRow Z (lP y).toArray = v6 at T7 ⊢
          clear T4 hz hb
          have hth := T7.there HM.out y
          have c18 := T7.hs.cell 2 18 rfl rfl
          have hz := T7.hs.bk 0 rfl
          go_upto_region 14 with (first | (with_reducible refine wpList_load_row rfl 65 (.tmp 6) rfl Z (by kernel_rfl) _ _ (0, 0) _ hz Tryz.underlying65 rfl (by kernel_rfl) ?_) | (with_reducible refine wpList_store_mid rfl 65 (.tmp 45) _ rfl g (k * 15) (lP y).toArray (by kernel_rfl) (by kernel_rfl) hth (by kernel_rfl) (by kernel_rfl) ?_))
          have T9 := T7.whole HM.out y
          have hst : stP t k x = (y, bb) := by unfold stP; rw [if_neg HRP.out, if_neg (by rw [HDD.out]; decide)]; exact HYB.out
          have q : (mixL (fun j p => (stP t j p).1) k L).set k y = mixL (fun j p => (stP t j p).1) (k + 1) L := (congrArg (fun p : Po × Bool => (mixL (fun j p => (stP t j p).1) k L).set k p.1) hst.symm).trans (mixL_set (f := fun j p => (stP t j p).1) HX.out)
          rw [q] at T9
          have hl := lostB_step (t := t) HX.out
          rw [hst] at hl
          have HLL := Lib.hid hl
          have T8 := T9.tail
          clear hth c18 hz q hst hl T9 T7 HM
          generalize v6.setCells g (k * 15) (lP y) = v9 at T8 ⊢
          obtain ⟨l, hl⟩ : ∃ l, lostB t L k = l := ⟨_, rfl⟩
          rw [hl] at HLL
          rw [hl]
          clear hl
          cases l with
          | false =>
            go_wp2
            go_roundw
            case rel => exact ⟨k + 1, by omega, by go_num, by rw [HLL.out]; rfl, T8⟩
            case measure => simp [intOf]; omega
          | true =>
            go_wp2
            go_roundw
            case rel => exact ⟨k + 1, by omega, by go_num, by rw [HLL.out]; rfl, T8⟩
            case measure => simp [intOf]; omega
    · have hkz : ¬ (k : Int) < (n : Int) := by omega
      have hke : k = n := by omega
      subst hke
      rw [mixL_all (by rw [hL.out]; exact Nat.le_refl _)] at S
      have hx := S.hs.bk 1 rfl
      have hy := S.hs.bk 0 rfl
      obtain ⟨l, hl⟩ : ∃ l, lostB t L k = l := ⟨_, rfl⟩
      have HLL := Lib.hid hl
      rw [hl]
      clear hl
      go_wp2_with (first | (refine wpList_load_row rfl 31 _ rfl X rfl _ _ (0, 0) _ hx Tryz.underlying31 rfl (by kernel_rfl) ?_) | (refine wpList_store_row rfl 31 _ _ rfl Y _ rfl rfl _ _ hy (by kernel_rfl) (by kernel_rfl) (by kernel_rfl) ?_))
      exact bodyPost_ret (v := .tuple #[.agg (lT t D k cap').toArray, .bool l]) (results_two rfl _ _ Y _ _ _ _ rfl _ rfl (setRow_heap _ _ _ _ _ _ hy) Tryz.underlying31 rfl (by kernel_rfl)) rfl ⟨D, cap', by rw [HLL.out], HZ.out, (S.row 0 rfl (lT t D k cap')).nobox⟩

end Go.Proofs.YteplefdnnehdgaaGreatDoor
