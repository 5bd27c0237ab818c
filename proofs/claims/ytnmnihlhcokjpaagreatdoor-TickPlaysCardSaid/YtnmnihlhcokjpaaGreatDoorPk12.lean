/- Several texts in one, one behind the other: HeardState, TimerBase, TimerMem, TimerFire, TickPure, TickFr, TickTF, TickFires, TickTimers, TickRows. -/
import Derived.Test.YtnmnihlhcokjpaaGreatDoorPk09
import Derived.Test.YtnmnihlhcokjpaaGreatDoorPk11
import Derived.Test.YtnmnihlhcokjpaaGreatDoorPk01
import Derived.Shelf.Abstract
import Derived.Test.YtnmnihlhcokjpaaGreatDoorPk06
import Derived.Test.YtnmnihlhcokjpaaGreatDoorPk03

/- Boxes, ports and what goes out, while Outs grow. -/
namespace Go.Proofs.YtnmnihlhcokjpaaGreatDoor
set_option maxRecDepth 100000
open Go.ChangeShapes Go.WideShapes Go.ChangeAt Go.RowKit
set_option linter.unusedVariables false
set_option linter.unusedSimpArgs false

theorem TS.grownT {w wx wy : World} {l : List (Nat × TypeId × List Value)} {D : Option Addr} {L : List Po} {base n : Nat} {v : Value} {xs : List Value} (h : TS w l D L wx) (hown : wx.ownsRow base 83 5 v n xs) (gr : wx.grownBy wy v.ownBlock) (hl : ∀ y ∈ l, 83 ≠ y.2.1) (hB : w.heap.size ≤ base) : TS w l D L wy :=
  ⟨h.1.grownT hown gr hl hB, h.2.imp id fun ⟨g, r, e, s⟩ => ⟨g, r, e, s.grownT hown gr (fun y hy => by
    rcases List.mem_append.1 hy with q | q
    · exact hl y q
    · obtain rfl := List.mem_singleton.1 q
      dsimp only
      decide) hB⟩⟩
/-- A box of the call's own that is a view. -/
theorem OutsR.tree {w w' w0 : World} {base g : Nat} {v : Value} {M : List Ou} {l : List (Nat × TypeId × List Value)} (h : OutsR w base v M) (S : Hs w0 l w) (i : Nat) {cs : List Value} (hi : l[i]? = some (g, 31, cs)) (hh : ∀ k, k ≠ g → w'.heap[k]? = w.heap[k]?) : OutsR w' base v M :=
  h.but (S.1 i _ _ _ hi).1 (by decide) (by decide) hh
theorem OutsR.store {w w0 : World} {base g : Nat} {v : Value} {M : List Ou} {l : List (Nat × TypeId × List Value)} (h : OutsR w base v M) (S : Hs w0 l w) (i : Nat) {cs : List Value} (hi : l[i]? = some (g, 31, cs)) (cs' : Array Value) : OutsR (w.setRow g cs') base v M :=
  h.tree S i hi (fun k hk => setRow_other w g k _ hk)
theorem OutsR.port {w w' w0 : World} {base : Nat} {v : Value} {M : List Ou} {l : List (Nat × TypeId × List Value)} {g : Nat} {L : List Po} (h : OutsR w base v M) (S : TS w0 l (some ⟨g, 0, none⟩) L w) {k : Nat} {x : Po} (hx : L[k]? = some x) (hh : ∀ k, k ≠ g → w'.heap[k]? = w.heap[k]?) : OutsR w' base v M := by
  obtain ⟨cs, hb⟩ := S.port_block hx
  exact h.but hb (by decide) (by decide) hh
theorem nb_det {t : Th} (h : (-9223372036854775808 ≤ t.n1 ∧ t.n1 ≤ 9223372036854775807 ∧ -9223372036854775808 ≤ t.n2 ∧ t.n2 ≤ 9223372036854775807 ∧ -9223372036854775808 ≤ t.n3 ∧ t.n3 ≤ 9223372036854775807)) : (show Prop from (-9223372036854775808 ≤ (detT t).n1 ∧ (detT t).n1 ≤ 9223372036854775807 ∧ -9223372036854775808 ≤ (detT t).n2 ∧ (detT t).n2 ≤ 9223372036854775807 ∧ -9223372036854775808 ≤ (detT t).n3 ∧ (detT t).n3 ≤ 9223372036854775807)) := by unfold detT; split; exact h; split; exact h; exact h
theorem det_bd {t : Th} (h : ThB t) : ThB (detT t) := by unfold detT; split; exact h; split; exact h; exact h
theorem det_few (t : Th) (n : Nat) : (detO t n).length ≤ 1 := by
  unfold detO tcnR
  split
  · simp
  · split
    · simp
    · split <;> simp
theorem tcn_few (t : Th) (n : Nat) : (tcnR t n).length ≤ 1 := by
  unfold tcnR
  split <;> simp
theorem settle_few (t : Th) (L : List Po) : (settleR t L).2.length ≤ 1 := by
  unfold settleR
  split
  · exact det_few _ _
  · simp
theorem sel_nb {t : Th} {L : List Po} (h : (-9223372036854775808 ≤ t.n1 ∧ t.n1 ≤ 9223372036854775807 ∧ -9223372036854775808 ≤ t.n2 ∧ t.n2 ≤ 9223372036854775807 ∧ -9223372036854775808 ≤ t.n3 ∧ t.n3 ≤ 9223372036854775807)) : (show Prop from (-9223372036854775808 ≤ (selectT t L).n1 ∧ (selectT t L).n1 ≤ 9223372036854775807 ∧ -9223372036854775808 ≤ (selectT t L).n2 ∧ (selectT t L).n2 ≤ 9223372036854775807 ∧ -9223372036854775808 ≤ (selectT t L).n3 ∧ (selectT t L).n3 ≤ 9223372036854775807)) := by
  rcases sel_cases t L with ⟨_, e, _⟩ | ⟨j, p, hj, hbj, e, _⟩ <;> rw [e] <;> exact h
theorem settle_nb {t : Th} {L : List Po} (h : (-9223372036854775808 ≤ t.n1 ∧ t.n1 ≤ 9223372036854775807 ∧ -9223372036854775808 ≤ t.n2 ∧ t.n2 ≤ 9223372036854775807 ∧ -9223372036854775808 ≤ t.n3 ∧ t.n3 ≤ 9223372036854775807)) : (show Prop from (-9223372036854775808 ≤ (settleR t L).1.1.n1 ∧ (settleR t L).1.1.n1 ≤ 9223372036854775807 ∧ -9223372036854775808 ≤ (settleR t L).1.1.n2 ∧ (settleR t L).1.1.n2 ≤ 9223372036854775807 ∧ -9223372036854775808 ≤ (settleR t L).1.1.n3 ∧ (settleR t L).1.1.n3 ≤ 9223372036854775807)) := by
  unfold settleR
  split
  · exact nb_det (sel_nb h)
  · exact sel_nb h
theorem settle_pb {t : Th} {L : List Po} (h : ∀ x ∈ L, PoB x) (ht : ThB (selectT t L)) : ∀ x ∈ (settleR t L).1.2, PoB x := by
  intro y hy
  obtain ⟨k, hk, e⟩ := List.getElem_of_mem hy
  obtain ⟨x, hx, rfl⟩ := settle_at (show (settleR t L).1.2[k]? = some y by rw [List.getElem?_eq_getElem hk, e])
  have hb := h x (List.mem_of_getElem? hx)
  have h1 : PoB (desP (selectT t L) x) := by
    unfold desP
    split
    · unfold PoB ThB becomeP at *
      try dsimp only at *
      omega
    · exact hb
  revert h1
  generalize desP (selectT t L) x = z
  intro h1
  unfold stP
  split
  · unfold riseP owesP
    split <;> (unfold PoB at *; try dsimp only at *; omega)
  · split
    · unfold riseP restP
      split <;> (unfold PoB at *; try dsimp only at *; omega)
    · unfold blockP owesP
      split <;> (unfold PoB at *; try dsimp only at *; omega)
theorem settle_n {t : Th} {L : List Po} {n : Nat} (h : L.length = n) : (settleR t L).1.2.length = n := by
  rw [settle_ports]
  unfold statesL desL
  rw [allL_len, allL_len]
  exact h
theorem late_few (r : Bool) (t : Th) (n : Nat) : (lateO r t n).length ≤ 1 := by
  unfold lateO
  split
  · split
    · exact tcn_few _ _
    · simp
  · simp
theorem set_len {L : List Po} {k n : Nat} {y : Po} (h : L.length = n) : (L.set k y).length = n := by rw [List.length_set]; exact h
theorem set_bd {L : List Po} {k : Nat} {y : Po} (h : ∀ x ∈ L, PoB x) (hy : PoB y) : ∀ x ∈ L.set k y, PoB x := fun z hz => by
  rcases List.mem_or_eq_of_mem_set hz with q | rfl
  · exact h z q
  · exact hy
theorem late_bd {r : Bool} {t : Th} (h : ThB t) : ThB (lateT r t) := by
  unfold lateT
  split
  · split <;> exact h
  · exact h
theorem late_nb {r : Bool} {t : Th} (h : (-9223372036854775808 ≤ t.n1 ∧ t.n1 ≤ 9223372036854775807 ∧ -9223372036854775808 ≤ t.n2 ∧ t.n2 ≤ 9223372036854775807 ∧ -9223372036854775808 ≤ t.n3 ∧ t.n3 ≤ 9223372036854775807)) : (show Prop from (-9223372036854775808 ≤ (lateT r t).n1 ∧ (lateT r t).n1 ≤ 9223372036854775807 ∧ -9223372036854775808 ≤ (lateT r t).n2 ∧ (lateT r t).n2 ≤ 9223372036854775807 ∧ -9223372036854775808 ≤ (lateT r t).n3 ∧ (lateT r t).n3 ≤ 9223372036854775807)) := by
  unfold lateT
  split
  · split <;> exact h
  · exact h


end Go.Proofs.YtnmnihlhcokjpaaGreatDoor

/- Timers: contracts of Tick and Over (parted from Start and Stop). -/
namespace Go.Proofs.YtnmnihlhcokjpaaGreatDoor
set_option maxRecDepth 100000
open Go.ChangeShapes Go.WideShapes Go.ChangeAt Go.RowKit
set_option linter.unusedVariables false

theorem tick_on (v : Int) (h0 : 0 ≤ v) (h1 : v ≤ 1073741824) (w : World) :
    Calls Tryz.prog 108 #[.agg #[.bool true, .int .i64 v]] w (TEnd w true (laterI v)) := by
  obtain ⟨s, hs⟩ : ∃ s, laterI v = s := ⟨_, rfl⟩
  have hss : min v 1073741568 + 256 = s := hs
  have sb := laterI_bd v h0
  rw [hs] at sb ⊢
  clear hs
  go_enter Tryz.func108, Tryz.ntmps108
  go_wp2
  exact bodyPost_ret (v := .agg #[.bool true, .int .i64 s]) (by simp [results, Tryz.results108, go_sem]) rfl ⟨rfl, ((Below.refl _ _).alloc (Nat.le_refl _) _).alloc (by simp) _⟩

theorem tick_off (v : Int) (h0 : 0 ≤ v) (h1 : v ≤ 1073741824) (w : World) :
    Calls Tryz.prog 108 #[.agg #[.bool false, .int .i64 v]] w (TEnd w false v) := by
  go_enter Tryz.func108, Tryz.ntmps108
  go_wp2
  exact bodyPost_ret (v := .agg #[.bool false, .int .i64 v]) (by simp [results, Tryz.results108, go_sem]) rfl ⟨rfl, ((Below.refl _ _).alloc (Nat.le_refl _) _).alloc (by simp) _⟩

theorem over_is (o : Bool) (v l : Int) (h0 : 0 ≤ v) (h1 : v ≤ 1073741824) (k0 : -9223372036854775808 ≤ l) (k1 : l ≤ 9223372036854775807) (r : Bool) (hr : Hid ((o && decide (l ≤ v)) = r)) (w : World) :
    Calls Tryz.prog 109 #[.agg #[.bool o, .int .i64 v], .int .i64 l] w fun e w' => e = .returned (.bool r) ∧ Below w.heap.size w w' := by
  cases o with
  | true =>
    go_enter Tryz.func109, Tryz.ntmps109
    go_wp2
    go_ret
    exact ⟨ret_bool (by simpa using hr.out), ((Below.refl _ _).alloc (Nat.le_refl _) _)⟩
  | false =>
    go_enter Tryz.func109, Tryz.ntmps109
    go_wp2
    go_ret
    exact ⟨ret_bool (by simpa using hr.out), ((Below.refl _ _).alloc (Nat.le_refl _) _)⟩

end Go.Proofs.YtnmnihlhcokjpaaGreatDoor

/- A timer in a block of its own. -/
namespace Go.Proofs.YtnmnihlhcokjpaaGreatDoor
set_option maxRecDepth 100000
open Go.ChangeShapes Go.WideShapes Go.ChangeAt Go.RowKit
set_option linter.unusedVariables false

/-- A timer in a block of its own. -/
def TM (w : World) (g : Nat) (o : Bool) (v : Int) : Prop := Bk w g 28 [.bool o, .int .i64 v]

theorem TM.new (w : World) (o : Bool) (v : Int) : TM (w.alloc (.cells #[.bool o, .int .i64 v] 28)) w.heap.size o v := heap_alloc_new w _
theorem TM.lt {w : World} {g : Nat} {o : Bool} {v : Int} (h : TM w g o v) : g < w.heap.size := Bk.lt h
theorem TM.below {w w' : World} {g B : Nat} {o : Bool} {v : Int} (h : TM w g o v) (hb : Below B w w') (hg : g < B) : TM w' g o v := Bk.below h hb hg
theorem TM.alloc {w : World} {g : Nat} {o : Bool} {v : Int} (h : TM w g o v) (x : Obj) : TM (w.alloc x) g o v := h.below ((Below.refl w.heap.size w).alloc (Nat.le_refl _) x) h.lt
theorem TM.drew {w : World} {g : Nat} {o : Bool} {v : Int} (h : TM w g o v) : TM w.drew g o v := h
theorem TM.cells {w : World} {g : Nat} {o : Bool} {v : Int} (h : TM w g o v) :
    w.cell? ⟨g, 0, none⟩ = some (.bool o) ∧ w.cell? ⟨g, 1, none⟩ = some (.int .i64 v) ∧ w.frozen? ⟨g, 0, none⟩ = false ∧ w.frozen? ⟨g, 1, none⟩ = false :=
  ⟨Bk.cell h 0, Bk.cell h 1, Bk.thaw h 0, Bk.thaw h 1⟩
theorem TM.set {w : World} {g : Nat} {o : Bool} {v : Int} (h : TM w g o v) (o' : Bool) (v' : Int) :
    TM ((w.setCell ⟨g, 0, none⟩ (.bool o')).setCell ⟨g, 1, none⟩ (.int .i64 v')) g o' v' := (Bk.set (Bk.set h 0 (.bool o')) 1 (.int .i64 v'))

end Go.Proofs.YtnmnihlhcokjpaaGreatDoor

/- Fire; the document's Start, Tick and Fire; the law's 'is' and its example. -/
namespace Go.Proofs.YtnmnihlhcokjpaaGreatDoor
set_option maxRecDepth 100000
open Go.ChangeShapes Go.WideShapes Go.ChangeAt Go.RowKit
set_option linter.unusedVariables false

/-- What one calls that answers a timer, and whether it ran out. -/
def FEnd (W : World) (o : Bool) (v : Int) (x : Bool) (e : Ending) (W' : World) : Prop :=
  e = .returned (.tuple #[.agg #[.bool o, .int .i64 v], .bool x]) ∧ Below W.heap.size W W'

set_option maxHeartbeats 1000000 in
theorem fire_out (v l : Int) (h0 : 0 ≤ v) (h1 : v ≤ 1073741824) (k0 : -9223372036854775808 ≤ l) (k1 : l ≤ 9223372036854775807) (h : Hid (l ≤ laterI v)) (w : World) :
    Calls Tryz.prog 85 #[.agg #[.bool true, .int .i64 v], .int .i64 l] w (FEnd w false 0 true) := by
  have sb := laterI_bd v h0
  have hr : Hid ((true && decide (l ≤ laterI v)) = true) := by rw [Hid]; simpa using h.out
  go_enter Tryz.func85, Tryz.ntmps85
  go_wp2_with fail
  (with_reducible refine (tick_on v h0 h1 _).mono ?_); rintro e w1 ⟨rfl, b1⟩
  have z1 := b1.size
  simp at z1
  have t1 : TM w1 (w.heap.size + 1) false 0 := TM.below (B := w.heap.size + 2) (by have := TM.new (w.alloc (Obj.cells #[Value.bool true, Value.int IntKind.i64 v] 28)) false 0; simpa using this) (by simpa using b1) (by omega)
  have B1 : Below w.heap.size w w1 := (((Below.refl w.heap.size w).alloc (Nat.le_refl _) _).alloc (by simp) _).trans (b1.mono (by simp; omega))
  clear b1
  go_wp2_with fail
  (with_reducible refine (over_is true (laterI v) l (by omega) sb.2 k0 k1 true hr _).mono ?_); rintro e w2 ⟨rfl, b2⟩
  have z2 := b2.size
  simp at z2
  have t2 : TM w2 (w.heap.size + 1) false 0 := (t1.alloc _).below b2 (by simp; omega)
  have B2 : Below w.heap.size w w2 := (B1.alloc (by omega) _).trans (b2.mono (by simp; omega))
  clear b2 B1 t1
  go_wp2_with fail
  (with_reducible refine (stop_is _).mono ?_); rintro e w3 ⟨rfl, b3⟩
  have z3 := b3.size
  have t3 := t2.below b3 (by omega)
  have B3 : Below w.heap.size w w3 := B2.trans (b3.mono (by omega))
  obtain ⟨c0, c1, f0, f1⟩ := t3.cells
  clear b3 B2 t2
  go_wp2
  exact bodyPost_ret (v := .tuple #[.agg #[.bool false, .int .i64 0], .bool true]) (by simp [results, Tryz.results85, go_sem, c0, c1]) rfl ⟨rfl, (B3.setCell (by simp) _).setCell (by simp) _⟩

theorem tick_any (o : Bool) (v : Int) (h0 : 0 ≤ v) (h1 : v ≤ 1073741824) (w : World) :
    Calls Tryz.prog 108 #[.agg #[.bool o, .int .i64 v]] w (TEnd w o (if o then laterI v else v)) := by
  cases o with
  | true => exact tick_on v h0 h1 w
  | false => exact tick_off v h0 h1 w

set_option maxHeartbeats 1000000 in
theorem fire_stays (o : Bool) (v u l : Int) (h0 : 0 ≤ v) (h1 : v ≤ 1073741824) (k0 : -9223372036854775808 ≤ l) (k1 : l ≤ 9223372036854775807) (hu : Hid ((if o then laterI v else v) = u)) (h : Hid ((o && decide (l ≤ u)) = false)) (w : World) :
    Calls Tryz.prog 85 #[.agg #[.bool o, .int .i64 v], .int .i64 l] w (FEnd w o u false) := by
  have sb := laterI_bd v h0
  have ub : 0 ≤ u ∧ u ≤ 1073741824 := by
    rw [← hu.out]
    cases o
    · exact ⟨h0, h1⟩
    · exact ⟨by simpa using (by omega), by simpa using sb.2⟩
  have HT := fun W => Lib.hid (tick_any o v h0 h1 W)
  rw [hu.out] at HT
  clear hu
  go_enter Tryz.func85, Tryz.ntmps85
  go_wp2_with fail
  (with_reducible refine (HT _).out.mono ?_); rintro e w1 ⟨rfl, b1⟩
  have z1 := b1.size
  simp at z1
  have t1 : TM w1 (w.heap.size + 1) false 0 := TM.below (B := w.heap.size + 2) (by have := TM.new (w.alloc (Obj.cells #[Value.bool o, Value.int IntKind.i64 v] 28)) false 0; simpa using this) (by simpa using b1) (by omega)
  have B1 : Below w.heap.size w w1 := (((Below.refl w.heap.size w).alloc (Nat.le_refl _) _).alloc (by simp) _).trans (b1.mono (by simp; omega))
  clear b1 HT
  go_wp2_with fail
  (with_reducible refine (over_is o u l ub.1 ub.2 k0 k1 false h _).mono ?_); rintro e w2 ⟨rfl, b2⟩
  have z2 := b2.size
  simp at z2
  have t2 : TM w2 (w.heap.size + 1) false 0 := (t1.alloc _).below b2 (by simp; omega)
  have t3 : TM w2 w1.heap.size o u := (TM.new w1 o u).below b2 (by simp)
  have B2 : Below w.heap.size w w2 := (B1.alloc (by omega) _).trans (b2.mono (by simp; omega))
  obtain ⟨c0, c1, f0, f1⟩ := t2.cells
  obtain ⟨d0, d1, e0, e1⟩ := t3.cells
  clear b2 B1 t1 t2 t3
  go_wp2
  exact bodyPost_ret (v := .tuple #[.agg #[.bool o, .int .i64 u], .bool false]) (by simp [results, Tryz.results85, go_sem, c0, c1]) rfl ⟨rfl, (B2.setCell (by simp) _).setCell (by simp) _⟩

/-- Fire, of whatever timer. -/
def firO (o : Bool) (v l : Int) : (Bool × Int) × Bool :=
  if o then (if l ≤ laterI v then ((false, 0), true) else ((true, laterI v), false)) else ((false, v), false)

theorem firO_bd (o : Bool) (v l : Int) (h0 : 0 ≤ v) (h1 : v ≤ 1073741824) : 0 ≤ (firO o v l).1.2 ∧ (firO o v l).1.2 ≤ 1073741824 := by
  have sb := laterI_bd v h0
  unfold firO
  split
  · split
    · exact ⟨by decide, (by decide : (0 : Int) ≤ 1073741824)⟩
    · exact ⟨by show 0 ≤ laterI v; omega, sb.2⟩
  · exact ⟨h0, h1⟩

theorem fire_is (o : Bool) (v l : Int) (h0 : 0 ≤ v) (h1 : v ≤ 1073741824) (k0 : -9223372036854775808 ≤ l) (k1 : l ≤ 9223372036854775807) (q : Bool) (u : Int) (x : Bool) (hr : Hid (firO o v l = ((q, u), x))) (w : World) :
    Calls Tryz.prog 85 #[.agg #[.bool o, .int .i64 v], .int .i64 l] w (FEnd w q u x) := by
  have hr := hr.out
  unfold firO at hr
  cases o with
  | true =>
    by_cases h : l ≤ laterI v
    · simp [h] at hr
      obtain ⟨⟨rfl, rfl⟩, rfl⟩ := hr
      exact fire_out v l h0 h1 k0 k1 (Lib.hid h) w
    · simp [h] at hr
      obtain ⟨⟨rfl, rfl⟩, rfl⟩ := hr
      exact fire_stays true v (laterI v) l h0 h1 k0 k1 (Lib.hid rfl) (Lib.hid (by simp; omega)) w
  | false =>
    simp at hr
    obtain ⟨⟨rfl, rfl⟩, rfl⟩ := hr
    exact fire_stays false v v l h0 h1 k0 k1 (Lib.hid rfl) (Lib.hid rfl) w

/-- The document's answers, of a number. -/
def rtick (n : Int) : Int := if n < 0 then n else startI (n + 256)
def rfire (n l : Int) : Int × Int := if 0 ≤ rtick n ∧ l ≤ rtick n then (-1, 1) else (rtick n, 0)

theorem rstart_is (n : Int) (h0 : -9223372036854775808 ≤ n) (h1 : n ≤ 9223372036854775807) (w : World) :
    Calls Tryz.prog 113 #[.int .i64 n] w fun e w' => e = .returned (.int .i64 (startI n)) ∧ w = w' := by
  go_enter Tryz.func113, Tryz.ntmps113
  go_wp2
  all_goals go_ret
  all_goals exact ⟨ret_int (by unfold startI; omega), rfl⟩

theorem rtick_bd (n : Int) (h0 : -1 ≤ n) : -1 ≤ rtick n ∧ rtick n ≤ 1073741824 := by
  have := startI_bd (n + 256)
  unfold rtick
  split <;> omega

theorem rtick_is (n : Int) (h0 : -1 ≤ n) (h1 : n ≤ 1073741824) (w : World) :
    Calls Tryz.prog 87 #[.int .i64 n] w fun e w' => e = .returned (.int .i64 (rtick n)) ∧ w = w' := by
  by_cases h : n < 0
  · have e : rtick n = n := by unfold rtick; rw [if_pos h]
    rw [e]
    go_enter Tryz.func87, Tryz.ntmps87
    go_wp2
    go_ret
    exact ⟨rfl, rfl⟩
  · have e : rtick n = startI (n + 256) := by unfold rtick; rw [if_neg h]
    rw [e]
    go_enter Tryz.func87, Tryz.ntmps87
    go_wp2_with (go_at_call 113; (with_reducible refine (rstart_is _ (by omega) (by omega) _).mono ?_); rintro e w' ⟨rfl, rfl⟩)
    go_ret
    exact ⟨rfl, rfl⟩

theorem rfire_is (n l : Int) (h0 : -1 ≤ n) (h1 : n ≤ 1073741824) (k0 : -9223372036854775808 ≤ l) (k1 : l ≤ 9223372036854775807) (m x : Int) (hr : Hid (rfire n l = (m, x))) (w : World) :
    Calls Tryz.prog 57 #[.int .i64 n, .int .i64 l] w fun e w' => e = .returned (.tuple #[.int .i64 m, .int .i64 x]) ∧ w = w' := by
  obtain ⟨t, ht⟩ : ∃ t, rtick n = t := ⟨_, rfl⟩
  have tb := rtick_bd n h0
  have HT := fun W => Lib.hid (rtick_is n h0 h1 W)
  rw [ht] at tb HT
  have hr2 := hr.out
  unfold rfire at hr2
  rw [ht] at hr2
  clear hr ht
  by_cases c0 : 0 ≤ t
  · by_cases c1 : l ≤ t
    · rw [if_pos ⟨c0, c1⟩] at hr2
      cases hr2
      go_enter Tryz.func57, Tryz.ntmps57
      go_wp2_with (go_at_call 87; (with_reducible refine (HT _).out.mono ?_); rintro e w' ⟨rfl, rfl⟩)
      exact bodyPost_ret (v := .tuple #[.int .i64 (-1), .int .i64 1]) (by simp [results, Tryz.results57, go_sem]) rfl ⟨rfl, rfl⟩
    · rw [if_neg (by omega)] at hr2
      cases hr2
      go_enter Tryz.func57, Tryz.ntmps57
      go_wp2_with (go_at_call 87; (with_reducible refine (HT _).out.mono ?_); rintro e w' ⟨rfl, rfl⟩)
      exact bodyPost_ret (v := .tuple #[.int .i64 m, .int .i64 0]) (by simp [results, Tryz.results57, go_sem]) rfl ⟨rfl, rfl⟩
  · rw [if_neg (by omega)] at hr2
    cases hr2
    go_enter Tryz.func57, Tryz.ntmps57
    go_wp2_with (go_at_call 87; (with_reducible refine (HT _).out.mono ?_); rintro e w' ⟨rfl, rfl⟩)
    exact bodyPost_ret (v := .tuple #[.int .i64 m, .int .i64 0]) (by simp [results, Tryz.results57, go_sem]) rfl ⟨rfl, rfl⟩

/-- Is a timer what a number tells? -/
def isB (o : Bool) (v n : Int) : Bool := if n < 0 then (!o && decide (v = 0)) else (o && decide (v = n))

end Go.Proofs.YtnmnihlhcokjpaaGreatDoor

/- What a bridge does when a second is over, as a function of the view and its ports: no program. -/
namespace Go.Proofs.YtnmnihlhcokjpaaGreatDoor
set_option maxRecDepth 100000
open Go.ChangeShapes Go.WideShapes Go.ChangeAt Go.RowKit
set_option linter.unusedVariables false

/-- A view, its ports, and what goes out. -/
abbrev Tk := (Th × List Po) × List Ou
/-- The view's timers, and a port's, a second later. -/
def tkT (t : Th) : Th := { t with ho := (firO t.ho t.hv t.n2).1.1, hv := (firO t.ho t.hv t.n2).1.2, xo := (firO t.xo t.xv t.m2).1.1, xv := (firO t.xo t.xv t.m2).1.2, zo := (firO t.zo t.zv (t.m1 + t.m3)).1.1, zv := (firO t.zo t.zv (t.m1 + t.m3)).1.2 }
def tkP (t : Th) (p : Po) : Po := { p with yo := (firO p.yo p.yv t.n3).1.1, yv := (firO p.yo p.yv t.n3).1.2, ao := (firO p.ao p.av t.n1).1.1, av := (firO p.ao p.av t.n1).1.2, ho := (firO p.ho p.hv 256).1.1, hv := (firO p.ho p.hv 256).1.2 }
/-- What ran out. -/
def hellB (t : Th) : Bool := (firO t.ho t.hv t.n2).2
def tcnB' (t : Th) : Bool := (firO t.xo t.xv t.m2).2
def toldB (t : Th) : Bool := (firO t.zo t.zv (t.m1 + t.m3)).2
def flagB (f : Po → Bool) (L : List Po) (k : Nat) : Bool := match L[k]? with | some p => f p | none => false
def delB (t : Th) (p : Po) : Bool := (firO p.yo p.yv t.n3).2
def agB (t : Th) (p : Po) : Bool := (firO p.ao p.av t.n1).2
def holB (p : Po) : Bool := (firO p.ho p.hv 256).2
/-- The steps. -/
def helloS (b : Bool) (s : Th × List Po) : Tk := if b = true then (({ s.1 with ho := true, hv := 0 }, (allR s.1 s.2 s.2.length).1), (allR s.1 s.2 s.2.length).2) else (s, [])
def tcnS (b : Bool) (s : Tk) : Tk := if b = true then (({ s.1.1 with xo := true, xv := 0 }, s.1.2), s.2 ++ tcnR s.1.1 s.1.2.length) else s
def toldS (b : Bool) (s : Tk) : Tk := if b = true then (({ s.1.1 with de := false, ch := false }, s.1.2), s.2) else s
/-- Some port holds a telling of Own. -/
def tellsL (o : Int) : Nat → List Po → Bool
  | 0, _ => false
  | k + 1, L => tellsL o k L || (match L[k]? with | some p => decide (p.hb = o) | none => false)
def delayS (s : Tk) (i : Nat) : Tk := match s.1.2[i]? with
  | none => s
  | some p => if (nextP p).2 = true ∧ tellsL s.1.1.ow (s.1.2.set i (nextP p).1).length (s.1.2.set i (nextP p).1) = true then ((detT s.1.1, s.1.2.set i (nextP p).1), s.2 ++ detO s.1.1 s.1.2.length) else ((s.1.1, s.1.2.set i (nextP p).1), s.2)
/-- It leads from now on. -/
def leadT (t : Th) : Th := { detT { t with n1 := t.m1, n2 := t.m2, n3 := t.m3 } with xo := false, xv := 0 }
def leadS (s : Tk) : Tk := (({ leadT s.1.1 with ho := true, hv := 0 }, (allR (leadT s.1.1) s.1.2 s.1.2.length).1), s.2 ++ (allR (leadT s.1.1) s.1.2 s.1.2.length).2)
def ageS (s : Tk) (i : Nat) : Tk := match s.1.2[i]? with
  | none => s
  | some p =>
    let r := settleR s.1.1 (s.1.2.set i (becomeP s.1.1 p))
    if s.1.1.ro ≠ s.1.1.ow ∧ r.1.1.ro = r.1.1.ow then leadS (r.1, s.2 ++ r.2) else (r.1, s.2 ++ r.2)
def holdS (s : Tk) (i : Nat) : Tk := match s.1.2[i]? with
  | none => s
  | some p => if p.pe = true then ((s.1.1, (confR s.1.1 s.1.2 i).1), s.2 ++ (confR s.1.1 s.1.2 i).2) else s
/-- Port by port, for those that ran out. -/
def foldS (f : Tk → Nat → Tk) (fl : Nat → Bool) : Nat → Tk → Tk
  | 0, s => s
  | k + 1, s => if fl k = true then f (foldS f fl k s) k else foldS f fl k s
/-- A second is over. -/
def tick1 (t : Th) (L : List Po) : Tk := toldS (toldB t) (tcnS (tcnB' t) (helloS (hellB t) (tkT t, L.map (tkP t))))
def tickR (t : Th) (L : List Po) : Tk :=
  foldS holdS (flagB holB L) L.length (foldS ageS (flagB (agB t) L) L.length (foldS delayS (flagB (delB t) L) L.length (tick1 t L)))

/-- The times stay, or are Mine. -/
def Tms (u t : Th) : Prop := u.n1 = t.n1 ∧ u.n2 = t.n2 ∧ u.n3 = t.n3 ∧ u.m1 = t.m1 ∧ u.m2 = t.m2 ∧ u.m3 = t.m3
theorem Tms.refl (t : Th) : Tms t t := ⟨rfl, rfl, rfl, rfl, rfl, rfl⟩
theorem Tms.trans {a b c : Th} (h : Tms a b) (k : Tms b c) : Tms a c := ⟨h.1.trans k.1, h.2.1.trans k.2.1, h.2.2.1.trans k.2.2.1, h.2.2.2.1.trans k.2.2.2.1, h.2.2.2.2.1.trans k.2.2.2.2.1, h.2.2.2.2.2.trans k.2.2.2.2.2⟩
theorem det_tms (t : Th) : Tms (detT t) t := by
  unfold detT
  split
  · exact Tms.refl _
  · split <;> exact Tms.refl _
theorem sel_tms (t : Th) (L : List Po) : Tms (selectT t L) t := by
  rcases sel_cases t L with ⟨_, e, _⟩ | ⟨j, p, hj, hbj, e, _⟩ <;> rw [e] <;> exact Tms.refl _
theorem settle_tms (t : Th) (L : List Po) : Tms (settleR t L).1.1 t := by
  unfold settleR
  split
  · exact (det_tms _).trans (sel_tms _ _)
  · exact sel_tms _ _
/-- Times such as there are. -/
def TkF (t : Th) : Prop := (0 ≤ t.n1 ∧ t.n1 ≤ 65535) ∧ (0 ≤ t.n2 ∧ t.n2 ≤ 65535) ∧ (0 ≤ t.n3 ∧ t.n3 ≤ 65535) ∧ (0 ≤ t.m1 ∧ t.m1 ≤ 65535) ∧ (0 ≤ t.m2 ∧ t.m2 ≤ 65535) ∧ (0 ≤ t.m3 ∧ t.m3 ≤ 65535)
theorem TkF.nb {t : Th} (h : TkF t) : (-9223372036854775808 ≤ t.n1 ∧ t.n1 ≤ 9223372036854775807 ∧ -9223372036854775808 ≤ t.n2 ∧ t.n2 ≤ 9223372036854775807 ∧ -9223372036854775808 ≤ t.n3 ∧ t.n3 ≤ 9223372036854775807) := by
  unfold TkF at h
  omega
theorem TkF.tms {u t : Th} (h : TkF t) (k : Tms u t) : TkF u := by
  obtain ⟨k1, k2, k3, k4, k5, k6⟩ := k
  unfold TkF at *
  rw [k1, k2, k3, k4, k5, k6]
  exact h
/-- Timers such as there are. -/
def TmFit (o : Bool) (v : Int) : Prop := 0 ≤ v ∧ v ≤ 1073741824 ∧ (o = true ∨ v = 0)
def ThTm (t : Th) : Prop := TmFit t.ho t.hv ∧ TmFit t.xo t.xv ∧ TmFit t.zo t.zv
def PoTm (p : Po) : Prop := TmFit p.yo p.yv ∧ TmFit p.ao p.av ∧ TmFit p.ho p.hv
/-- What every step keeps. -/
def TkB (s : Th × List Po) (n : Nat) : Prop := ThB s.1 ∧ TkF s.1 ∧ (∀ z ∈ s.2, PoB z) ∧ s.2.length = n ∧ Unlike s.2
theorem unlike_alike {L M : List Po} (hU : Unlike L) (h : Alike (fun p q => p.id = q.id) M L) : Unlike M := by
  intro i j a b ha hb hn
  obtain ⟨a', h1, e1⟩ := h.get ha
  obtain ⟨b', h2, e2⟩ := h.get hb
  rw [e1, e2]
  exact hU i j a' b' h1 h2 hn
section
variable {n : Nat}
theorem TkB.view {t u : Th} {L : List Po} (h : TkB (t, L) n) (ht : ThB u) (hf : TkF u) : TkB (u, L) n := ⟨ht, hf, h.2.2⟩
theorem TkB.all {t u : Th} {L : List Po} (h : TkB (u, L) n) (k : Nat) : TkB (u, (allR t L k).1) n := by
  obtain ⟨h1, h2, h3, h4, h5⟩ := h
  have ha := allR_bd (t := t) h3 k
  exact ⟨h1, h2, ha.2.2, ha.1.trans h4, unlike_alike h5 ((full_all t L k).map (fun _ _ q => q.2.1))⟩
theorem TkB.conf {t u : Th} {L : List Po} (h : TkB (u, L) n) (i : Int) : TkB (u, (confR t L i).1) n := by
  obtain ⟨h1, h2, h3, h4, h5⟩ := h
  exact ⟨h1, h2, confR_bd h3 i, (confR_len _ _ _).trans h4, unlike_alike h5 ((full_conf t L i).map (fun _ _ q => q.2.1))⟩
theorem TkB.put {t : Th} {L : List Po} (h : TkB (t, L) n) {i : Nat} {p y : Po} (hp : L[i]? = some p) (hy : PoB y) (hid : y.id = p.id) : TkB (t, L.set i y) n := by
  obtain ⟨h1, h2, h3, h4, h5⟩ := h
  exact ⟨h1, h2, set_bd h3 hy, (List.length_set).trans h4, unlike_set h5 hp hid⟩
theorem next_bd {p : Po} (h : PoB p) : PoB (nextP p).1 ∧ (nextP p).1.id = p.id := by
  unfold nextP
  split
  · exact ⟨by unfold PoB at *; try dsimp only at *; omega, rfl⟩
  · split
    · exact ⟨by unfold PoB at *; try dsimp only at *; omega, rfl⟩
    · exact ⟨h, rfl⟩
theorem become_bd {t : Th} {p : Po} (ht : ThB t) (h : PoB p) : PoB (becomeP t p) ∧ (becomeP t p).id = p.id := by
  refine ⟨?_, rfl⟩
  unfold becomeP
  unfold PoB ThB at *
  try dsimp only at *
  omega
theorem TkB.delay {s : Tk} (h : TkB s.1 n) (i : Nat) : TkB (delayS s i).1 n := by
  unfold delayS
  split
  · exact h
  · rename_i p hp
    have hb := next_bd (h.2.2.1 p (List.mem_of_getElem? hp))
    have h2 := TkB.put (t := s.1.1) (L := s.1.2) h hp hb.1 hb.2
    split
    · exact h2.view (det_bd h.1) (h.2.1.tms (det_tms _))
    · exact h2
theorem TkB.settle {t : Th} {L : List Po} (hf : n ≤ 200) (h : TkB (t, L) n) : TkB (settleR t L).1 n := by
  obtain ⟨h1, h2, h3, h4, h5⟩ := h
  have hl : L.length = n := h4
  exact ⟨settle_bd (by omega) h1 h3, h2.tms (settle_tms _ _), settle_pb h3 (sel_bd (by omega) h1 h3), settle_n h4, settle_unlike h5⟩
theorem lead_bd {t : Th} (h : ThB t) : ThB (leadT t) := det_bd (t := { t with n1 := t.m1, n2 := t.m2, n3 := t.m3 }) h
theorem lead_f {t : Th} (h : TkF t) : TkF (leadT t) := by
  have h1 : TkF { t with n1 := t.m1, n2 := t.m2, n3 := t.m3 } := by
    unfold TkF at *
    dsimp only
    omega
  exact h1.tms (det_tms _)
theorem TkB.lead {s : Tk} (h : TkB s.1 n) : TkB (leadS s).1 n := by
  have h1 : TkB ({ leadT s.1.1 with ho := true, hv := 0 }, s.1.2) n := TkB.view (t := s.1.1) (L := s.1.2) h (lead_bd h.1) (lead_f h.2.1)
  exact h1.all _
theorem TkB.age {s : Tk} (hf : n ≤ 200) (h : TkB s.1 n) (i : Nat) : TkB (ageS s i).1 n := by
  unfold ageS
  split
  · exact h
  · rename_i p hp
    have hb := become_bd (p := p) h.1 (h.2.2.1 p (List.mem_of_getElem? hp))
    have h2 := TkB.settle hf (TkB.put (t := s.1.1) (L := s.1.2) h hp hb.1 hb.2)
    dsimp only
    split
    · exact TkB.lead (s := ((settleR s.1.1 (s.1.2.set i (becomeP s.1.1 p))).1, _)) h2
    · exact h2
theorem TkB.hold {s : Tk} (h : TkB s.1 n) (i : Nat) : TkB (holdS s i).1 n := by
  unfold holdS
  split
  · exact h
  · split
    · exact TkB.conf (u := s.1.1) (L := s.1.2) h _
    · exact h
theorem TkB.fold {f : Tk → Nat → Tk} {fl : Nat → Bool} (hf : ∀ s i, TkB s.1 n → TkB (f s i).1 n) {s : Tk} (h : TkB s.1 n) : ∀ k, TkB (foldS f fl k s).1 n
  | 0 => h
  | k + 1 => by
    have ih := TkB.fold (fl := fl) hf h k
    unfold foldS
    split
    · exact hf _ _ ih
    · exact ih
theorem TkB.first {t : Th} {L : List Po} (h : TkB (t, L) n) (hp : ∀ z ∈ L, PoTm z) : TkB (tkT t, L.map (tkP t)) n := by
  obtain ⟨h1, h2, h3, h4, h5⟩ := h
  refine ⟨h1, h2, fun z hz => ?_, by rw [List.length_map]; exact h4, ?_⟩
  · obtain ⟨p, hpm, rfl⟩ := List.mem_map.1 hz
    obtain ⟨⟨a1, a2, _⟩, ⟨b1, b2, _⟩, ⟨c1, c2, _⟩⟩ := hp p hpm
    have q := h3 p hpm
    have e1 := firO_bd p.yo p.yv t.n3 a1 a2
    have e2 := firO_bd p.ao p.av t.n1 b1 b2
    have e3 := firO_bd p.ho p.hv 256 c1 c2
    unfold PoB tkP at *
    dsimp only at *
    omega
  · refine unlike_alike h5 ⟨by rw [List.length_map], fun j a b ha hb => ?_⟩
    rw [List.getElem?_map, hb] at ha
    cases ha
    rfl
theorem TkB.tick1 {t : Th} {L : List Po} (h : TkB (t, L) n) (hp : ∀ z ∈ L, PoTm z) : TkB (tick1 t L).1 n := by
  have h1 := h.first hp
  unfold Go.Proofs.YtnmnihlhcokjpaaGreatDoor.tick1
  have h2 : TkB (helloS (hellB t) (tkT t, L.map (tkP t))).1 n := by
    unfold helloS
    split
    · exact TkB.all (u := { tkT t with ho := true, hv := 0 }) h1 _
    · exact h1
  have h3 : TkB (tcnS (tcnB' t) (helloS (hellB t) (tkT t, L.map (tkP t)))).1 n := by
    unfold tcnS
    split
    · exact h2
    · exact h2
  unfold toldS
  split
  · exact h3
  · exact h3
theorem TkB.tick {t : Th} {L : List Po} (hf : n ≤ 200) (h : TkB (t, L) n) (hp : ∀ z ∈ L, PoTm z) : TkB (tickR t L).1 n :=
  TkB.fold (fun s i h => h.hold i) (TkB.fold (fun s i h => h.age hf i) (TkB.fold (fun s i h => h.delay i) (h.tick1 hp) _) _) _
end
end Go.Proofs.YtnmnihlhcokjpaaGreatDoor

/- What stays where ports are changed where they stand: all blocks of other types; rows of places. -/
namespace Go.Proofs.YtnmnihlhcokjpaaGreatDoor
set_option maxRecDepth 100000
open Go.ChangeShapes Go.WideShapes Go.ChangeAt Go.RowKit
set_option linter.unusedVariables false

/-- No block below B changes but those of ports. -/
def Fr (B : Nat) (W W' : World) : Prop := W.heap.size ≤ W'.heap.size ∧ ∀ b, b < B → (∀ cs fr, W.heap[b]? ≠ some (.cells cs 63 fr)) → W'.heap[b]? = W.heap[b]?
theorem Fr.refl (B : Nat) (W : World) : Fr B W W := ⟨Nat.le_refl _, fun _ _ _ => rfl⟩
theorem Fr.trans {B : Nat} {W W1 W2 : World} (h : Fr B W W1) (k : Fr B W1 W2) : Fr B W W2 :=
  ⟨Nat.le_trans h.1 k.1, fun b hb hp => by
    have e := h.2 b hb hp
    rw [← e]
    exact k.2 b hb (fun cs fr => by rw [e]; exact hp cs fr)⟩
theorem Fr.low {B B' : Nat} {W W' : World} (h : Fr B W W') (hB : B' ≤ B) : Fr B' W W' := ⟨h.1, fun b hb hp => h.2 b (by omega) hp⟩
theorem Fr.below {B : Nat} {W W' : World} (h : Below W.heap.size W W') (hB : B ≤ W.heap.size) : Fr B W W' := ⟨h.size, fun b hb _ => h.block b (by omega)⟩
theorem bk_noport {w : World} {g : Nat} {T : TypeId} {cs : List Value} (h : Bk w g T cs) (hT : 63 ≠ T) : ∀ c fr, w.heap[g]? ≠ some (.cells c 63 fr) := fun c fr e => by
  unfold Bk at h
  rw [h] at e
  injection e with q
  injection q with _ q
  exact hT q.symm
/-- A block of ports. -/
theorem Fr.port {B g : Nat} {W W' : World} {cs : List Value} (hb : Bk W g 63 cs) (hs : W.heap.size ≤ W'.heap.size) (hh : ∀ k, k ≠ g → W'.heap[k]? = W.heap[k]?) : Fr B W W' :=
  ⟨hs, fun b _ hp => hh b (fun e => by subst e; exact hp _ _ hb)⟩
/-- A block of one's own. -/
theorem Fr.own {B g : Nat} {W W' : World} (hg : B ≤ g) (hs : W.heap.size ≤ W'.heap.size) (hh : ∀ k, k ≠ g → W'.heap[k]? = W.heap[k]?) : Fr B W W' :=
  ⟨hs, fun b hb _ => hh b (by omega)⟩
theorem Fr.grown {B base n : Nat} {W W' : World} {v : Value} {xs : List Value} {e : TypeId} {s : Nat} (hown : W.ownsRow base e s v n xs) (gr : W.grownBy W' v.ownBlock) (hB : B ≤ base) (hW : B ≤ W.heap.size) : Fr B W W' :=
  ⟨gr.size, fun b hb _ => gr.block b (by omega) (fun q => by have := (World.ownsRow.lt hown b q.symm).1; omega)⟩
theorem setCells_size {g : Nat} : ∀ (vs : List Value) (o : Nat) (w : World), w.heap.size ≤ (w.setCells g o vs).heap.size := fun vs o w => (Below.setCells (B := 0) (Nat.zero_le _) vs o w (Below.refl 0 w)).size
theorem TS.fr {w wx : World} {l : List (Nat × TypeId × List Value)} {g : Nat} {L : List Po} (h : TS w l (some ⟨g, 0, none⟩) L wx) {k : Nat} {x : Po} (hx : L[k]? = some x) (B o : Nat) (vs : List Value) : Fr B wx (wx.setCells g o vs) := by
  obtain ⟨cs, hb⟩ := h.port_block hx
  exact Fr.port hb (setCells_size vs o wx) (fun k hk => setCells_other vs o wx k hk)
theorem OwnL.fr {α : Type} {enc : α → List Value} {s : Nat} {e : TypeId} {w w' : World} {base B : Nat} {v : Value} {l : List α} (h : OwnL enc s e w base v l) (he : 63 ≠ e) (f : Fr B w w') (hB : w.heap.size ≤ B) : OwnL enc s e w' base v l := by
  have hlt := World.ownsRow.lt h
  refine ⟨h.1, h.2.imp id ?_⟩
  rintro ⟨g, cap, cur, hv, hg, hh, r⟩
  have hg2 : g < w.heap.size := by
    rcases Nat.lt_or_ge g w.heap.size with q | q
    · exact q
    · rw [Array.getElem?_eq_none q] at hh; cases hh
  refine ⟨g, cap, cur, hv, hg, (f.2 g (by omega) (fun c fr e2 => ?_)).trans hh, r⟩
  rw [hh] at e2
  injection e2 with q
  injection q with _ q
  exact he q.symm
theorem OutsR.fr {w w' : World} {base B : Nat} {v : Value} {M : List Ou} (h : OutsR w base v M) (f : Fr B w w') (hB : w.heap.size ≤ B) : OutsR w' base v M := by
  obtain ⟨C, e, hown, hd⟩ := h
  refine ⟨C, e, hown.fr (by decide) f hB, fun c hc => ?_⟩
  obtain ⟨hg, sp, y1, y2, y3⟩ := hd c hc
  exact ⟨hg, sp, y1, y2, (f.2 c.g (by have := Bk.lt y3; omega) (bk_noport y3 (by decide))).trans y3⟩
/-- A row of places. -/
def encI (i : Nat) : List Value := [.int .i64 i]
theorem encI_len (i : Nat) : (encI i).length = 1 := rfl
theorem encI_one (i : Nat) : ∀ u ∈ encI i, u.oneCell' = true := fun u hu => by obtain rfl := List.mem_singleton.1 hu; rfl
def IntsR (w : World) (base : Nat) (v : Value) (I : List Nat) : Prop := OwnL encI 1 3 w base v I
theorem IntsR.fr {w w' : World} {base B : Nat} {v : Value} {I : List Nat} (h : IntsR w base v I) (f : Fr B w w') (hB : w.heap.size ≤ B) : IntsR w' base v I := OwnL.fr h (by decide) f hB
theorem IntsR.below {w w' : World} {base : Nat} {v : Value} {I : List Nat} (h : IntsR w base v I) (b : Below w.heap.size w w') : IntsR w' base v I := OwnL.below h b
theorem IntsR.mono {w : World} {base base' : Nat} {v : Value} {I : List Nat} (h : IntsR w base v I) (hb : base' ≤ base) : IntsR w base' v I := OwnL.mono h hb
/-- Ports and boxes, while a row of one's own grows. -/
theorem TS.growI {w wx wy : World} {l : List (Nat × TypeId × List Value)} {D : Option Addr} {L : List Po} {base n s : Nat} {e : TypeId} {v : Value} {xs : List Value} (h : TS w l D L wx) (hown : wx.ownsRow base e s v n xs) (gr : wx.grownBy wy v.ownBlock) (hl : ∀ y ∈ l, e ≠ y.2.1) (he : e ≠ 63) (hB : w.heap.size ≤ base) : TS w l D L wy := by
  have key : ∀ (g : Nat) (T : TypeId) (cs : List Value), Bk wx g T cs → e ≠ T → Bk wy g T cs := by
    intro g T cs hb hT
    have hne : some g ≠ v.ownBlock := by
      intro q
      rcases hown.2 with ⟨rfl, _⟩ | ⟨g', cap, cur, rfl, _, hh, _⟩
      · cases q
      · have e' : g = g' := Option.some.inj q
        subst e'
        unfold Bk at hb
        rw [hb] at hh
        injection hh with q
        injection q with _ q
        exact hT q.symm
    exact (gr.block g (Bk.lt hb) hne).trans hb
  have hold : Below w.heap.size w wy := h.old.grown gr h.old.size (fun k hk => Nat.le_trans hB (World.ownsRow.lt hown k hk).1)
  have hs : ∀ l', (∀ y ∈ l', e ≠ y.2.1) → Hs w l' wx → Hs w l' wy := fun l' hl' q => by
    have h' := hs_iff.1 q
    exact hs_iff.2 ⟨fun y hy => ⟨key _ _ _ (h'.1 y hy).1 (hl' y hy), (h'.1 y hy).2⟩, h'.2.1, hold⟩
  refine ⟨hs l hl h.1, h.2.imp id fun ⟨g, r, q, s⟩ => ⟨g, r, q, hs _ (fun y hy => ?_) s⟩⟩
  rcases List.mem_append.1 hy with z | z
  · exact hl y z
  · obtain rfl := List.mem_singleton.1 z
    exact he
/-- What a step hands out whose ports may be changed where they stand. -/
def StepEnd (w : World) (l : List (Nat × TypeId × List Value)) (n : Nat) (W : World) (R : (Th × List Po) × List Ou) (e : Ending) (W' : World) : Prop :=
  ∃ D c v, e = .returned (.tuple #[.agg (lT R.1.1 D n c).toArray, v]) ∧ (D = none → c = 0) ∧ TS w l D R.1.2 W' ∧ OutsR W' W.heap.size v R.2 ∧ Fr W.heap.size W W'

end Go.Proofs.YtnmnihlhcokjpaaGreatDoor

/- Boxes and ports of the call's own, ports changed where they stand, and what stays. -/
namespace Go.Proofs.YtnmnihlhcokjpaaGreatDoor
set_option maxRecDepth 100000
open Go.ChangeShapes Go.WideShapes Go.ChangeAt Go.RowKit
set_option linter.unusedVariables false
set_option linter.unusedSimpArgs false

/-- What a walk holds whose ports may be changed where they stand: since W no block of another type has changed. -/
def TF (w : World) (l : List (Nat × TypeId × List Value)) (D : Option Addr) (L : List Po) (W wx : World) : Prop := TS w l D L wx ∧ Fr W.heap.size W wx
section
variable {w W wx wy : World} {l : List (Nat × TypeId × List Value)} {D : Option Addr} {L : List Po}
theorem TF.ts (h : TF w l D L W wx) : TS w l D L wx := h.1
theorem TF.hs (h : TF w l D L W wx) : Hs w l wx := h.1.1
theorem TF.old (h : TF w l D L W wx) : Below w.heap.size w wx := h.1.old
theorem TF.since (h : TF w l D L W wx) : W.heap.size ≤ wx.heap.size := h.2.1
theorem TF.start (h : TS w l D L W) : TF w l D L W W := ⟨h, Fr.refl _ _⟩
theorem TF.below (h : TF w l D L W wx) (b : Below wx.heap.size wx wy) : TF w l D L W wy := ⟨h.1.below b, h.2.trans (Fr.below b h.2.1)⟩
theorem TF.al (h : TF w l D L W wx) {g : Nat} (hg : wx.heap.size = g) (T : TypeId) (cs : List Value) : TF w ((g, T, cs) :: l) D L W (wx.alloc (.cells cs.toArray T)) := ⟨h.1.al hg T cs, h.2.trans (Fr.below (new_below _ _) h.2.1)⟩
theorem setCell_size (wx : World) (g j : Nat) (u : Value) : wx.heap.size ≤ (wx.setCell ⟨g, j, none⟩ u).heap.size := setCells_size (g := g) [u] j wx
theorem TF.set (h : TF w l D L W wx) (i : Nat) {g : Nat} {T : TypeId} {cs : List Value} (hi : l[i]? = some (g, T, cs)) (j : Nat) (u : Value) (hg : W.heap.size ≤ g) : TF w (l.set i (g, T, cs.set j u)) D L W (wx.setCell ⟨g, j, none⟩ u) :=
  ⟨h.1.set i hi j u, h.2.trans (Fr.own hg (setCell_size wx g j u) (fun b hb => Below.heap_setCell _ ⟨g, j, none⟩ _ b hb))⟩
theorem setRow_size (wx : World) (g : Nat) (cs : Array Value) : wx.heap.size ≤ (wx.setRow g cs).heap.size := by
  unfold World.setRow
  simp
theorem TF.row (h : TF w l D L W wx) (i : Nat) {g : Nat} {T : TypeId} {cs : List Value} (hi : l[i]? = some (g, T, cs)) (cs' : List Value) (hg : W.heap.size ≤ g) : TF w (l.set i (g, T, cs')) D L W (wx.setRow g cs'.toArray) :=
  ⟨h.1.row i hi cs', h.2.trans (Fr.own hg (setRow_size wx g _) (fun b hb => setRow_other wx g b _ hb))⟩
theorem TF.tail {e : Nat × TypeId × List Value} (h : TF w (e :: l) D L W wx) : TF w l D L W wx := ⟨h.1.tail, h.2⟩
theorem TF.take {D' : Option Addr} {L' : List Po} (h : TF w l D L W wx) (k : TS wx [] D' L' wy) : TF w l D' L' W wy := ⟨TS.take h.1.hs k, h.2.trans (Fr.below k.old h.2.1)⟩
theorem TF.step {D' : Option Addr} {L' : List Po} (h : TF w l D L W wx) (k : TS w l D' L' wy) (f : Fr wx.heap.size wx wy) : TF w l D' L' W wy := ⟨k, h.2.trans (f.low h.2.1)⟩
theorem TF.put {g : Nat} (h : TF w l (some ⟨g, 0, none⟩) L W wx) {k : Nat} {x y : Po} (hx : L[k]? = some x) (i : Nat) (vs : List Value) (hi : i + vs.length ≤ 15) (hy : setL (lP x) i vs = lP y) :
    TF w l (some ⟨g, 0, none⟩) (L.set k y) W (wx.setCells g (k * 15 + i) vs) := ⟨h.1.put hx i vs hi hy, h.2.trans (h.1.fr hx _ _ _)⟩
theorem TF.whole {g : Nat} (h : TF w l (some ⟨g, 0, none⟩) L W wx) {k : Nat} {x : Po} (hx : L[k]? = some x) (y : Po) : TF w l (some ⟨g, 0, none⟩) (L.set k y) W (wx.setCells g (k * 15) (lP y)) := ⟨h.1.whole hx y, h.2.trans (h.1.fr hx _ _ _)⟩
theorem TF.two (h : TS w l D L W) (T U : TypeId) (cs ds : List Value) : ∃ wb, (W.alloc (.cells cs.toArray T)).alloc (.cells ds.toArray U) = wb ∧ TF w ((W.heap.size + 1, U, ds) :: (W.heap.size, T, cs) :: l) D L W wb :=
  ⟨_, rfl, ((TF.start h).al rfl T cs).al (by simp) U ds⟩
theorem TF.one (h : TS w l D L W) (T : TypeId) (cs : List Value) : ∃ wb, W.alloc (.cells cs.toArray T) = wb ∧ TF w ((W.heap.size, T, cs) :: l) D L W wb := ⟨_, rfl, (TF.start h).al rfl T cs⟩
/-- Outs grow. -/
theorem TF.grown {base n : Nat} {v : Value} {xs : List Value} (h : TF w l D L W wx) (hown : wx.ownsRow base 83 5 v n xs) (gr : wx.grownBy wy v.ownBlock) (hl : ∀ y ∈ l, 83 ≠ y.2.1) (hB : w.heap.size ≤ base) (hW : W.heap.size ≤ base) : TF w l D L W wy :=
  ⟨h.1.grownT hown gr hl hB, h.2.trans (Fr.grown hown gr hW h.2.1)⟩
end

end Go.Proofs.YtnmnihlhcokjpaaGreatDoor

/- A timer fires where it stands; which timer: contracts. -/
namespace Go.Proofs.YtnmnihlhcokjpaaGreatDoor
set_option maxRecDepth 100000
open Go.ChangeShapes Go.WideShapes Go.ChangeAt Go.RowKit
set_option linter.unusedVariables false
set_option linter.unusedSimpArgs false

/-- What fires leaves at block g from o on. -/
def FirEnd (g o : Nat) (w : World) (r : (Bool × Int) × Bool) (e : Ending) (w' : World) : Prop := e = .returned (.bool r.2) ∧ ∃ wm, Below w.heap.size w wm ∧ w' = wm.setCells g o [.bool r.1.1, .int .i64 r.1.2]
set_option maxHeartbeats 1000000 in
theorem fires_is (g o : Nat) (b : Bool) (v l : Int) (h0 : 0 ≤ v) (h1 : v ≤ 1073741824) (k0 : -9223372036854775808 ≤ l) (k1 : l ≤ 9223372036854775807) (w : World) (hg : g < w.heap.size)
    (hc0 : Hid (w.cell? ⟨g, o, none⟩ = some (.bool b))) (hc1 : Hid (w.cell? ⟨g, o + 1, none⟩ = some (.int .i64 v))) (hf0 : Hid (w.frozen? ⟨g, o, none⟩ = false)) (hf1 : Hid (w.frozen? ⟨g, o + 1, none⟩ = false)) :
    Calls Tryz.prog 53 #[.pointer (some ⟨g, o, none⟩), .int .i64 l] w (FirEnd g o w (firO b v l)) := by
  obtain ⟨q, u, x, hr⟩ : ∃ q u x, firO b v l = ((q, u), x) := ⟨_, _, _, rfl⟩
  have HF := fun W => Lib.hid (fire_is b v l h0 h1 k0 k1 q u x (Lib.hid hr) W)
  unfold FirEnd
  rw [hr]
  have HC0 := Lib.hid hc0.out
  have HC1 := Lib.hid hc1.out
  clear hr h0 h1 k0 k1
  have c0 := hc0.out
  have c1 := hc1.out
  go_enter Tryz.func53, Tryz.ntmps53
  go_wp2_with fail
  (with_reducible refine (HF _).out.mono ?_); rintro e w1 ⟨rfl, b1⟩
  have hg1 : g < w1.heap.size := Nat.lt_of_lt_of_le hg b1.size
  have j0 : w1.cell? ⟨g, o, none⟩ = some (.bool b) := (b1.cell hg).trans HC0.out
  have j1 : w1.cell? ⟨g, o + 1, none⟩ = some (.int .i64 v) := (b1.cell hg).trans HC1.out
  have hk := b1.block g hg
  have f0 : w1.frozen? ⟨g, o, none⟩ = false := (World.frozen?_of_block hk).trans hf0.out
  have f1 : w1.frozen? ⟨g, o + 1, none⟩ = false := (World.frozen?_of_block hk).trans hf1.out
  have HB1 := Lib.hid b1
  clear c0 c1 HC0 HC1 hc0 hc1 hf0 hf1 HF hk b1
  go_upto_region 2 with fail
  obtain ⟨wb, hwb, S⟩ := hs_one w1 28 [.bool q, .int .i64 u]
  rw [hwb]
  clear hwb
  obtain ⟨X, hX⟩ : ∃ X, w1.heap.size = X := ⟨_, rfl⟩
  rw [hX] at S ⊢
  have d0 := S.cell 0 0 rfl rfl
  have d1 := S.cell 0 1 rfl rfl
  have i0 : wb.cell? ⟨g, o, none⟩ = some (.bool b) := (S.old.cell hg1).trans j0
  have i1 : wb.cell? ⟨g, o + 1, none⟩ = some (.int .i64 v) := (S.old.cell hg1).trans j1
  have hk := S.old.block g hg1
  have e0 : wb.frozen? ⟨g, o, none⟩ = false := (World.frozen?_of_block hk).trans f0
  have e1 : wb.frozen? ⟨g, o + 1, none⟩ = false := (World.frozen?_of_block hk).trans f1
  have HB := Lib.hid (HB1.out.trans (S.old.mono HB1.out.size))
  clear j0 j1 f0 f1 hk S hg1 HB1 hX
  go_wp2
  go_ret
  exact ⟨rfl, wb, HB.out, rfl⟩
end Go.Proofs.YtnmnihlhcokjpaaGreatDoor

/- Which timer of a port: contracts. -/
namespace Go.Proofs.YtnmnihlhcokjpaaGreatDoor
set_option maxRecDepth 100000
open Go.ChangeShapes Go.WideShapes Go.ChangeAt Go.RowKit
set_option linter.unusedVariables false
set_option linter.unusedSimpArgs false

theorem pdelay_is (g k : Nat) (w : World) : Calls Tryz.prog 46 #[.pointer (some ⟨g, k, none⟩)] w fun e w' => e = .returned (.pointer (some ⟨g, k + 11, none⟩)) ∧ w = w' := by
  go_enter Tryz.func46, Tryz.ntmps46
  go_wp2
  go_ret
  exact ⟨rfl, rfl⟩
theorem page_is (g k : Nat) (w : World) : Calls Tryz.prog 48 #[.pointer (some ⟨g, k, none⟩)] w fun e w' => e = .returned (.pointer (some ⟨g, k + 9, none⟩)) ∧ w = w' := by
  go_enter Tryz.func48, Tryz.ntmps48
  go_wp2
  go_ret
  exact ⟨rfl, rfl⟩
theorem phold_is (g k : Nat) (w : World) : Calls Tryz.prog 50 #[.pointer (some ⟨g, k, none⟩)] w fun e w' => e = .returned (.pointer (some ⟨g, k + 13, none⟩)) ∧ w = w' := by
  go_enter Tryz.func50, Tryz.ntmps50
  go_wp2
  go_ret
  exact ⟨rfl, rfl⟩
/-- The sum of two times. -/
theorem sum_is (a b : Int) (ha : 0 ≤ a ∧ a ≤ 65535) (hb : 0 ≤ b ∧ b ≤ 65535) (w : World) : Calls Tryz.prog 54 #[.int .i64 a, .int .i64 b] w fun e w' => e = .returned (.int .i64 (a + b)) ∧ w = w' := by
  obtain ⟨s, hs⟩ : ∃ s, a + b = s := ⟨_, rfl⟩
  have h0 : ¬ s < 0 := by omega
  have h1 : ¬ a < 0 := by omega
  have h2 : ¬ b < 0 := by omega
  go_enter Tryz.func54, Tryz.ntmps54
  go_wp2
  all_goals go_ret
  all_goals exact ⟨rfl, rfl⟩
/-- The three tasks. -/
def lK (n1 n3 : Int) : List Value := [.func (.func 46) #[] #[], .int .i64 n3, .func (.func 47) #[] #[], .func (.func 48) #[] #[], .int .i64 n1, .func (.func 49) #[] #[], .func (.func 50) #[] #[], .int .i64 256, .func (.func 52) #[] #[]]

end Go.Proofs.YtnmnihlhcokjpaaGreatDoor

/- Rows of numbers that tell flags; rows made; boxes in another order. -/
namespace Go.Proofs.YtnmnihlhcokjpaaGreatDoor
set_option maxRecDepth 100000
open Go.ChangeShapes Go.WideShapes Go.ChangeAt Go.RowKit
set_option linter.unusedVariables false

theorem Tryz.infoIntT : (Tryz.prog.info? 3).map (fun i => (i.zero, i.size, i.bytes)) = some (some (.int .i64 0), 1, 8) := by kernel_rfl
theorem made_ints (n : Nat) : madeCells (Value.cells (.int .i64 0)) (n * 1) = (List.replicate n (Value.int .i64 0)).toArray := by
  rw [Nat.mul_one]
  unfold madeCells
  apply Array.ext
  · simp
  · intro i h1 h2
    simp [Value.cells, Nat.mod_one]
theorem make_ints (n : Nat) (h : n ≤ 1000000) (w : World) :
    (Instr.makeSlice 72 (.int .i64 (n : Int)) (.int .i64 (n : Int))).run Tryz.prog w = .ok (.slice (some ⟨w.heap.size, 0, none⟩) n n) (w.alloc (.cells (List.replicate n (Value.int .i64 0)).toArray 3)) := by
  obtain ⟨i0, hi, hz0, hz1, hz2⟩ := info_parts Tryz.infoIntT
  have hr := run_make (P := Tryz.prog) w 72 3 i0 _ Tryz.underlying72 hi hz0 .i64 .i64 (n : Int) (n : Int) (by omega) (by omega) (by rw [hz2]; omega) (by omega)
  rw [hz1] at hr
  simp only [Int.toNat_natCast] at hr
  rw [hr, made_ints]
/-- A row of flags, as numbers. -/
def fI (b : Bool) : Value := .int .i64 (if b = true then 1 else 0)
def lI (fl : List Bool) : List Value := fl.map fI
theorem lI_none (n : Nat) : List.replicate n (Value.int .i64 0) = lI (List.replicate n false) := by
  unfold lI
  rw [List.map_replicate]
  rfl
theorem lI_at {fl : List Bool} {k : Nat} {b : Bool} (h : fl[k]? = some b) : (lI fl)[k]? = some (fI b) := by
  unfold lI
  rw [List.getElem?_map, h]
  rfl
theorem lI_set (fl : List Bool) (k : Nat) (b : Bool) : (lI fl).set k (fI b) = lI (fl.set k b) := by
  unfold lI
  rw [List.map_set]
/-- The flags of the first k ports. -/
def flL (f : Po → Bool) (L : List Po) (k : Nat) : List Bool := L.mapIdx fun j x => decide (j < k) && f x
theorem flL_len (f : Po → Bool) (L : List Po) (k : Nat) : (flL f L k).length = L.length := by unfold flL; rw [List.length_mapIdx]
theorem flL_zero (f : Po → Bool) (L : List Po) : flL f L 0 = List.replicate L.length false := by
  unfold flL
  apply List.ext_getElem
  · simp
  · intro i h1 h2
    simp
theorem flL_at {f : Po → Bool} {L : List Po} {k j : Nat} {x : Po} (h : L[j]? = some x) : (flL f L k)[j]? = some (decide (j < k) && f x) := by
  unfold flL
  rw [List.getElem?_mapIdx, h]
  rfl
theorem flL_step {f : Po → Bool} {L : List Po} {k : Nat} {x : Po} (h : L[k]? = some x) : (flL f L k).set k (f x) = flL f L (k + 1) := by
  have hk := po_lt h
  apply List.ext_getElem?
  intro j
  rw [List.getElem?_set, flL_len]
  by_cases e : k = j
  · subst e
    rw [if_pos rfl, if_pos hk, flL_at h]
    simp
  · rw [if_neg e]
    cases hj : L[j]? with
    | none =>
      have : L.length ≤ j := List.getElem?_eq_none_iff.1 hj
      rw [List.getElem?_eq_none (by rw [flL_len]; exact this), List.getElem?_eq_none (by rw [flL_len]; exact this)]
    | some y =>
      rw [flL_at hj, flL_at hj]
      have : decide (j < k) = decide (j < k + 1) := by
        rw [Bool.eq_iff_iff]
        simp
        omega
      rw [this]
theorem flL_all {f : Po → Bool} {L : List Po} {j : Nat} {x : Po} (h : L[j]? = some x) : (flL f L L.length)[j]? = some (f x) := by
  rw [flL_at h]
  simp [po_lt h]
/-- Boxes in another order. -/
theorem TS.perm {w wx : World} {l l' : List (Nat × TypeId × List Value)} {D : Option Addr} {L : List Po} (h : TS w l D L wx) (p : l.Perm l') : TS w l' D L wx :=
  ⟨h.1.perm p, h.2.imp id fun ⟨g, r, e, s⟩ => ⟨g, r, e, s.perm (p.append_right _)⟩⟩

end Go.Proofs.YtnmnihlhcokjpaaGreatDoor
