/- The law TimerPlays, walked: it answers true, wherever a timer starts and whatever befalls it. -/
import Derived.Test.YtdpdgipbcimnlaaTimerRestsWalk
import Derived.Test.YtdpdgipbcimnlaaIntsIn
import Derived.Deep.CutBlock
namespace Go.Proofs.Ytdpdgipbcimnlaa
open Go.ChangeShapes Go.WideShapes Go.ChangeAt Go.RowKit
set_option linter.unusedVariables false
set_option linter.unusedSimpArgs false

/-- The timer (o, v) is what the number n tells. -/
def TS (o : Bool) (v n : Int) : Prop := (o = true ∧ v = n ∧ 0 ≤ n ∧ n ≤ 1073741824) ∨ (o = false ∧ v = 0 ∧ n = -1)

theorem TS.start (x : Int) : TS true (startI x) (startI x) := .inl ⟨rfl, rfl, (startI_bd x).1, (startI_bd x).2⟩
theorem TS.rests : TS false 0 (-1) := .inr ⟨rfl, rfl, rfl⟩
theorem TS.bd {o : Bool} {v n : Int} (h : TS o v n) : (0 ≤ v ∧ v ≤ 1073741824) ∧ -1 ≤ n ∧ n ≤ 1073741824 := by
  rcases h with ⟨_, rfl, _, _⟩ | ⟨_, rfl, rfl⟩ <;> omega
theorem TS.isB {o : Bool} {v n : Int} (h : TS o v n) : isB o v n = true := by
  rcases h with ⟨rfl, rfl, h1, h2⟩ | ⟨rfl, rfl, rfl⟩
  · unfold Go.Proofs.Ytdpdgipbcimnlaa.isB; rw [if_neg (by omega)]; simp
  · decide
theorem TS.later {v : Int} (h0 : 0 ≤ v) : rtick v = laterI v := by
  unfold rtick; rw [if_neg (by omega), laterI_is v h0]
theorem TS.tick {o : Bool} {v n : Int} (h : TS o v n) : TS o (if o then laterI v else v) (rtick n) := by
  rcases h with ⟨rfl, rfl, h1, h2⟩ | ⟨rfl, rfl, rfl⟩
  · have := laterI_bd v h1
    rw [TS.later h1]
    exact .inl ⟨rfl, rfl, by omega, by omega⟩
  · exact .inr ⟨rfl, rfl, by decide⟩
theorem TS.fire {o : Bool} {v n : Int} (l : Int) (h : TS o v n) : ∃ (q : Bool) (u : Int) (x : Bool) (m y : Int), Hid (firO o v l = ((q, u), x)) ∧ Hid (rfire n l = (m, y)) ∧ Hid (TS q u m) ∧ ((x = true ∧ y = 1) ∨ (x = false ∧ y = 0)) := by
  rcases h with ⟨rfl, rfl, h1, h2⟩ | ⟨rfl, rfl, rfl⟩
  · have hb := laterI_bd v h1
    by_cases c : l ≤ laterI v
    · exact ⟨false, 0, true, -1, 1, Lib.hid (by unfold firO; rw [if_pos rfl, if_pos c]), Lib.hid (by unfold rfire; rw [TS.later h1, if_pos ⟨by omega, c⟩]), Lib.hid TS.rests, .inl ⟨rfl, rfl⟩⟩
    · exact ⟨true, laterI v, false, laterI v, 0, Lib.hid (by unfold firO; rw [if_pos rfl, if_neg c]), Lib.hid (by unfold rfire; rw [TS.later h1, if_neg (by omega)]), Lib.hid (.inl ⟨rfl, rfl, by omega, by omega⟩), .inr ⟨rfl, rfl⟩⟩
  · exact ⟨false, 0, false, -1, 0, Lib.hid rfl, Lib.hid rfl, Lib.hid TS.rests, .inr ⟨rfl, rfl⟩⟩

theorem wrapP (n : Int) (h0 : 0 ≤ n) (h1 : n < 9223372036854775808) : IntKind.i64.wrap n = n := by
  have hm : n % 18446744073709551616 = n := by omega
  unfold IntKind.wrap
  simp [IntKind.bits, IntKind.signed, hm]
  omega

/-- What a loop's head finds: the timer in box X, the number n beside it. -/
def PL (w : World) (X : Nat) (o : Bool) (v n : Int) (wr : World) : Prop := TS o v n ∧ TM wr X o v ∧ Below w.heap.size w wr

theorem PL.below {w wx wy : World} {X : Nat} {o : Bool} {v n : Int} (h : PL w X o v n wx) (hb : Below wx.heap.size wx wy) : PL w X o v n wy :=
  ⟨h.1, h.2.1.below hb h.2.1.lt, h.2.2.trans (hb.mono h.2.2.size)⟩
theorem PL.drew {w wx : World} {X : Nat} {o : Bool} {v n : Int} (h : PL w X o v n wx) : PL w X o v n wx.drew :=
  ⟨h.1, h.2.1.drew, h.2.2.drew⟩
theorem PL.alloc {w wx : World} {X : Nat} {o : Bool} {v n : Int} (h : PL w X o v n wx) (b : Obj) : PL w X o v n (wx.alloc b) :=
  h.below ((Below.refl wx.heap.size wx).alloc (Nat.le_refl _) b)
theorem PL.put2 {w wx : World} {X : Nat} {o : Bool} {v n : Int} (h : PL w X o v n wx) (b : Obj) (c d : Value) :
    PL w X o v n (((wx.alloc b).setCell ⟨wx.heap.size, 0, none⟩ c).setCell ⟨wx.heap.size, 1, none⟩ d) :=
  h.below ((((Below.refl wx.heap.size wx).alloc (Nat.le_refl _) b).setCell (p := ⟨wx.heap.size, 0, none⟩) (Nat.le_refl _) c).setCell (p := ⟨wx.heap.size, 1, none⟩) (Nat.le_refl _) d)
theorem PL.far {w wx wy : World} {X Y : Nat} {o : Bool} {v n : Int} (h : PL w X o v n wx) (hb : Below Y wx wy) (hX : X < Y) (hw : w.heap.size ≤ Y) : PL w X o v n wy :=
  ⟨h.1, h.2.1.below hb hX, h.2.2.trans (hb.mono hw)⟩
theorem PL.put1 {w wx : World} {X Y : Nat} {o : Bool} {v n : Int} (h : PL w X o v n wx) (hX : X < Y) (hw : w.heap.size ≤ Y) (c d : Value) :
    PL w X o v n ((wx.setCell ⟨Y, 0, none⟩ c).setCell ⟨Y, 1, none⟩ d) :=
  h.far (((Below.refl Y wx).setCell (p := ⟨Y, 0, none⟩) (Nat.le_refl _) c).setCell (p := ⟨Y, 1, none⟩) (Nat.le_refl _) d) hX hw
theorem PL.set {w wx : World} {X : Nat} {o : Bool} {v n : Int} (h : PL w X o v n wx) (hX : w.heap.size ≤ X) (o' : Bool) (v' n' : Int) (ht : TS o' v' n') :
    PL w X o' v' n' ((wx.setCell ⟨X, 0, none⟩ (.bool o')).setCell ⟨X, 1, none⟩ (.int .i64 v')) :=
  ⟨ht, h.2.1.set o' v', (h.2.2.setCell (p := ⟨X, 0, none⟩) hX _).setCell (p := ⟨X, 1, none⟩) hX _⟩

theorem PL.keep {w wx : World} {X : Nat} {o : Bool} {v n : Int} {p : Addr} {c : Value} (h : PL w X o v n wx) (hp : p.block < w.heap.size) (hc : w.cell? p = some c) :
    wx.cell? p = some c ∧ wx.frozen? ⟨X, 0, none⟩ = false ∧ wx.frozen? ⟨X, 1, none⟩ = false ∧ wx.cell? ⟨X, 0, none⟩ = some (.bool o) ∧ wx.cell? ⟨X, 1, none⟩ = some (.int .i64 v) :=
  ⟨(h.2.2.cell hp).trans hc, h.2.1.cells.2.2.1, h.2.1.cells.2.2.2, h.2.1.cells.1, h.2.1.cells.2.1⟩

/-- What stands there, whatever it is. -/
def cellB (w : World) (p : Addr) : Value := (w.cell? p).getD (.bool false)
theorem cellB_is {w : World} {p : Addr} {c : Value} (h : w.cell? p = some c) : w.cell? p = some (cellB w p) := by unfold cellB; rw [h]; rfl

theorem PL.keep3 {w wx : World} {X : Nat} {o : Bool} {v n : Int} {p : Addr} {c : Value} (h : PL w X o v n wx) (hp : p.block < w.heap.size) (hc : w.cell? p = some c) :
    wx.cell? p = some c ∧ wx.frozen? ⟨X, 0, none⟩ = false ∧ wx.frozen? ⟨X, 1, none⟩ = false ∧ wx.cell? ⟨X, 0, none⟩ = some (cellB wx ⟨X, 0, none⟩) ∧ wx.cell? ⟨X, 1, none⟩ = some (cellB wx ⟨X, 1, none⟩) :=
  ⟨(h.2.2.cell hp).trans hc, h.2.1.cells.2.2.1, h.2.1.cells.2.2.2, cellB_is h.2.1.cells.1, cellB_is h.2.1.cells.2.1⟩

set_option maxRecDepth 100000 in
set_option maxHeartbeats 1500000 in
theorem TimerPlays_walk (a0 : Int) (a1 : Option Addr) (len1 cap1 : Nat) (z1 : List Int) (w : World) (w0 : (Lit.int .i64 a0).wf = true) (w1 : IsRow .i64 w a1 len1 cap1 z1) :
    Calls Try.prog 3 #[.int .i64 a0, .slice a1 len1 cap1] w fun e w' => e = .returned (.bool true) ∧ Below w.heap.size w w' := by
  obtain ⟨p0, p1⟩ := bounds_i64 w0
  have p2 : a0 ≤ 9223372036854775807 := by omega
  obtain ⟨U, hU, hm1, hN1⟩ := ints_in w1
  have HU := Lib.hid hU
  have HN := Lib.hid hN1
  clear w0 w1 p1 hU hN1
  by_cases hc : 2000 < len1
  · go_enter Try.func3, Try.ntmps3
    go_wp2_with fail
    (with_reducible refine (awake_timer _).mono ?_); rintro e w1 ⟨rfl, b1⟩
    go_wp2_with fail
    (with_reducible refine (awake_timer _).mono ?_); rintro e w2 ⟨rfl, b2⟩
    go_wp2
    go_ret
    exact ⟨rfl, b1.trans (b2.mono b1.size)⟩
  · have hc' : len1 ≤ 2000 := by omega
    have HS := fun W => Lib.hid (start_is a0 p0 p2 W)
    have HR := fun W => Lib.hid (rstart_is a0 p0 p2 W)
    obtain ⟨s, hs⟩ : ∃ s, startI a0 = s := ⟨_, rfl⟩
    have hst := Lib.hid (TS.start a0)
    rw [hs] at HS HR hst
    clear hs
    go_enter Try.func3, Try.ntmps3
    go_wp2_with fail
    (with_reducible refine (awake_timer _).mono ?_); rintro e w1 ⟨rfl, b1⟩
    go_wp2_with fail
    (with_reducible refine (stop_is _).mono ?_); rintro e w2 ⟨rfl, b2⟩
    have B2 : Below w.heap.size w w2 := b1.trans (b2.mono b1.size)
    have t2 := TM.new w2 false 0
    have z2 := B2.size
    have B2' := B2.alloc z2 (Obj.cells #[Value.bool false, Value.int IntKind.i64 0] 25)
    clear b1 b2
    go_upto_if 22 with fail
    obtain ⟨X, hX⟩ : ∃ X, w2.heap.size = X := ⟨_, rfl⟩
    rw [hX] at t2 z2 ⊢
    generalize w2.alloc (Obj.cells #[Value.bool false, Value.int IntKind.i64 0] 25) = wb at t2 B2' ⊢
    have P2 := Lib.hid (show PL w X false 0 (-1) wb from ⟨TS.rests, t2, B2'⟩)
    clear B2 hX t2 B2'
    go_cut [6] (fun nv wx => ∃ (o : Bool) (v n : Int), nv = .int .i64 n ∧ Hid (PL w X o v n wx))
    case first =>
      by_cases h6 : -1000000 ≤ a0
      · go_wp2_with fail
        (with_reducible refine (HS _).out.mono ?_); rintro e w3 ⟨rfl, b3⟩
        have P3 := Lib.hid (P2.out.below b3)
        clear b3 P2
        go_wp2_with fail
        (with_reducible refine (HR _).out.mono ?_); rintro e w4 ⟨rfl, rfl⟩
        obtain ⟨c0, c1, f0, f1⟩ := P3.out.2.1.cells
        go_wp2
        go_meet
        exact ⟨true, s, s, rfl, Lib.hid (P3.out.set z2 true s s hst.out)⟩
      · go_wp2
        go_meet
        exact ⟨false, 0, -1, rfl, P2⟩
    case rest =>
      obtain ⟨o, v, n, rfl, P⟩ := hcut
      clear P2
      go_wp2
      go_loopw [6, 7] (fun nv i wr => ∃ (k : Nat) (o : Bool) (v n : Int), k ≤ len1 ∧ nv = .int .i64 n ∧ i = .int .i64 k ∧ Hid (PL w X o v n wr)) (fun _ i _ => len1 - (intOf i).toNat)
      case atStart => exact ⟨0, o, v, n, Nat.zero_le _, rfl, rfl, P⟩
      case round =>
        clear P
        obtain ⟨k, o, v, n, hk, rfl, rfl, P⟩ := hrel
        rename World => wr
        by_cases hkn : k < len1
        · obtain ⟨x, hx⟩ : ∃ x, U[k]? = some x := ⟨_, List.getElem?_eq_getElem (by rw [HU.out]; exact hkn)⟩
          obtain ⟨ad, rfl, hab, hcw, hx0, hx1⟩ := HN.out k x hx
          have hki : (k : Int) < (len1 : Int) := by omega
          clear hx
          have hadw : (ad.add k).block < w.heap.size := by rw [Go.Proofs.Ytdpdgipbcimnlaa.add_block]; exact hab
          have c0 := (P.out.2.2.cell (p := ad.add k) hadw).trans hcw
          go_upto_if 37 with fail
          go_cut [6] (fun nv wx => ∃ (o : Bool) (v n : Int), nv = .int .i64 n ∧ Hid (PL w X o v n wx))
          case first =>
            by_cases hneg : x < 0
            · by_cases hlow : x < -2000000000
              · go_wp2
                go_ret
                exact ⟨rfl, P.out.2.2⟩
              · obtain ⟨y, hy⟩ : ∃ y, -x = y := ⟨_, rfl⟩
                have hyw := wrapP y (by omega) (by omega)
                obtain ⟨s2, hs2⟩ : ∃ s2, startI y = s2 := ⟨_, rfl⟩
                have HS2 := fun W => Lib.hid (start_is y (by omega) (by omega) W)
                have HR2 := fun W => Lib.hid (rstart_is y (by omega) (by omega) W)
                have hst2 := Lib.hid (TS.start y)
                rw [hs2] at HS2 HR2 hst2
                rw [← hy] at hyw
                have HS3 : ∀ W, Hid (Calls Try.prog 9 #[.int .i64 (IntKind.i64.wrap (-x))] W (TEnd W true s2)) := by rw [hyw, hy]; exact HS2
                have HR3 : ∀ W, Hid (Calls Try.prog 10 #[.int .i64 (IntKind.i64.wrap (-x))] W fun e w' => e = .returned (.int .i64 s2) ∧ W = w') := by rw [hyw, hy]; exact HR2
                clear hs2 hy hyw HS2 HR2
                go_upto_region 13 with fail
                clear c0
                have C0 := Lib.hid (P.out.keep3 hadw hcw)
                have C1 := Lib.hid (P.out.drew.keep3 hadw hcw)
                go_region_held3 (fun w' => w'.cell? (ad.add k) = some (.int .i64 x) ∧ w'.frozen? ⟨X, 0, none⟩ = false ∧ w'.frozen? ⟨X, 1, none⟩ = false ∧ w'.cell? ⟨X, 0, none⟩ = some (cellB w' ⟨X, 0, none⟩) ∧ w'.cell? ⟨X, 1, none⟩ = some (cellB w' ⟨X, 1, none⟩)) (first | exact C0.out | exact C1.out | exact C5.out | exact (P5.out.set z2 true s2 s2 hst2.out).keep3 hadw hcw | assumption) (first
                  | (go_at_call 9; (with_reducible refine (HS3 _).out.mono ?_); rintro e w5 ⟨rfl, b5⟩; have P5 := Lib.hid (P.out.drew.below b5); have C5 := Lib.hid (P5.out.keep3 hadw hcw); clear b5)
                  | (go_at_call 10; (with_reducible refine (HR3 _).out.mono ?_); rintro e w6 ⟨rfl, rfl⟩))
                all_goals go_wp2
                all_goals go_meet
                all_goals exact ⟨true, s2, s2, rfl, Lib.hid (P5.out.set z2 true s2 s2 hst2.out)⟩
            · obtain ⟨⟨vb0, vb1⟩, nb0, nb1⟩ := P.out.1.bd
              obtain ⟨r, hr⟩ : ∃ r, (o && decide (x ≤ v)) = r := ⟨_, rfl⟩
              obtain ⟨v', hv'⟩ : ∃ v', (if o then laterI v else v) = v' := ⟨_, rfl⟩
              obtain ⟨n', hn'⟩ : ∃ n', rtick n = n' := ⟨_, rfl⟩
              have ht := P.out.1.tick
              rw [hv', hn'] at ht
              obtain ⟨⟨vc0, vc1⟩, nc0, nc1⟩ := ht.bd
              have HO := fun W => Lib.hid (over_is o v x vb0 vb1 hx0 hx1 r (Lib.hid hr) W)
              have HT := fun W => Lib.hid (tick_any o v vb0 vb1 W)
              have HRT := fun W => Lib.hid (rtick_is n nb0 nb1 W)
              rw [hv'] at HT
              rw [hn'] at HRT
              have HI := fun W => Lib.hid (is_is o v' n' vc0 vc1 (by omega) (by omega) (Lib.hid ht.isB) W)
              obtain ⟨q, u, xx, m, y, HF, HRF, HTS, HXY⟩ := P.out.1.fire x
              have HF2 := fun W => Lib.hid (fire_is o v x vb0 vb1 hx0 hx1 q u xx HF W)
              have HRF2 := fun W => Lib.hid (rfire_is n x nb0 nb1 hx0 hx1 m y HRF W)
              clear hv' hn' ht vc0 vc1 nc0 nc1 HF HRF HS HR
              have HXY := Lib.hid HXY
              go_upto_region 14 with fail
              clear c0
              go_cut [79] (fun q wx => q = .bool false ∧ Hid (PL w X o v n wx))
              case first =>
                have C0 := Lib.hid (P.out.keep hadw hcw)
                have C1 := Lib.hid (P.out.drew.keep hadw hcw)
                rcases P.out.1 with ⟨rfl, rfl, h1, h2⟩ | ⟨rfl, rfl, hn⟩
                · have hr2 := hr
                  rw [Bool.true_and] at hr2
                  have hv0 : decide (0 ≤ v) = true := by simp [h1]
                  go_region_held3 (fun w' => w'.cell? (ad.add k) = some (.int .i64 x) ∧ w'.frozen? ⟨X, 0, none⟩ = false ∧ w'.frozen? ⟨X, 1, none⟩ = false ∧ w'.cell? ⟨X, 0, none⟩ = some (.bool true) ∧ w'.cell? ⟨X, 1, none⟩ = some (.int .i64 v)) (first | exact C0.out | exact C1.out | exact C4.out | exact C5.out | exact C6.out | assumption) (first
                    | (go_at_call 11; (with_reducible refine (HO _).out.mono ?_); rintro e w4 ⟨rfl, b4⟩; have P4 := Lib.hid (P.out.drew.below b4); have C4 := Lib.hid (P4.out.keep hadw hcw); clear b4)
                    | (go_at_call 13; (with_reducible refine (HT _).out.mono ?_); rintro e w5 ⟨rfl, b5⟩; have P5 := Lib.hid (P4.out.below b5); have C5 := Lib.hid (P5.out.keep hadw hcw); clear b5)
                    | (go_at_call 14; (with_reducible refine (HRT _).out.mono ?_); rintro e w8 ⟨rfl, rfl⟩)
                    | (go_at_call 12; (with_reducible refine (HI _).out.mono ?_); rintro e w6 ⟨rfl, b6⟩; have P6 := Lib.hid (P5.out.below b6); have C6 := Lib.hid (P6.out.keep hadw hcw); clear b6))
                  all_goals go_wp2_with fail
                  all_goals go_meet
                  all_goals exact ⟨rfl, P6⟩
                · have hr2 : false = r := hr
                  subst hr2
                  have hv0 : decide (0 ≤ n) = false := by simp; omega
                  have hv1 : ¬ 0 ≤ n := by omega
                  clear hn
                  refine wp_region_held_drew (S := fun w' => w'.cell? (ad.add k) = some (.int .i64 x) ∧ w'.frozen? ⟨X, 0, none⟩ = false ∧ w'.frozen? ⟨X, 1, none⟩ = false ∧ w'.cell? ⟨X, 0, none⟩ = some (.bool false) ∧ w'.cell? ⟨X, 1, none⟩ = some (.int .i64 0)) (by kernel_rfl) C1.out (fun hHeld => ?_)
                  refine wpAnyH_take (i := 0) (v := ?_) rfl (by kernel_rfl) (by kernel_rfl) (by kernel_rfl) (fun _ _ _ h => h) (Or.inl ⟨by kernel_rfl, ?_⟩) (by assumption) ?_
                  rotate_left
                  · intro w hSw; (try dsimp only at hSw); go_simp; with_reducible rfl
                  try simp only [Act.put, List.setIfInBounds_toArray, List.set_cons_succ]
                  refine wpAnyH_take (i := 1) (v := ?_) rfl (by kernel_rfl) (by kernel_rfl) (by kernel_rfl) (fun _ _ _ h => h) (Or.inl ⟨by kernel_rfl, ?_⟩) (by assumption) ?_
                  rotate_left
                  · intro w hSw; (try dsimp only at hSw); go_simp; with_reducible rfl
                  try simp only [Act.put, List.setIfInBounds_toArray, List.set_cons_succ]
                  refine wpAnyH_take (i := 2) (v := ?_) rfl (by kernel_rfl) (by kernel_rfl) (by kernel_rfl) (fun _ _ _ h => h) (Or.inl ⟨by kernel_rfl, ?_⟩) (by assumption) ?_
                  rotate_left
                  · intro w hSw; (try dsimp only at hSw); go_simp; with_reducible rfl
                  try simp only [Act.put, List.setIfInBounds_toArray, List.set_cons_succ]
                  refine wpAnyH_take (i := 3) (v := ?_) rfl (by kernel_rfl) (by kernel_rfl) (by kernel_rfl) (fun _ _ _ h => h) (Or.inl ⟨by kernel_rfl, ?_⟩) (by assumption) ?_
                  rotate_left
                  · intro w hSw; (try dsimp only at hSw); go_simp; with_reducible rfl
                  try simp only [Act.put, List.setIfInBounds_toArray, List.set_cons_succ]
                  refine wpAnyH_take (i := 4) (v := ?_) rfl (by kernel_rfl) (by kernel_rfl) (by kernel_rfl) (fun _ _ _ h => h) (Or.inl ⟨by kernel_rfl, ?_⟩) (by assumption) ?_
                  rotate_left
                  · intro w hSw; (try dsimp only at hSw); go_simp; with_reducible rfl
                  try simp only [Act.put, List.setIfInBounds_toArray, List.set_cons_succ]
                  refine wpAnyH_take (i := 6) (v := ?_) rfl (by kernel_rfl) (by kernel_rfl) (by kernel_rfl) (fun _ _ _ h => h) (Or.inl ⟨by kernel_rfl, ?_⟩) (by assumption) ?_
                  rotate_left
                  · intro w hSw; (try dsimp only at hSw); go_simp; with_reducible rfl
                  try simp only [Act.put, List.setIfInBounds_toArray, List.set_cons_succ]
                  refine wpAnyH_take (i := 7) (v := ?_) rfl (by kernel_rfl) (by kernel_rfl) (by kernel_rfl) (fun _ _ _ h => h) (Or.inl ⟨by kernel_rfl, ?_⟩) (by assumption) ?_
                  rotate_left
                  · intro w hSw; (try dsimp only at hSw); go_simp; with_reducible rfl
                  try simp only [Act.put, List.setIfInBounds_toArray, List.set_cons_succ]
                  refine wpAnyH_ready (rs := [5]) (by kernel_rfl) (by simp) ?_
                  refine AllReadyH.cons rfl (fun K hK => ?_) AllReadyH.nil
                  go_simp
                  (with_reducible refine (HO _).out.mono ?_); rintro e w4 ⟨rfl, b4⟩; have P4 := Lib.hid (P.out.drew.below b4); clear b4
                  refine hK.out _ _ (P4.out.keep hadw hcw) (fun hHeld => ?_)
                  clear hK K
                  try simp only [Act.put, List.setIfInBounds_toArray, List.set_cons_succ]
                  refine wpAnyH_take (i := 8) (v := ?_) rfl (by kernel_rfl) (by kernel_rfl) (by kernel_rfl) (fun _ _ _ h => h) (Or.inl ⟨by kernel_rfl, ?_⟩) (by assumption) ?_
                  rotate_left
                  · intro w hSw; (try dsimp only at hSw); go_simp; with_reducible rfl
                  try simp only [Act.put, List.setIfInBounds_toArray, List.set_cons_succ]
                  refine wpAnyH_take (i := 9) (v := undef) rfl (by kernel_rfl) (by kernel_rfl) (by kernel_rfl) (fun _ _ _ h => h) (Or.inr ⟨by kernel_rfl, rfl⟩) (by assumption) ?_
                  try simp only [Act.put, List.setIfInBounds_toArray, List.set_cons_succ]
                  refine wpAnyH_take (i := 10) (v := undef) rfl (by kernel_rfl) (by kernel_rfl) (by kernel_rfl) (fun _ _ _ h => h) (Or.inr ⟨by kernel_rfl, rfl⟩) (by assumption) ?_
                  try simp only [Act.put, List.setIfInBounds_toArray, List.set_cons_succ]
                  refine wpAnyH_take (i := 11) (v := undef) rfl (by kernel_rfl) (by kernel_rfl) (by kernel_rfl) (fun _ _ _ h => h) (Or.inr ⟨by kernel_rfl, rfl⟩) (by assumption) ?_
                  try simp only [Act.put, List.setIfInBounds_toArray, List.set_cons_succ]
                  refine wpAnyH_take (i := 12) (v := undef) rfl (by kernel_rfl) (by kernel_rfl) (by kernel_rfl) (fun _ _ _ h => h) (Or.inr ⟨by kernel_rfl, rfl⟩) (by assumption) ?_
                  try simp only [Act.put, List.setIfInBounds_toArray, List.set_cons_succ]
                  refine wpAnyH_take (i := 13) (v := undef) rfl (by kernel_rfl) (by kernel_rfl) (by kernel_rfl) (fun _ _ _ h => h) (Or.inr ⟨by kernel_rfl, rfl⟩) (by assumption) ?_
                  try simp only [Act.put, List.setIfInBounds_toArray, List.set_cons_succ]
                  refine wpAnyH_take (i := 14) (v := undef) rfl (by kernel_rfl) (by kernel_rfl) (by kernel_rfl) (fun _ _ _ h => h) (Or.inr ⟨by kernel_rfl, rfl⟩) (by assumption) ?_
                  try simp only [Act.put, List.setIfInBounds_toArray, List.set_cons_succ]
                  refine wpAnyH_take (i := 15) (v := ?_) rfl (by kernel_rfl) (by kernel_rfl) (by kernel_rfl) (fun _ _ _ h => h) (Or.inl ⟨by kernel_rfl, ?_⟩) (by assumption) ?_
                  rotate_left
                  · intro w hSw; (try dsimp only at hSw); go_simp; with_reducible rfl
                  try simp only [Act.put, List.setIfInBounds_toArray, List.set_cons_succ]
                  refine wpAnyH_take (i := 16) (v := ?_) rfl (by kernel_rfl) (by kernel_rfl) (by kernel_rfl) (fun _ _ _ h => h) (Or.inl ⟨by kernel_rfl, ?_⟩) (by assumption) ?_
                  rotate_left
                  · intro w hSw; (try dsimp only at hSw); go_simp; with_reducible rfl
                  try simp only [Act.put, List.setIfInBounds_toArray, List.set_cons_succ]
                  refine wpAnyH_take (i := 17) (v := ?_) rfl (by kernel_rfl) (by kernel_rfl) (by kernel_rfl) (fun _ _ _ h => h) (Or.inl ⟨by kernel_rfl, ?_⟩) (by assumption) ?_
                  rotate_left
                  · intro w hSw; (try dsimp only at hSw); go_simp; with_reducible rfl
                  try simp only [Act.put, List.setIfInBounds_toArray, List.set_cons_succ]
                  refine wpAnyH_take (i := 18) (v := ?_) rfl (by kernel_rfl) (by kernel_rfl) (by kernel_rfl) (fun _ _ _ h => h) (Or.inl ⟨by kernel_rfl, ?_⟩) (by assumption) ?_
                  rotate_left
                  · intro w hSw; (try dsimp only at hSw); go_simp; with_reducible rfl
                  try simp only [Act.put, List.setIfInBounds_toArray, List.set_cons_succ]
                  refine wpAnyH_take (i := 20) (v := ?_) rfl (by kernel_rfl) (by kernel_rfl) (by kernel_rfl) (fun _ _ _ h => h) (Or.inl ⟨by kernel_rfl, ?_⟩) (by assumption) ?_
                  rotate_left
                  · intro w hSw; (try dsimp only at hSw); go_simp; with_reducible rfl
                  try simp only [Act.put, List.setIfInBounds_toArray, List.set_cons_succ]
                  refine wpAnyH_ready (rs := [19]) (by kernel_rfl) (by simp) ?_
                  refine AllReadyH.cons rfl (fun K hK => ?_) AllReadyH.nil
                  go_simp
                  (with_reducible refine (HT _).out.mono ?_); rintro e w5 ⟨rfl, b5⟩; have P5 := Lib.hid (P4.out.below b5); clear b5
                  refine hK.out _ _ (P5.out.keep hadw hcw) (fun hHeld => ?_)
                  clear hK K
                  try simp only [Act.put, List.setIfInBounds_toArray, List.set_cons_succ]
                  refine wpAnyH_ready (rs := [21]) (by kernel_rfl) (by simp) ?_
                  refine AllReadyH.cons rfl (fun K hK => ?_) AllReadyH.nil
                  go_simp
                  (with_reducible refine (HRT _).out.mono ?_); rintro e w8 ⟨rfl, rfl⟩
                  refine hK.out _ _ hHeld (fun hHeld => ?_)
                  clear hK K
                  try simp only [Act.put, List.setIfInBounds_toArray, List.set_cons_succ]
                  refine wpAnyH_ready (rs := [22]) (by kernel_rfl) (by simp) ?_
                  refine AllReadyH.cons rfl (fun K hK => ?_) AllReadyH.nil
                  go_simp
                  (with_reducible refine (HI _).out.mono ?_); rintro e w6 ⟨rfl, b6⟩; have P6 := Lib.hid (P5.out.below b6); clear b6
                  refine hK.out _ _ (P6.out.keep hadw hcw) (fun hHeld => ?_)
                  clear hK K
                  try simp only [Act.put, List.setIfInBounds_toArray, List.set_cons_succ]
                  refine wpAnyH_take (i := 23) (v := ?_) rfl (by kernel_rfl) (by kernel_rfl) (by kernel_rfl) (fun _ _ _ h => h) (Or.inl ⟨by kernel_rfl, ?_⟩) (by assumption) ?_
                  rotate_left
                  · intro w hSw; (try dsimp only at hSw); go_simp; with_reducible rfl
                  try simp only [Act.put, List.setIfInBounds_toArray, List.set_cons_succ]
                  refine wpAnyH_take (i := 24) (v := ?_) rfl (by kernel_rfl) (by kernel_rfl) (by kernel_rfl) (fun _ _ _ h => h) (Or.inl ⟨by kernel_rfl, ?_⟩) (by assumption) ?_
                  rotate_left
                  · intro w hSw; (try dsimp only at hSw); go_simp; with_reducible rfl
                  try simp only [Act.put, List.setIfInBounds_toArray, List.set_cons_succ]
                  refine wpAnyH_done (by kernel_rfl) ?_ _
                  go_wp2_with fail
                  go_meet
                  exact ⟨rfl, P6⟩
              case rest =>
                obtain ⟨rfl, P'⟩ := hcut
                clear P
                have P := P'
                clear P'
                have C0 := Lib.hid (P.out.keep hadw hcw)
                have C1 := Lib.hid (P.out.drew.keep hadw hcw)
                go_upto_region 16 with fail
                go_cut [8, 9] (fun p f wx => ∃ Y : Nat, p = .pointer (some ⟨Y, 0, none⟩) ∧ f = .bool xx ∧ Hid (PL w X o v n wx) ∧ Hid (TM wx Y q u) ∧ X < Y)
                case first =>
                  have hXc := P.out.2.1.lt
                  have hwc := P.out.2.2.size
                  go_region_held3 (fun w' => w'.cell? (ad.add k) = some (.int .i64 x) ∧ w'.frozen? ⟨X, 0, none⟩ = false ∧ w'.frozen? ⟨X, 1, none⟩ = false ∧ w'.cell? ⟨X, 0, none⟩ = some (.bool o) ∧ w'.cell? ⟨X, 1, none⟩ = some (.int .i64 v)) (first | exact C0.out | exact C1.out | exact C4.out | exact (P.out.alloc _).drew.keep hadw hcw | exact (P4.out.put1 hXc hwc _ _).keep hadw hcw | exact (P4.out.alloc _).keep hadw hcw | exact (P4.out.put2 _ _ _).keep hadw hcw | assumption) (first
                    | (go_at_call 15; (with_reducible refine (HF2 _).out.mono ?_); rintro e w4 ⟨rfl, b4⟩; have P4 := Lib.hid (P.out.drew.below b4); have C4 := Lib.hid (P4.out.keep hadw hcw); clear b4)
                    | (go_at_call 15; (with_reducible refine (HF2 _).out.mono ?_); rintro e w4 ⟨rfl, b4⟩; have P4 := Lib.hid ((P.out.alloc _).drew.below b4); have C4 := Lib.hid (P4.out.keep hadw hcw); have T4 := Lib.hid ((TM.new _ false 0).drew.below b4 (by simp)); obtain ⟨d0, d1, e0, e1⟩ := T4.out.cells; clear b4))
                  all_goals go_wp2_with fail
                  all_goals go_meet
                  all_goals first
                    | exact ⟨_, rfl, rfl, Lib.hid (P4.out.alloc _), Lib.hid (TM.new w4 q u), P4.out.2.1.lt⟩
                    | exact ⟨_, rfl, rfl, Lib.hid (P4.out.put1 hXc hwc _ _), Lib.hid (T4.out.set q u), hXc⟩
                case rest =>
                  clear P C0 C1
                  obtain ⟨Y, rfl, rfl, P, TY, hXY⟩ := hcut
                  have c0 := (P.out.keep hadw hcw).1
                  obtain ⟨d0, d1, e0, e1⟩ := TY.out.cells
                  obtain ⟨b0, b1, f0, f1⟩ := P.out.2.1.cells
                  have hy : (xx != decide (y = 1)) = false := by
                    rcases HXY.out with ⟨rfl, rfl⟩ | ⟨rfl, rfl⟩ <;> rfl
                  have hy2 : xx = decide (y = 1) := by
                    rcases HXY.out with ⟨rfl, rfl⟩ | ⟨rfl, rfl⟩ <;> rfl
                  have hy3 : (y == 1) = xx := by
                    rcases HXY.out with ⟨rfl, rfl⟩ | ⟨rfl, rfl⟩ <;> rfl
                  clear TY
                  go_wp2_with fail
                  (with_reducible refine (HRF2 _).out.mono ?_); rintro e w9 ⟨rfl, rfl⟩
                  go_wp2_with fail
                  go_meet
                  exact ⟨q, u, m, rfl, Lib.hid (P.out.set z2 q u m HTS.out)⟩
          case rest =>
            clear P c0
            obtain ⟨o, v, n, rfl, P⟩ := hcut
            obtain ⟨⟨vb0, vb1⟩, nb0, nb1⟩ := P.out.1.bd
            have HI := Lib.hid P.out.1.isB
            obtain ⟨c0, c1, f0, f1⟩ := P.out.2.1.cells
            go_wp2_with fail
            (with_reducible refine (is_is o v n vb0 vb1 (by omega) (by omega) HI _).mono ?_); rintro e w7 ⟨rfl, b7⟩
            have P7 := Lib.hid (P.out.below b7)
            clear b7 P c0 c1 f0 f1
            go_wp2
            go_roundw
            case rel => exact ⟨k + 1, o, v, n, by omega, rfl, by go_num, P7⟩
            case measure => simp [intOf]; omega
        · go_wp2
          go_ret
          exact ⟨rfl, P.out.2.2⟩

end Go.Proofs.Ytdpdgipbcimnlaa
