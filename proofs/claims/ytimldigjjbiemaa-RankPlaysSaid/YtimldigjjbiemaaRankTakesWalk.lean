/- The law RankTakes, walked: it answers true, whatever the two tellings and the own bridge are. -/
import Derived.Test.YtimldigjjbiemaaRankIn
namespace Go.Proofs.Ytimldigjjbiemaa
open Go.ChangeShapes Go.WideShapes Go.ChangeAt Go.RowKit
set_option linter.unusedVariables false
set_option linter.unusedSimpArgs false

/-- What the law holds: two tellings in blocks of their own, all older as it was. -/
def H2 (w : World) (X Y : Nat) (x y : Vec) (w' : World) : Prop :=
  VX 28 w' X x ∧ VX 28 w' Y y ∧ Below w.heap.size w w'
theorem H2.below {w w' w'' : World} {X Y : Nat} {x y : Vec} (h : H2 w X Y x y w') (b : Below w'.heap.size w' w'') : H2 w X Y x y w'' :=
  ⟨h.1.below b h.1.lt, h.2.1.below b h.2.1.lt, h.2.2.trans (b.mono h.2.2.size)⟩
theorem H2.drew {w w' : World} {X Y : Nat} {x y : Vec} (h : H2 w X Y x y w') : H2 w X Y x y w'.drew :=
  ⟨h.1, h.2.1, h.2.2.drew⟩
theorem H2.cells {w w' : World} {X Y : Nat} {x y : Vec} (h : H2 w X Y x y w') :
    w'.cell? ⟨X, 0, none⟩ = some (.int .u64 x.r) ∧ w'.cell? ⟨X, 1, none⟩ = some (.int .u32 x.c) ∧ w'.cell? ⟨X, 2, none⟩ = some (.int .u64 x.b) ∧ w'.cell? ⟨X, 3, none⟩ = some (.int .u16 x.p) ∧
    w'.cell? ⟨Y, 0, none⟩ = some (.int .u64 y.r) ∧ w'.cell? ⟨Y, 1, none⟩ = some (.int .u32 y.c) ∧ w'.cell? ⟨Y, 2, none⟩ = some (.int .u64 y.b) ∧ w'.cell? ⟨Y, 3, none⟩ = some (.int .u16 y.p) :=
  VX.eight h.1 h.2.1

/-- What the law asks of the answers. -/
def TakesG (s sm : Bool) (c xb o : Int) : Prop := (s = true → 0 < c → sm = true ∧ ¬ xb = o) ∧ (sm = false → s = decide (c < 0))
theorem takes_all (x y : Vec) (o : Int) : TakesG (supB x y o) (same3 x y) (cmpV x y) x.b o := by
  unfold TakesG
  rcases wpI_cases x y with ⟨-, e⟩ | ⟨-, e⟩ | ⟨-, e⟩
  · have hs : same3 x y = false := by rw [same3_wp, e]; rfl
    have hc : cmpV x y = -1 := by rw [cmpV_not0 (by omega), e]
    rw [hs, hc, supB_lt e]
    exact ⟨fun _ h => by omega, fun _ => rfl⟩
  · have hs : same3 x y = true := by rw [same3_wp, e]; rfl
    rw [hs, supB_eq e]
    refine ⟨fun h g => ⟨rfl, fun hb => ?_⟩, fun h => by cases h⟩
    rw [decide_eq_true hb] at h
    have h2 : x.p ≤ y.p := by simpa using h
    have := cmpV_cases x y
    omega
  · have hs : same3 x y = false := by rw [same3_wp, e]; rfl
    have hc : cmpV x y = 1 := by rw [cmpV_not0 (by omega), e]
    rw [hs, hc, supB_gt e]
    exact ⟨fun h _ => (by cases h), fun _ => rfl⟩

set_option maxRecDepth 100000 in
set_option maxHeartbeats 1000000 in
theorem RankTakes_walk (x y : Vec) (o : Int) (w : World) (vx : VB x) (vy : VB y) (wo : (Lit.int .u64 o).wf = true) :
    Calls Try.prog 5 #[.agg #[.int .u64 x.r, .int .u32 x.c, .int .u64 x.b, .int .u16 x.p], .agg #[.int .u64 y.r, .int .u32 y.c, .int .u64 y.b, .int .u16 y.p], .int .u64 o] w fun e w' => e = .returned (.bool true) ∧ Below w.heap.size w w' := by
  clear vx vy wo
  have g := takes_all x y o
  obtain ⟨s, hs⟩ : ∃ s, supB x y o = s := ⟨_, rfl⟩
  have HS := fun W => Lib.hid (sup_is x y o s (Lib.hid hs) W)
  have HY := fun W => Lib.hid (sup_is y y o true (Lib.hid (supB_self y o)) W)
  have HC := fun W => Lib.hid (cmp_v x y W)
  obtain ⟨c, hc⟩ : ∃ c, cmpV x y = c := ⟨_, rfl⟩
  rw [hc] at HC g
  rw [hs] at g
  clear hc hs
  obtain ⟨wb, hwb, hx, hy, B⟩ := boxes2 28 w x y
  have hB : H2 w w.heap.size (w.heap.size + 1) x y wb := ⟨hx, hy, B⟩
  clear hx hy B
  go_enter Try.func5, Try.ntmps5
  go_wp2_with fail
  clear hwb
  (with_reducible refine (awake_rank _).mono ?_); rintro e w1 ⟨rfl, c1⟩
  have h1 := hB.below c1
  clear hB c1
  obtain ⟨X, hX⟩ : ∃ X, w.heap.size = X := ⟨_, rfl⟩
  obtain ⟨Y, hY⟩ : ∃ Y, w.heap.size + 1 = Y := ⟨_, rfl⟩
  rw [hY, hX] at h1
  rw [hY, hX]
  clear hX hY
  go_upto_region 4 with fail
  go_cut [8] (fun q wx => q = .bool (same3 x y) ∧ H2 w X Y x y wx)
  case first =>
    obtain ⟨x0, x1, x2, x3, y0, y1, y2, y3⟩ := h1.cells
    have hs0 : same3 x y = (((x.r == y.r) && (x.c == y.c)) && (x.b == y.b)) := rfl
    have hs0 := Lib.hid hs0
    obtain ⟨p1, hp1⟩ : ∃ p, (x.r == y.r) = p := ⟨_, rfl⟩
    obtain ⟨p2, hp2⟩ : ∃ p, (x.c == y.c) = p := ⟨_, rfl⟩
    obtain ⟨p3, hp3⟩ : ∃ p, (x.b == y.b) = p := ⟨_, rfl⟩
    have hs1 := hs0.out
    rw [hp1, hp2, hp3] at hs1
    have hs1 := Lib.hid hs1
    clear hs0
    cases p1 with
    | false =>
      go_wp2
      go_meet
      exact ⟨by rw [hs1.out]; rfl, h1⟩
    | true =>
      cases p2 with
      | false =>
        go_wp2
        go_meet
        exact ⟨by rw [hs1.out]; rfl, h1⟩
      | true =>
        go_wp2
        go_meet
        exact ⟨by rw [hs1.out]; rfl, h1⟩
  case rest =>
    obtain ⟨rfl, h2⟩ := hcut
    obtain ⟨sm, hsm⟩ : ∃ sm, same3 x y = sm := ⟨_, rfl⟩
    rw [hsm] at g
    rw [hsm]
    clear hsm h1
    go_upto_region 5 with fail
    go_cut [50] (fun q wx => q = .bool false ∧ H2 w X Y x y wx)
    case first =>
      obtain ⟨x0, x1, x2, x3, y0, y1, y2, y3⟩ := h2.cells
      go_wp2_with fail
      (with_reducible refine (HS _).out.mono ?_); rintro e w3 ⟨rfl, b3⟩
      have h3 := h2.below b3
      clear h2 b3 x0 x1 x2 x3 y0 y1 y2 y3
      obtain ⟨x0, x1, x2, x3, y0, y1, y2, y3⟩ := h3.cells
      cases s with
      | false =>
        go_wp2
        go_meet
        exact ⟨rfl, h3⟩
      | true =>
        go_wp2_with fail
        (with_reducible refine (HC _).out.mono ?_); rintro e w4 ⟨rfl, b4⟩
        have h4 := h3.below b4
        clear h3 b4 x0 x1 x2 x3 y0 y1 y2 y3
        obtain ⟨x0, x1, x2, x3, y0, y1, y2, y3⟩ := h4.cells
        by_cases cc : 0 < c
        · obtain ⟨e1, e2⟩ := g.1 rfl cc
          subst e1
          go_wp2
          go_meet
          exact ⟨by first | rfl | simp [e2], h4⟩
        · go_wp2
          go_meet
          exact ⟨rfl, h4⟩
    case rest =>
      obtain ⟨rfl, h3⟩ := hcut
      clear h2
      go_upto_region 7 with fail
      go_cut [63] (fun q wx => q = .bool false ∧ H2 w X Y x y wx)
      case first =>
        have K0 := Lib.hid h3.drew.cells
        cases sm with
        | true =>
          refine wp_region_held_drew (S := (fun w' => w'.cell? ⟨X, 0, none⟩ = some (.int .u64 x.r) ∧ w'.cell? ⟨X, 1, none⟩ = some (.int .u32 x.c) ∧ w'.cell? ⟨X, 2, none⟩ = some (.int .u64 x.b) ∧ w'.cell? ⟨X, 3, none⟩ = some (.int .u16 x.p) ∧ w'.cell? ⟨Y, 0, none⟩ = some (.int .u64 y.r) ∧ w'.cell? ⟨Y, 1, none⟩ = some (.int .u32 y.c) ∧ w'.cell? ⟨Y, 2, none⟩ = some (.int .u64 y.b) ∧ w'.cell? ⟨Y, 3, none⟩ = some (.int .u16 y.p))) (by kernel_rfl) K0.out (fun hHeld => ?_)
          refine wpAnyH_take (i := 0) (v := ?_) rfl (by kernel_rfl) (by kernel_rfl) (by kernel_rfl) (fun _ _ _ h => h) (Or.inl ⟨by kernel_rfl, ?_⟩) (by assumption) ?_
          rotate_left
          · intro w hSw; (try dsimp only at hSw); go_simp; with_reducible rfl
          try simp only [Act.put, List.getElem_toArray, List.getElem_cons_succ, List.getElem_cons_zero, List.setIfInBounds_toArray, List.set_cons_succ]
          refine wpAnyH_take (i := 1) (v := ?_) rfl (by kernel_rfl) (by kernel_rfl) (by kernel_rfl) (fun _ _ _ h => h) (Or.inl ⟨by kernel_rfl, ?_⟩) (by assumption) ?_
          rotate_left
          · intro w hSw; (try dsimp only at hSw); go_simp; with_reducible rfl
          try simp only [Act.put, List.getElem_toArray, List.getElem_cons_succ, List.getElem_cons_zero, List.setIfInBounds_toArray, List.set_cons_succ]
          refine wpAnyH_take (i := 2) (v := ?_) rfl (by kernel_rfl) (by kernel_rfl) (by kernel_rfl) (fun _ _ _ h => h) (Or.inl ⟨by kernel_rfl, ?_⟩) (by assumption) ?_
          rotate_left
          · intro w hSw; (try dsimp only at hSw); go_simp; with_reducible rfl
          try simp only [Act.put, List.getElem_toArray, List.getElem_cons_succ, List.getElem_cons_zero, List.setIfInBounds_toArray, List.set_cons_succ]
          refine wpAnyH_take (i := 3) (v := undef) rfl (by kernel_rfl) (by kernel_rfl) (by kernel_rfl) (fun _ _ _ h => h) (Or.inr ⟨by kernel_rfl, rfl⟩) (by assumption) ?_
          try simp only [Act.put, List.getElem_toArray, List.getElem_cons_succ, List.getElem_cons_zero, List.setIfInBounds_toArray, List.set_cons_succ]
          refine wpAnyH_take (i := 4) (v := undef) rfl (by kernel_rfl) (by kernel_rfl) (by kernel_rfl) (fun _ _ _ h => h) (Or.inr ⟨by kernel_rfl, rfl⟩) (by assumption) ?_
          try simp only [Act.put, List.getElem_toArray, List.getElem_cons_succ, List.getElem_cons_zero, List.setIfInBounds_toArray, List.set_cons_succ]
          refine wpAnyH_take (i := 5) (v := undef) rfl (by kernel_rfl) (by kernel_rfl) (by kernel_rfl) (fun _ _ _ h => h) (Or.inr ⟨by kernel_rfl, rfl⟩) (by assumption) ?_
          try simp only [Act.put, List.getElem_toArray, List.getElem_cons_succ, List.getElem_cons_zero, List.setIfInBounds_toArray, List.set_cons_succ]
          refine wpAnyH_take (i := 6) (v := undef) rfl (by kernel_rfl) (by kernel_rfl) (by kernel_rfl) (fun _ _ _ h => h) (Or.inr ⟨by kernel_rfl, rfl⟩) (by assumption) ?_
          try simp only [Act.put, List.getElem_toArray, List.getElem_cons_succ, List.getElem_cons_zero, List.setIfInBounds_toArray, List.set_cons_succ]
          refine wpAnyH_take (i := 7) (v := undef) rfl (by kernel_rfl) (by kernel_rfl) (by kernel_rfl) (fun _ _ _ h => h) (Or.inr ⟨by kernel_rfl, rfl⟩) (by assumption) ?_
          try simp only [Act.put, List.getElem_toArray, List.getElem_cons_succ, List.getElem_cons_zero, List.setIfInBounds_toArray, List.set_cons_succ]
          refine wpAnyH_take (i := 8) (v := undef) rfl (by kernel_rfl) (by kernel_rfl) (by kernel_rfl) (fun _ _ _ h => h) (Or.inr ⟨by kernel_rfl, rfl⟩) (by assumption) ?_
          try simp only [Act.put, List.getElem_toArray, List.getElem_cons_succ, List.getElem_cons_zero, List.setIfInBounds_toArray, List.set_cons_succ]
          refine wpAnyH_take (i := 9) (v := undef) rfl (by kernel_rfl) (by kernel_rfl) (by kernel_rfl) (fun _ _ _ h => h) (Or.inr ⟨by kernel_rfl, rfl⟩) (by assumption) ?_
          try simp only [Act.put, List.getElem_toArray, List.getElem_cons_succ, List.getElem_cons_zero, List.setIfInBounds_toArray, List.set_cons_succ]
          refine wpAnyH_take (i := 10) (v := undef) rfl (by kernel_rfl) (by kernel_rfl) (by kernel_rfl) (fun _ _ _ h => h) (Or.inr ⟨by kernel_rfl, rfl⟩) (by assumption) ?_
          try simp only [Act.put, List.getElem_toArray, List.getElem_cons_succ, List.getElem_cons_zero, List.setIfInBounds_toArray, List.set_cons_succ]
          refine wpAnyH_take (i := 11) (v := undef) rfl (by kernel_rfl) (by kernel_rfl) (by kernel_rfl) (fun _ _ _ h => h) (Or.inr ⟨by kernel_rfl, rfl⟩) (by assumption) ?_
          try simp only [Act.put, List.getElem_toArray, List.getElem_cons_succ, List.getElem_cons_zero, List.setIfInBounds_toArray, List.set_cons_succ]
          refine wpAnyH_take (i := 12) (v := ?_) rfl (by kernel_rfl) (by kernel_rfl) (by kernel_rfl) (fun _ _ _ h => h) (Or.inl ⟨by kernel_rfl, ?_⟩) (by assumption) ?_
          rotate_left
          · intro w hSw; (try dsimp only at hSw); go_simp; with_reducible rfl
          try simp only [Act.put, List.getElem_toArray, List.getElem_cons_succ, List.getElem_cons_zero, List.setIfInBounds_toArray, List.set_cons_succ]
          refine wpAnyH_done (by kernel_rfl) ?_ _
          go_wp2_with fail
          go_meet
          exact ⟨rfl, h3.drew⟩
        | false =>
          have e1 := Lib.hid (g.2 rfl)
          go_region_held3 (fun w' => w'.cell? ⟨X, 0, none⟩ = some (.int .u64 x.r) ∧ w'.cell? ⟨X, 1, none⟩ = some (.int .u32 x.c) ∧ w'.cell? ⟨X, 2, none⟩ = some (.int .u64 x.b) ∧ w'.cell? ⟨X, 3, none⟩ = some (.int .u16 x.p) ∧ w'.cell? ⟨Y, 0, none⟩ = some (.int .u64 y.r) ∧ w'.cell? ⟨Y, 1, none⟩ = some (.int .u32 y.c) ∧ w'.cell? ⟨Y, 2, none⟩ = some (.int .u64 y.b) ∧ w'.cell? ⟨Y, 3, none⟩ = some (.int .u16 y.p)) (first | exact K0.out | exact K5.out | exact K6.out | assumption) (first
            | (go_at_call 16; (with_reducible refine (HS _).out.mono ?_); rintro e w5 ⟨rfl, b5⟩; have h5 := h3.drew.below b5; have K5 := Lib.hid h5.cells)
            | (go_at_call 9; (with_reducible refine (HC _).out.mono ?_); rintro e w6 ⟨rfl, b6⟩; have h6 := h5.below b6; have K6 := Lib.hid h6.cells))
          all_goals go_wp2_with fail
          all_goals go_meet
          all_goals exact ⟨by rw [e1.out]; simp, h6⟩
      case rest =>
        obtain ⟨rfl, h4⟩ := hcut
        clear h3
        obtain ⟨x0, x1, x2, x3, y0, y1, y2, y3⟩ := h4.cells
        go_wp2_with fail
        (with_reducible refine (HY _).out.mono ?_); rintro e w5 ⟨rfl, b5⟩
        have h5 := h4.below b5
        go_wp2
        go_ret
        exact ⟨rfl, h5.2.2⟩

end Go.Proofs.Ytimldigjjbiemaa
