/- The law RankOrder, walked: it answers true, whatever the three tellings and the cost are. -/
import Derived.Test.YtimldigjjbiemaaRankIn
namespace Go.Proofs.Ytimldigjjbiemaa
open Go.ChangeShapes Go.WideShapes Go.ChangeAt Go.RowKit
set_option linter.unusedVariables false

/-- Three boxed, one behind the other. -/
theorem boxes3 (T : TypeId) (w : World) (x y z : Vec) : ∃ w', ((w.alloc (.cells #[.int .u64 x.r, .int .u32 x.c, .int .u64 x.b, .int .u16 x.p] T)).alloc (.cells #[.int .u64 y.r, .int .u32 y.c, .int .u64 y.b, .int .u16 y.p] T)).alloc (.cells #[.int .u64 z.r, .int .u32 z.c, .int .u64 z.b, .int .u16 z.p] T) = w'
    ∧ VX T w' w.heap.size x ∧ VX T w' (w.heap.size + 1) y ∧ VX T w' (w.heap.size + 1 + 1) z ∧ Below w.heap.size w w' := by
  refine ⟨_, rfl, ((VX.new T w x).alloc _).alloc _, ?_, ?_, (((Below.refl _ _).alloc (Nat.le_refl _) _).alloc (by simp) _).alloc (by simp; omega) _⟩
  · have := (VX.new T (w.alloc (.cells #[.int .u64 x.r, .int .u32 x.c, .int .u64 x.b, .int .u16 x.p] T)) y).alloc (.cells #[.int .u64 z.r, .int .u32 z.c, .int .u64 z.b, .int .u16 z.p] T)
    simpa using this
  · have := VX.new T ((w.alloc (.cells #[.int .u64 x.r, .int .u32 x.c, .int .u64 x.b, .int .u16 x.p] T)).alloc (.cells #[.int .u64 y.r, .int .u32 y.c, .int .u64 y.b, .int .u16 y.p] T)) z
    simpa using this

/-- What the law holds: three tellings in blocks of their own, all older as it was. -/
def H3 (w : World) (X Y Z : Nat) (x y z : Vec) (w' : World) : Prop :=
  VX 28 w' X x ∧ VX 28 w' Y y ∧ VX 28 w' Z z ∧ Below w.heap.size w w'
theorem H3.below {w w' w'' : World} {X Y Z : Nat} {x y z : Vec} (h : H3 w X Y Z x y z w') (b : Below w'.heap.size w' w'') : H3 w X Y Z x y z w'' :=
  ⟨h.1.below b h.1.lt, h.2.1.below b h.2.1.lt, h.2.2.1.below b h.2.2.1.lt, h.2.2.2.trans (b.mono h.2.2.2.size)⟩
theorem H3.drew {w w' : World} {X Y Z : Nat} {x y z : Vec} (h : H3 w X Y Z x y z w') : H3 w X Y Z x y z w'.drew :=
  ⟨h.1, h.2.1, h.2.2.1, h.2.2.2.drew⟩
theorem H3.cells {w w' : World} {X Y Z : Nat} {x y z : Vec} (h : H3 w X Y Z x y z w') :
    w'.cell? ⟨X, 0, none⟩ = some (.int .u64 x.r) ∧ w'.cell? ⟨X, 1, none⟩ = some (.int .u32 x.c) ∧ w'.cell? ⟨X, 2, none⟩ = some (.int .u64 x.b) ∧ w'.cell? ⟨X, 3, none⟩ = some (.int .u16 x.p) ∧
    w'.cell? ⟨Y, 0, none⟩ = some (.int .u64 y.r) ∧ w'.cell? ⟨Y, 1, none⟩ = some (.int .u32 y.c) ∧ w'.cell? ⟨Y, 2, none⟩ = some (.int .u64 y.b) ∧ w'.cell? ⟨Y, 3, none⟩ = some (.int .u16 y.p) ∧
    w'.cell? ⟨Z, 0, none⟩ = some (.int .u64 z.r) ∧ w'.cell? ⟨Z, 1, none⟩ = some (.int .u32 z.c) ∧ w'.cell? ⟨Z, 2, none⟩ = some (.int .u64 z.b) ∧ w'.cell? ⟨Z, 3, none⟩ = some (.int .u16 z.p) :=
  ⟨h.1.cells.1, h.1.cells.2.1, h.1.cells.2.2.1, h.1.cells.2.2.2, h.2.1.cells.1, h.2.1.cells.2.1, h.2.1.cells.2.2.1, h.2.1.cells.2.2.2, h.2.2.1.cells.1, h.2.2.1.cells.2.1, h.2.2.1.cells.2.2.1, h.2.2.1.cells.2.2.2⟩

theorem cmpV_bd (x y : Vec) : -1 ≤ cmpV x y ∧ cmpV x y ≤ 1 := by have := cmpV_cases x y; omega
theorem vec_same (x y : Vec) (q : Bool) (h : decide (cmpV x y = 0) = q) : (((decide (x.r = y.r) && decide (x.c = y.c)) && decide (x.b = y.b)) && decide (x.p = y.p)) = q := by
  have h1 := wpI_cases x y; have h2 := cmpV_cases x y
  rw [← h, Bool.eq_iff_iff]
  simp only [Bool.and_eq_true, decide_eq_true_eq]
  omega
theorem wrap_neg (n : Int) (h0 : -1 ≤ n) (h1 : n ≤ 1) : IntKind.i64.wrap (-n) = -n := by
  rcases (by omega : n = -1 ∨ n = 0 ∨ n = 1) with h | h | h <;> subst h <;> decide

set_option maxRecDepth 100000 in
set_option maxHeartbeats 1000000 in
theorem RankOrder_walk (x y z : Vec) (k : Int) (w : World) (vx : VB x) (vy : VB y) (vz : VB z) (wk : (Lit.int .u32 k).wf = true) :
    Calls Try.prog 4 #[.agg #[.int .u64 x.r, .int .u32 x.c, .int .u64 x.b, .int .u16 x.p], .agg #[.int .u64 y.r, .int .u32 y.c, .int .u64 y.b, .int .u16 y.p], .agg #[.int .u64 z.r, .int .u32 z.c, .int .u64 z.b, .int .u16 z.p], .int .u32 k] w fun e w' => e = .returned (.bool true) ∧ Below w.heap.size w w' := by
  obtain ⟨k0, k1⟩ := bounds_u32 wk
  have k2 : k < 4294967296 := by omega
  have HA := fun W => Lib.hid (cmp_v x y W)
  have HB := fun W => Lib.hid (cmp_v y x W)
  have HC := fun W => Lib.hid (cmp_v y z W)
  have HD := fun W => Lib.hid (cmp_v x z W)
  have HV := fun W => Lib.hid (via_is x k vx k0 k2 W)
  have HE := fun W => Lib.hid (cmp_v (viaV x k) x W)
  have vv := cmpV_via vx k0
  have HK := fun W => Lib.hid (keeps_is x (viaV x k) true (decide_eq_true vv.2) W)
  obtain ⟨m, hm⟩ : ∃ m, cmpV (viaV x k) x = m := ⟨_, rfl⟩
  rw [hm] at HE vv
  simp only [viaV] at HE HK
  have hm0 : 0 ≤ m := vv.1
  clear hm vv wk k1 vx vy vz
  obtain ⟨q, hq⟩ : ∃ q, decide (cmpV x y = 0) = q := ⟨_, rfl⟩
  have E1 := fun W => vec_eq x.r x.c x.b x.p y.r y.c y.b y.p q (vec_same x y q hq) W
  have ht : cmpV x y ≤ 0 → cmpV y z ≤ 0 → cmpV x z ≤ 0 := cmpV_trans
  have hn := cmpV_anti x y
  have bd := cmpV_bd y x
  have hw := wrap_neg _ bd.1 bd.2
  obtain ⟨a, ha⟩ : ∃ a, cmpV x y = a := ⟨_, rfl⟩
  obtain ⟨b, hb⟩ : ∃ b, cmpV y x = b := ⟨_, rfl⟩
  obtain ⟨c, hc⟩ : ∃ c, cmpV y z = c := ⟨_, rfl⟩
  obtain ⟨d, hd⟩ : ∃ d, cmpV x z = d := ⟨_, rfl⟩
  rw [ha] at HA hq ht hn
  rw [hb] at HB hn hw
  rw [hc] at HC ht
  rw [hd] at HD ht
  clear ha hb hc hd bd
  have hn1 : (a != IntKind.i64.wrap (-b)) = false := by rw [hw, hn]; simp
  have hq2 : (a == 0) = q := by rw [← hq]; rfl
  clear hn hw
  obtain ⟨wb, hwb, hx, hy, hz, B⟩ := boxes3 28 w x y z
  have hB : H3 w w.heap.size (w.heap.size + 1) (w.heap.size + 1 + 1) x y z wb := ⟨hx, hy, hz, B⟩
  clear hx hy hz B
  go_enter Try.func4, Try.ntmps4
  go_wp2_with fail
  clear hwb
  (with_reducible refine (awake_rank _).mono ?_); rintro e w1 ⟨rfl, c1⟩
  have h1 := hB.below c1
  clear hB c1
  obtain ⟨X, hX⟩ : ∃ X, w.heap.size = X := ⟨_, rfl⟩
  obtain ⟨Y, hY⟩ : ∃ Y, w.heap.size + 1 = Y := ⟨_, rfl⟩
  rw [hY, hX] at h1
  rw [hY, hX]
  obtain ⟨Z, hZ⟩ : ∃ Z, Y + 1 = Z := ⟨_, rfl⟩
  rw [hZ] at h1
  rw [hZ]
  clear hX hY hZ
  go_upto_region 3 with fail
  go_cut [28] (fun q wx => q = .bool false ∧ H3 w X Y Z x y z wx)
  case first =>
    have K0 := Lib.hid h1.drew.cells
    go_region_held3 (fun w' => w'.cell? ⟨X, 0, none⟩ = some (.int .u64 x.r) ∧ w'.cell? ⟨X, 1, none⟩ = some (.int .u32 x.c) ∧ w'.cell? ⟨X, 2, none⟩ = some (.int .u64 x.b) ∧ w'.cell? ⟨X, 3, none⟩ = some (.int .u16 x.p) ∧ w'.cell? ⟨Y, 0, none⟩ = some (.int .u64 y.r) ∧ w'.cell? ⟨Y, 1, none⟩ = some (.int .u32 y.c) ∧ w'.cell? ⟨Y, 2, none⟩ = some (.int .u64 y.b) ∧ w'.cell? ⟨Y, 3, none⟩ = some (.int .u16 y.p) ∧ w'.cell? ⟨Z, 0, none⟩ = some (.int .u64 z.r) ∧ w'.cell? ⟨Z, 1, none⟩ = some (.int .u32 z.c) ∧ w'.cell? ⟨Z, 2, none⟩ = some (.int .u64 z.b) ∧ w'.cell? ⟨Z, 3, none⟩ = some (.int .u16 z.p)) (first | exact K0.out | exact K5.out | exact K6.out | exact K7.out | assumption) (first
      | (go_at_call 9; (with_reducible refine (HA _).out.mono ?_); rintro e w5 ⟨rfl, b5⟩; have h5 := h1.drew.below b5; have K5 := Lib.hid h5.cells)
      | (go_at_call 9; (with_reducible refine (HB _).out.mono ?_); rintro e w6 ⟨rfl, b6⟩; have h6 := h5.below b6; have K6 := Lib.hid h6.cells)
      | (go_at_call 9; (with_reducible refine (HA _).out.mono ?_); rintro e w7 ⟨rfl, b7⟩; have h7 := h6.below b7; have K7 := Lib.hid h7.cells))
    all_goals go_wp2_with fail
    all_goals go_meet
    all_goals exact ⟨by simp, h7⟩
  case rest =>
    obtain ⟨rfl, h2⟩ := hcut
    clear h1
    obtain ⟨x0, x1, x2, x3, y0, y1, y2, y3, z0, z1, z2, z3⟩ := h2.cells
    go_upto_region 5 with fail
    go_cut [44] (fun q wx => q = .bool false ∧ H3 w X Y Z x y z wx)
    case first =>
      go_wp2_with fail
      (with_reducible refine (HA _).out.mono ?_); rintro e w3 ⟨rfl, b3⟩
      have h3 := h2.below b3
      clear h2 b3 x0 x1 x2 x3 y0 y1 y2 y3 z0 z1 z2 z3
      obtain ⟨x0, x1, x2, x3, y0, y1, y2, y3, z0, z1, z2, z3⟩ := h3.cells
      by_cases ca : a ≤ 0
      · go_wp2_with fail
        (with_reducible refine (HC _).out.mono ?_); rintro e w4 ⟨rfl, b4⟩
        have h4 := h3.below b4
        clear h3 b4 x0 x1 x2 x3 y0 y1 y2 y3 z0 z1 z2 z3
        obtain ⟨x0, x1, x2, x3, y0, y1, y2, y3, z0, z1, z2, z3⟩ := h4.cells
        by_cases cc : c ≤ 0
        · have hd : d ≤ 0 := ht ca cc
          go_wp2_with fail
          (with_reducible refine (HD _).out.mono ?_); rintro e w5 ⟨rfl, b5⟩
          have h5 := h4.below b5
          go_wp2
          go_meet
          exact ⟨by rw [decide_eq_false (by omega)], h5⟩
        · go_wp2
          go_meet
          exact ⟨rfl, h4⟩
      · go_wp2
        go_meet
        exact ⟨rfl, h3⟩
    case rest =>
      obtain ⟨rfl, h4⟩ := hcut
      clear h2 x0 x1 x2 x3 y0 y1 y2 y3 z0 z1 z2 z3
      go_upto_region 7 with fail
      have K0 := Lib.hid h4.drew.cells
      go_region_held3 (fun w' => w'.cell? ⟨X, 0, none⟩ = some (.int .u64 x.r) ∧ w'.cell? ⟨X, 1, none⟩ = some (.int .u32 x.c) ∧ w'.cell? ⟨X, 2, none⟩ = some (.int .u64 x.b) ∧ w'.cell? ⟨X, 3, none⟩ = some (.int .u16 x.p) ∧ w'.cell? ⟨Y, 0, none⟩ = some (.int .u64 y.r) ∧ w'.cell? ⟨Y, 1, none⟩ = some (.int .u32 y.c) ∧ w'.cell? ⟨Y, 2, none⟩ = some (.int .u64 y.b) ∧ w'.cell? ⟨Y, 3, none⟩ = some (.int .u16 y.p) ∧ w'.cell? ⟨Z, 0, none⟩ = some (.int .u64 z.r) ∧ w'.cell? ⟨Z, 1, none⟩ = some (.int .u32 z.c) ∧ w'.cell? ⟨Z, 2, none⟩ = some (.int .u64 z.b) ∧ w'.cell? ⟨Z, 3, none⟩ = some (.int .u16 z.p)) (first | exact K0.out | exact K5.out | exact K6.out | exact K7.out | exact K8.out | assumption) (first
        | (go_at_call 12; (with_reducible refine (HV _).out.mono ?_); rintro e w5 ⟨rfl, b5⟩; have h5 := h4.drew.below b5; have K5 := Lib.hid h5.cells)
        | (go_at_call 9; (with_reducible refine (HE _).out.mono ?_); rintro e w6 ⟨rfl, b6⟩; have h6 := h5.below b6; have K6 := Lib.hid h6.cells)
        | (go_at_call 12; (with_reducible refine (HV _).out.mono ?_); rintro e w7 ⟨rfl, b7⟩; have h7 := h6.below b7; have K7 := Lib.hid h7.cells)
        | (go_at_call 14; (with_reducible refine (HK _).out.mono ?_); rintro e w8 ⟨rfl, b8⟩; have h8 := h7.below b8; have K8 := Lib.hid h8.cells))
      all_goals go_wp2_with fail
      all_goals go_ret
      all_goals exact ⟨rfl, h8.2.2.2⟩

end Go.Proofs.Ytimldigjjbiemaa
