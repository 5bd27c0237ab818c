/- The law ConfCopies, walked. -/
import Derived.Test.YtlccdjkababapaaLater
import Derived.Test.YtlccdjkababapaaConfCopy
import Derived.Test.YtlccdjkababapaaConfSwitch
import Derived.Test.YtlccdjkababapaaConfPortsWalk
import Derived.Laws.StructEq
import Derived.StillTailTactics
namespace Go.Proofs.Ytlccdjkababapaa
open Go.ChangeShapes Go.WideShapes Go.ChangeAt Go.RowKit
set_option linter.unusedVariables false

/-- '==' of ports. -/
theorem port_eq (p q : PV) (r : Bool) (hr : ((decide (p.pr = q.pr) && decide (p.co = q.co)) && (p.on == q.on)) = r) (w : World) :
    (Op.equalIn 10000 30 (.agg #[.int .u8 p.pr, .int .u32 p.co, .bool p.on]) (.agg #[.int .u8 q.pr, .int .u32 q.co, .bool q.on])).run Try.prog w = .ok r w := by
  rw [show (10000 : Nat) = 9999 + 1 from rfl, run_equalIn_struct w 9999 30 _ _ (by kernel_rfl) (by kernel_rfl)]
  simp only [Program.fieldsOf, Try.underlying30]
  subst hr
  go_simp
  by_cases h1 : p.pr = q.pr <;> by_cases h2 : p.co = q.co <;> rcases p.on with _ | _ <;> rcases q.on with _ | _ <;> simp [h1, h2]

/-- The configuration with other ports' place. -/
def dup (c : Cf) (D : Option Addr) (cap : Nat) : Cf := ⟨c.ad, c.pr, c.ma, c.he, c.de, c.ag, c.tb, D, c.n, cap⟩

/-- Both configurations, and the copy's ports, of which those from j on are as they were. -/
def CO (w : World) (X G base : Nat) (c : Cf) (D : Option Addr) (cap : Nat) (L : List PV) (j : Nat) (wx : World) : Prop :=
  (BX w X c wx ∧ X < base ∧ w.heap.size ≤ base) ∧ CX wx G (dup c D cap) ∧ (∀ g, D = some ⟨g, 0, none⟩ → g < G) ∧ ∃ xs, wx.ownsRow base 30 3 (.slice D c.n cap) c.n xs ∧ ∀ k, j * 3 ≤ k → xs[k]? = (cellsOf encP L)[k]?

theorem CO.below {w : World} {X G base : Nat} {c : Cf} {D : Option Addr} {cap : Nat} {L : List PV} {j : Nat} {wx wy : World} (h : CO w X G base c D cap L j wx) (hb : Below wx.heap.size wx wy) : CO w X G base c D cap L j wy := by
  obtain ⟨⟨h1, h2, h3⟩, h4, h5, xs, h6, h7⟩ := h
  exact ⟨⟨h1.below hb, h2, h3⟩, h4.below hb h4.lt, h5, xs, World.ownsRow.kept (row := none) h6 ⟨hb.os, hb.tape, hb.output, hb.size, fun k hk _ => hb.block k hk⟩ (by cases (Value.slice D c.n cap).ownBlock <;> simp), h7⟩

theorem CO.cells {w : World} {X G base : Nat} {c : Cf} {D : Option Addr} {cap : Nat} {L : List PV} {j : Nat} {wx : World} (h : CO w X G base c D cap L j wx) : (wx.cell? ⟨X, 0, none⟩ = some (.int .u64 c.ad) ∧ wx.cell? ⟨X, 1, none⟩ = some (.int .u16 c.pr) ∧ wx.cell? ⟨X, 2, none⟩ = some (.int .i64 c.ma) ∧ wx.cell? ⟨X, 3, none⟩ = some (.int .i64 c.he) ∧ wx.cell? ⟨X, 4, none⟩ = some (.int .i64 c.de) ∧ wx.cell? ⟨X, 5, none⟩ = some (.int .i64 c.ag) ∧ wx.cell? ⟨X, 6, none⟩ = some (.int .i64 c.tb) ∧ wx.cell? ⟨X, 7, none⟩ = some (.slice c.A c.n c.cap)) ∧ (wx.cell? ⟨G, 0, none⟩ = some (.int .u64 c.ad) ∧ wx.cell? ⟨G, 1, none⟩ = some (.int .u16 c.pr) ∧ wx.cell? ⟨G, 2, none⟩ = some (.int .i64 c.ma) ∧ wx.cell? ⟨G, 3, none⟩ = some (.int .i64 c.he) ∧ wx.cell? ⟨G, 4, none⟩ = some (.int .i64 c.de) ∧ wx.cell? ⟨G, 5, none⟩ = some (.int .i64 c.ag) ∧ wx.cell? ⟨G, 6, none⟩ = some (.int .i64 c.tb) ∧ wx.cell? ⟨G, 7, none⟩ = some (.slice D c.n cap)) := ⟨h.1.1.cells, h.2.1.cells⟩

/-- A port of the copy that is as it was. -/
theorem CO.row {w : World} {X G base : Nat} {c : Cf} {D : Option Addr} {cap : Nat} {L : List PV} {j : Nat} {wx : World} (h : CO w X G base c D cap L j wx) (hL : L.length = c.n) {k : Nat} (hjk : j ≤ k) {x : PV} (hx : L[k]? = some x) :
    ∃ g, D = some ⟨g, 0, none⟩ ∧ (base ≤ g ∧ g < wx.heap.size ∧ g ≠ G ∧ g ≠ X) ∧ (wx.cell? ⟨g, k * 3, none⟩ = some (.int .u8 x.pr) ∧ wx.cell? ⟨g, k * 3 + 1, none⟩ = some (.int .u32 x.co) ∧ wx.cell? ⟨g, k * 3 + 2, none⟩ = some (.bool x.on)) ∧ wx.frozen? ⟨g, k * 3 + 1, none⟩ = false := by
  obtain ⟨⟨h1, h2, h3⟩, h4, h5, xs, h6, h7⟩ := h
  have hk : k < c.n := by
    rcases Nat.lt_or_ge k L.length with q | q
    · omega
    · rw [List.getElem?_eq_none q] at hx; cases hx
  obtain ⟨g, cap', e, hg⟩ := owns_row_some h6 (by omega)
  cases e
  have hlt := (h6.lt g rfl).2
  have hg2 := h5 g rfl
  have f : ∀ i, i < 3 → wx.cell? ⟨g, k * 3 + i, none⟩ = (encP x)[i]? := fun i hi => by
    rw [h6.cellAt (k * 3 + i) (by omega), h7 _ (by omega), cellsOf_get encP_len L k x i hx hi]
  exact ⟨g, rfl, ⟨hg, hlt, by omega, by omega⟩, ⟨f 0 (by decide), f 1 (by decide), f 2 (by decide)⟩, h6.frozenAt _⟩

/-- All ports of the copy, ahead of the first change. -/
theorem CO.ports {w : World} {X G base : Nat} {c : Cf} {D : Option Addr} {cap : Nat} {L : List PV} {wx : World} (h : CO w X G base c D cap L 0 wx) (hL : L.length = c.n) (hp : PortsIn w c.A w.heap.size L) : PortsIn wx D wx.heap.size L := fun k x e => by
  obtain ⟨g, e1, ⟨g0, g1, -, -⟩, ⟨c0, c1, c2⟩, -⟩ := h.row hL (Nat.zero_le k) e
  obtain ⟨-, -, -, -, -, -, hb⟩ := hp k x e
  refine ⟨_, e1, g1, ?_, ?_, ?_, hb⟩ <;> rw [addr_add, Nat.zero_add]
  · exact c0
  · exact c1
  · exact c2

/-- A port of the copy changed. -/
theorem CO.store {w : World} {X G base : Nat} {c : Cf} {cap g : Nat} {L : List PV} {j : Nat} {wx : World} (h : CO w X G base c (some ⟨g, 0, none⟩) cap L j wx) (hg : base ≤ g ∧ g < wx.heap.size ∧ g ≠ G ∧ g ≠ X) (u : Value) :
    CO w X G base c (some ⟨g, 0, none⟩) cap L (j + 1) (wx.setCell ⟨g, j * 3 + 1, none⟩ u) := by
  obtain ⟨⟨⟨h0, h1⟩, h2, h3⟩, h4, h5, xs, h6, h7⟩ := h
  refine ⟨⟨⟨h0.far (p := ⟨g, j * 3 + 1, none⟩) hg.2.2.2 u, h1.setCell (p := ⟨g, j * 3 + 1, none⟩) (by show w.heap.size ≤ g; omega) u⟩, h2, h3⟩, h4.far (p := ⟨g, j * 3 + 1, none⟩) hg.2.2.1 u, h5, _, (h6.stored (j * 3 + 1) u).1, fun k hk => ?_⟩
  rw [List.getElem?_set_ne (by omega)]
  exact h7 k (by omega)

set_option maxRecDepth 100000 in
set_option maxHeartbeats 4000000 in
theorem ConfCopies_walk (c : Cf) (L : List PV) (w : World) (hb : CB c) (hL : L.length = c.n) (hc : c.A = none → c.cap = 0) (hp : PortsIn w c.A w.heap.size L) :
    Calls Try.prog 6 #[.agg #[.int .u64 c.ad, .int .u16 c.pr, .int .i64 c.ma, .int .i64 c.he, .int .i64 c.de, .int .i64 c.ag, .int .i64 c.tb, .slice c.A c.n c.cap]] w fun e w' => e = .returned (.bool true) ∧ Below w.heap.size w w' := by
  obtain ⟨wb, hwb, hx, B⟩ := cf_box w c
  have R := Lib.hid (show BX w w.heap.size c wb from ⟨hx, B⟩)
  have hnm : c.n ≤ 9223372036854775807 := hb.2.2.2.2.2.2.2
  have HB := Lib.hid hb
  have HL := Lib.hid hL
  have HC := Lib.hid hc
  have HP := Lib.hid hp
  obtain ⟨q, hq⟩ : ∃ q, decide (c.n ≤ 200) = q := ⟨_, rfl⟩
  have HF := fun W => Lib.hid (few_is c hnm W)
  rw [hq] at HF
  have HQ := Lib.hid hq
  clear hb hL hc hp hx B hq
  go_enter Try.func6, Try.ntmps6
  go_upto_region 1 with fail
  clear hwb
  go_wp2_with fail
  (with_reducible refine (awake_conf _).mono ?_); rintro e w1 ⟨rfl, b1⟩
  have R1 := Lib.hid (R.out.below b1)
  clear R b1
  obtain ⟨x0, x1, x2, x3, x4, x5, x6, x7⟩ := R1.out.cells
  go_wp2_with fail
  (with_reducible refine (HF _).out.mono ?_); rintro e w2 ⟨rfl, b2⟩
  have R2 := Lib.hid (R1.out.below b2)
  clear R1 b2 x0 x1 x2 x3 x4 x5 x6 x7
  cases q with
  | false =>
    go_wp2_with fail
    (with_reducible refine (awake_conf _).mono ?_); rintro e w3 ⟨rfl, b3⟩
    go_wp2
    go_ret
    exact ⟨rfl, (R2.out.below b3).2⟩
  | true =>
    have HN : Hid (c.n ≤ 200) := Lib.hid (of_decide_eq_true HQ.out)
    clear HQ HF
    obtain ⟨X, hX⟩ : ∃ X, w.heap.size = X := ⟨_, rfl⟩
    have HX := Lib.hid hX
    rw [hX] at R2 ⊢
    clear hX hnm
    obtain ⟨x0, x1, x2, x3, x4, x5, x6, x7⟩ := R2.out.cells
    go_wp2_with fail
    (with_reducible refine (copy_is c L HL HN.out HC _ (Lib.hid (R2.out.ports HP.out))).mono ?_); rintro e w3 ⟨D, cap, rfl, hown, b3, hz⟩
    have R3 := Lib.hid (R2.out.below b3)
    have HO := Lib.hid hown
    have hXb : X < w2.heap.size := R2.out.1.lt
    have HS2 := Lib.hid (And.intro hXb (And.intro R2.out.2.size b3.size))
    clear R2 x0 x1 x2 x3 x4 x5 x6 x7 hown hz b3 hXb
    obtain ⟨base, hbase⟩ : ∃ base, w2.heap.size = base := ⟨_, rfl⟩
    rw [hbase] at HO HS2
    clear hbase
    obtain ⟨x0, x1, x2, x3, x4, x5, x6, x7⟩ := R3.out.cells
    go_upto_region 4 with fail
    obtain ⟨w4, hw4, hd, B4⟩ := cf_box w3 (dup c D cap)
    have hw4' : w3.alloc (.cells #[.int .u64 c.ad, .int .u16 c.pr, .int .i64 c.ma, .int .i64 c.he, .int .i64 c.de, .int .i64 c.ag, .int .i64 c.tb, .slice D c.n cap] 27) = w4 := hw4
    rw [hw4']
    have hO := HO.out
    unfold OwnL at hO
    rw [HL.out] at hO
    obtain ⟨hS1, hS2, hS3⟩ := HS2.out
    have hgG : ∀ g, D = some ⟨g, 0, none⟩ → g < w3.heap.size := fun g e => by subst e; exact (hO.lt g rfl).2
    have R4 := Lib.hid (show CO w X w3.heap.size base c D cap L 0 w4 from ⟨⟨R3.out.below B4, hS1, hS2⟩, hd, hgG, cellsOf encP L, hw4 ▸ World.ownsRow.alloc hO _, fun k _ => rfl⟩)
    clear hw4 hw4' hO hS1 hS2 hS3 hgG hd B4 HO HS2 R3 x0 x1 x2 x3 x4 x5 x6 x7
    obtain ⟨G, hG⟩ : ∃ G, w3.heap.size = G := ⟨_, rfl⟩
    rw [hG] at R4 ⊢
    clear hG
    have k0 := fun q : LaterW w4 => (R4.out.below q.h).cells.1.1
    have k1 := fun q : LaterW w4 => (R4.out.below q.h).cells.1.2.1
    have k2 := fun q : LaterW w4 => (R4.out.below q.h).cells.1.2.2.1
    have k3 := fun q : LaterW w4 => (R4.out.below q.h).cells.1.2.2.2.1
    have k4 := fun q : LaterW w4 => (R4.out.below q.h).cells.1.2.2.2.2.1
    have k5 := fun q : LaterW w4 => (R4.out.below q.h).cells.1.2.2.2.2.2.1
    have k6 := fun q : LaterW w4 => (R4.out.below q.h).cells.1.2.2.2.2.2.2.1
    have k7 := fun q : LaterW w4 => (R4.out.below q.h).cells.1.2.2.2.2.2.2.2
    have d0 := fun q : LaterW w4 => (R4.out.below q.h).cells.2.1
    have d1 := fun q : LaterW w4 => (R4.out.below q.h).cells.2.2.1
    have d2 := fun q : LaterW w4 => (R4.out.below q.h).cells.2.2.2.1
    have d3 := fun q : LaterW w4 => (R4.out.below q.h).cells.2.2.2.2.1
    have d4 := fun q : LaterW w4 => (R4.out.below q.h).cells.2.2.2.2.2.1
    have d5 := fun q : LaterW w4 => (R4.out.below q.h).cells.2.2.2.2.2.2.1
    have d6 := fun q : LaterW w4 => (R4.out.below q.h).cells.2.2.2.2.2.2.2.1
    have d7 := fun q : LaterW w4 => (R4.out.below q.h).cells.2.2.2.2.2.2.2.2
    have c1 : ∀ q : LaterW w4, Hid (Calls Try.prog 10 #[.agg #[.int .u64 c.ad, .int .u16 c.pr, .int .i64 c.ma, .int .i64 c.he, .int .i64 c.de, .int .i64 c.ag, .int .i64 c.tb, .slice D c.n cap]] q.w' fun e w' => e = .returned (.int .i64 (checkI c L)) ∧ Below q.w'.heap.size q.w' w') := fun q => Lib.hid (check_is (dup c D cap) L HL.out HN.out HB.out q.w' ((R4.out.below q.h).ports HL.out HP.out))
    have c2 := fun q : LaterW w4 => Lib.hid (check_is c L HL.out HN.out HB.out q.w' ((R4.out.below q.h).1.1.ports HP.out))
    have c3 : ∀ q : LaterW w4, Hid (Calls Try.prog 15 #[.agg #[.int .u64 c.ad, .int .u16 c.pr, .int .i64 c.ma, .int .i64 c.he, .int .i64 c.de, .int .i64 c.ag, .int .i64 c.tb, .slice D c.n cap]] q.w' fun e w' => e = .returned (.int .u64 (idI c)) ∧ Below q.w'.heap.size q.w' w') := fun q => Lib.hid (id_is (dup c D cap) HB.out q.w')
    have c4 := fun q : LaterW w4 => Lib.hid (id_is c HB.out q.w')
    have hmx := mixedL
    refine region_later hmx (by kernel_rfl) ?_
    repeat (go_big_quiet_step ((first | (go_at_call 10; first | with_reducible exact Calls.later (c1 _).out | with_reducible exact Calls.later (c2 _).out) | (go_at_call 15; first | with_reducible exact Calls.later (c3 _).out | with_reducible exact Calls.later (c4 _).out))))
    refine wpQuiet_nil ?_
    intro _ hw'
    obtain ⟨r, hw''⟩ := hw'
    subst hw''
    have R5 := Lib.hid (R4.out.below r.h)
    generalize r.w' = w5 at R5 ⊢
    clear R4 c1 c2 c3 c4 k0 k1 k2 k3 k4 k5 k6 k7 d0 d1 d2 d3 d4 d5 d6 d7
    go_wp2
    go_loopw [4] (fun i wr => ∃ j : Nat, j ≤ c.n ∧ i = .int .i64 j ∧ Hid (CO w X G base c D cap L j wr)) (fun i _ => c.n - (intOf i).toNat)
    case atStart => exact ⟨0, Nat.zero_le _, rfl, R5⟩
    case round =>
      clear R5
      obtain ⟨j, hj, rfl, R⟩ := hrel
      obtain ⟨⟨-, -, -, -, -, -, -, x7⟩, ⟨-, -, -, -, -, -, -, y7⟩⟩ := R.out.cells
      by_cases hjn : j < c.n
      · have hji : (j : Int) < (c.n : Int) := by omega
        obtain ⟨x, hx⟩ := pv_at HL.out hjn
        have HXX := Lib.hid hx
        have HJN := Lib.hid hjn
        obtain ⟨ad, hA, hab, ⟨u0, u1, u2⟩, -⟩ := port_cells (R.out.1.1.ports HP.out) hx
        obtain ⟨g, rfl, hg, ⟨v0, v1, v2⟩, vf⟩ := R.out.row HL.out (Nat.le_refl j) hx
        rw [hA] at x7
        have HG := Lib.hid hg
        clear hg hx
        have hq := fun W => port_eq x x true (by simp) W
        go_wp2
        go_quiet (fail)
        have Bq : Below wr.heap.size wr (wr.drewN nq) := ⟨rfl, rfl, rfl, Nat.le_refl _, fun _ _ => rfl⟩
        have R6 := Lib.hid (R.out.below Bq)
        generalize wr.drewN nq = w6 at R6 ⊢
        clear u0 u1 u2 v0 v1 v2 vf x7 y7 hab R Bq
        obtain ⟨⟨-, -, -, -, -, -, -, x7⟩, ⟨-, -, -, -, -, -, -, y7⟩⟩ := R6.out.cells
        obtain ⟨ad', hA', hab, ⟨u0, u1, u2⟩, -⟩ := port_cells (R6.out.1.1.ports HP.out) HXX.out
        obtain rfl : ad = ad' := Option.some.inj (hA.symm.trans hA')
        rw [hA] at x7
        go_upto_region 12 with fail
        have hz7 := PX.new w6 x
        have B7 := (Below.refl w6.heap.size w6).alloc (Nat.le_refl _) (.cells #[.int .u8 x.pr, .int .u32 x.co, .bool x.on] 30)
        obtain ⟨w7, hw7⟩ : ∃ w7, w6.alloc (.cells #[.int .u8 x.pr, .int .u32 x.co, .bool x.on] 30) = w7 := ⟨_, rfl⟩
        rw [hw7] at hz7 B7 ⊢
        have R7 := Lib.hid (R6.out.below B7)
        have HZ := Lib.hid hz7
        obtain ⟨g', e', hg6, -, -⟩ := R6.out.row HL.out (Nat.le_refl j) HXX.out
        obtain rfl : g = g' := by injection Option.some.inj e'
        have HG6 := Lib.hid hg6
        obtain ⟨H, hH⟩ : ∃ H, w6.heap.size = H := ⟨_, rfl⟩
        rw [hH] at HZ HG6 ⊢
        clear hw7 hz7 B7 R6 hg6 hH u0 u1 u2 x7 y7 hab hA' e' HG
        obtain ⟨⟨-, -, -, -, -, -, -, x7⟩, ⟨-, -, -, -, -, -, -, y7⟩⟩ := R7.out.cells
        obtain ⟨g', e', -, ⟨v0, v1, v2⟩, vf⟩ := R7.out.row HL.out (Nat.le_refl j) HXX.out
        obtain rfl : g = g' := by injection Option.some.inj e'
        clear e'
        go_still_tail 12, (by kernel_rfl)
        change wpList _ _ _ _ _ w7.drew
        have R8 := Lib.hid (R7.out.below ((Below.refl _ _).drew))
        have HZ8 := Lib.hid HZ.out.drew
        generalize w7.drew = w8 at R8 HZ8 ⊢
        clear R7 HZ v0 v1 v2 vf x7 y7
        obtain ⟨g', e', hg8, ⟨v0, v1, v2⟩, vf⟩ := R8.out.row HL.out (Nat.le_refl j) HXX.out
        obtain rfl : g = g' := by injection Option.some.inj e'
        have HG8 := Lib.hid hg8
        clear e' hg8
        go_wp2
        have hw9 : ∃ w9, w8.setCell ⟨g, j * 3 + 1, none⟩ (.int .u32 ((x.co + 1) % 4294967296)) = w9 := ⟨_, rfl⟩
        obtain ⟨w9, hw9⟩ := hw9
        have hR9 := R8.out.store HG8.out (.int .u32 ((x.co + 1) % 4294967296))
        have hZ9 : PX (w8.setCell ⟨g, j * 3 + 1, none⟩ (.int .u32 ((x.co + 1) % 4294967296))) H x := Bk.far HZ8.out (p := ⟨g, j * 3 + 1, none⟩) (by show g ≠ H; have := HG6.out; omega) _
        rw [hw9] at hR9 hZ9 ⊢
        have R9 := Lib.hid hR9
        clear hR9 hw9 v0 v1 v2 vf R8 HZ8
        obtain ⟨z0, z1, z2⟩ := hZ9.cells
        have HZ9 := Lib.hid hZ9
        clear hZ9
        obtain ⟨⟨-, -, -, -, -, -, -, x7⟩, -⟩ := R9.out.cells
        obtain ⟨ad', hA', hab, ⟨u0, u1, u2⟩, -⟩ := port_cells (R9.out.1.1.ports HP.out) HXX.out
        obtain rfl : ad = ad' := Option.some.inj (hA.symm.trans hA')
        rw [hA] at x7
        clear hA'
        go_quiet (fail)
        have R10 := Lib.hid (R9.out.below (show Below w9.heap.size w9 (w9.drewN nq) from ⟨rfl, rfl, rfl, Nat.le_refl _, fun _ _ => rfl⟩))
        generalize w9.drewN nq = w10 at R10 ⊢
        clear u0 u1 u2 x7 z0 z1 z2 R9 hab
        have hn : c.n ≤ 200 := HN.out
        have hj1 : j < c.n := HJN.out
        go_wp2
        rw [← hA]
        go_roundw
        case rel => exact ⟨j + 1, HJN.out, by go_num, R10⟩
        case measure => have hj1 := HJN.out; simp [intOf]; omega
      · have hji : ¬ (j : Int) < (c.n : Int) := by omega
        go_wp2
        go_ret
        exact ⟨rfl, R.out.1.1.2⟩

end Go.Proofs.Ytlccdjkababapaa
