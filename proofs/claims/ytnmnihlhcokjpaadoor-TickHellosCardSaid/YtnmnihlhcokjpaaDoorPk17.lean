/- Several texts in one, one behind the other: ConfCases, ConfRefTimes, ConfRefCheck, ConfIn. -/
import Derived.Test.YtnmnihlhcokjpaaDoorPk05
import Derived.LoopTactic
import Derived.Deep.CutBlock
import Derived.Deep.Slices
import Derived.Deep.Fields
import Derived.ChangeSame
import Derived.Lib.SmallJoins

/- What is wrong first, case by case. -/
namespace Go.Proofs.YtnmnihlhcokjpaaDoor
set_option maxRecDepth 100000
open Go.ChangeShapes Go.WideShapes Go.ChangeAt Go.RowKit
set_option linter.unusedVariables false

theorem check1 {c : Cf} (L : List PV) (h : rightB c.ad = false) : ccheckI c L = 1 := by unfold ccheckI; rw [if_pos h]
theorem check2 {c : Cf} (L : List PV) (h : rightB c.ad = true) (h2 : timesB c = false) : ccheckI c L = 3 := by unfold ccheckI; rw [h, h2]; rfl
theorem check3 {c : Cf} (L : List PV) (h : rightB c.ad = true) (h2 : timesB c = true) (h3 : inI c.ag 10 1000000 = false) : ccheckI c L = 3 := by unfold ccheckI; rw [h, h2, h3]; rfl
theorem check4 {c : Cf} (L : List PV) (h : rightB c.ad = true) (h2 : timesB c = true) (h3 : inI c.ag 10 1000000 = true) (h4 : inI c.tb 0 64 = false) : ccheckI c L = 3 := by unfold ccheckI; rw [h, h2, h3, h4]; rfl
theorem check5 {c : Cf} (L : List PV) (h : rightB c.ad = true) (h2 : timesB c = true) (h3 : inI c.ag 10 1000000 = true) (h4 : inI c.tb 0 64 = true) (h5 : c.n = 0) : ccheckI c L = 8 := by unfold ccheckI; rw [h, h2, h3, h4, if_neg (by decide), if_neg (by decide), if_neg (by decide), if_neg (by decide), if_pos h5]
theorem check6 {c : Cf} (L : List PV) (h : rightB c.ad = true) (h2 : timesB c = true) (h3 : inI c.ag 10 1000000 = true) (h4 : inI c.tb 0 64 = true) (h6 : 4 < c.n) : ccheckI c L = 4 := by unfold ccheckI; rw [h, h2, h3, h4, if_neg (by decide), if_neg (by decide), if_neg (by decide), if_neg (by decide), if_neg (by omega), if_pos h6]
theorem check7 {c : Cf} {L : List PV} {r : Bool} (h : rightB c.ad = true) (h2 : timesB c = true) (h3 : inI c.ag 10 1000000 = true) (h4 : inI c.tb 0 64 = true) (h5 : ¬ c.n = 0) (h6 : ¬ 4 < c.n) (h7 : L.any badB = r) : ccheckI c L = if r = true then 3 else 0 := by
  unfold ccheckI; rw [h, h2, h3, h4, h7, if_neg (by decide), if_neg (by decide), if_neg (by decide), if_neg (by decide), if_neg h5, if_neg h6]

end Go.Proofs.YtnmnihlhcokjpaaDoor

/- The document's Times: contract. -/
namespace Go.Proofs.YtnmnihlhcokjpaaDoor
set_option maxRecDepth 100000
open Go.ChangeShapes Go.WideShapes Go.ChangeAt Go.RowKit
set_option linter.unusedVariables false

set_option maxHeartbeats 1000000 in
theorem rtimes_is (c : Cf) (hb : CB c) (r : Bool) (hr : Hid (timesB c = r)) (w : World) :
    Calls Tryd.prog 28 #[.agg #[.int .u64 c.ad, .int .u16 c.pr, .int .i64 c.ma, .int .i64 c.he, .int .i64 c.de, .int .i64 c.ag, .int .i64 c.tb, .slice c.A c.n c.cap]] w fun e w' => e = .returned (.bool r) ∧ Below w.heap.size w w' := by
  obtain rfl := hr.out
  obtain ⟨-, -, ⟨a0, a1⟩, ⟨b0, b1⟩, ⟨d0, d1⟩, -⟩ := hb
  clear hr
  go_enter Tryd.func28, Tryd.ntmps28
  go_wp2
  all_goals go_ret
  all_goals exact ⟨ret_bool (by unfold timesB inI; rw [Bool.eq_iff_iff]; simp <;> omega), (Below.refl _ _).alloc (Nat.le_refl _) _⟩

end Go.Proofs.YtnmnihlhcokjpaaDoor

/- The document's Check and Port: contracts. -/
namespace Go.Proofs.YtnmnihlhcokjpaaDoor
set_option maxRecDepth 100000
open Go.ChangeShapes Go.WideShapes Go.ChangeAt Go.RowKit
set_option linter.unusedVariables false

set_option maxRecDepth 100000 in
set_option maxHeartbeats 2000000 in
theorem rcheck_is (c : Cf) (L : List PV) (hL : L.length = c.n) (hf : c.n ≤ 200) (hb : CB c) (w : World) (hp : PortsIn w c.A w.heap.size L) :
    Calls Tryd.prog 13 #[.agg #[.int .u64 c.ad, .int .u16 c.pr, .int .i64 c.ma, .int .i64 c.he, .int .i64 c.de, .int .i64 c.ag, .int .i64 c.tb, .slice c.A c.n c.cap]] w fun e w' => e = .returned (.int .i64 (ccheckI c L)) ∧ Below w.heap.size w w' := by
  have HR := fun W => Lib.hid (refright_any c.ad hb.1.1 hb.1.2 W)
  have HB := Lib.hid hb
  obtain ⟨r1, h1⟩ : ∃ r, rightB c.ad = r := ⟨_, rfl⟩
  obtain ⟨r2, h2⟩ : ∃ r, timesB c = r := ⟨_, rfl⟩
  obtain ⟨r7, h7⟩ : ∃ r, L.any badB = r := ⟨_, rfl⟩
  rw [h1] at HR
  have H1 := Lib.hid h1
  have H2 := Lib.hid h2
  have H7 := Lib.hid h7
  have HL := Lib.hid hL
  have HF := Lib.hid hf
  have HP := Lib.hid hp
  clear h1 h2 h7 hb hL hf hp
  obtain ⟨K, hK⟩ : ∃ K, ccheckI c L = K := ⟨_, rfl⟩
  rw [hK]
  have HK := Lib.hid hK
  clear hK
  obtain ⟨wb, hwb, hx, B⟩ := cf_box w c
  obtain ⟨x0, x1, x2, x3, x4, x5, x6, x7⟩ := hx.cells
  have hxl := hx.lt
  have z := B.size
  go_enter Tryd.func13, Tryd.ntmps13
  go_upto_region 1 with fail
  clear hwb
  have HXB := Lib.hid (And.intro hx B)
  clear hx B
  go_wp2_with fail
  (with_reducible refine (HR _).out.mono ?_); rintro e w1 ⟨rfl, rfl⟩
  clear HR
  cases r1 with
  | false =>
    go_wp2
    go_ret
    exact ⟨ret_int (by rw [← HK.out, check1 L H1.out]), HXB.out.2⟩
  | true =>
  go_wp2_with fail
  (with_reducible refine (rtimes_is c HB.out r2 H2 _).mono ?_); rintro e w2 ⟨rfl, b2⟩
  clear x0 x1 x2 x3 x4 x5 x6 x7
  have hx2 := HXB.out.1.below b2 hxl
  obtain ⟨x0, x1, x2, x3, x4, x5, x6, x7⟩ := hx2.cells
  have HX2 := Lib.hid hx2
  clear hx2
  have B2 := Lib.hid (HXB.out.2.trans (b2.mono z))
  clear b2 HXB
  cases r2 with
  | false =>
    go_wp2
    go_ret
    exact ⟨ret_int (by rw [← HK.out, check2 L H1.out H2.out]), B2.out⟩
  | true =>
  by_cases g1 : c.ag < 10
  · have G1 := Lib.hid g1
    go_wp2
    go_ret
    exact ⟨ret_int (by rw [← HK.out, check3 L H1.out H2.out (by unfold inI; have := G1.out; simp; omega)]), B2.out⟩
  by_cases g2 : 1000000 < c.ag
  · have G2 := Lib.hid g2
    go_wp2
    go_ret
    exact ⟨ret_int (by rw [← HK.out, check3 L H1.out H2.out (by unfold inI; have := G2.out; simp; omega)]), B2.out⟩
  have H3 : Hid (inI c.ag 10 1000000 = true) := Lib.hid (by unfold inI; simp; omega)
  by_cases g3 : c.tb < 0
  · have G3 := Lib.hid g3
    go_wp2
    go_ret
    exact ⟨ret_int (by rw [← HK.out, check4 L H1.out H2.out H3.out (by unfold inI; have := G3.out; simp; omega)]), B2.out⟩
  by_cases g4 : 64 < c.tb
  · have G4 := Lib.hid g4
    go_wp2
    go_ret
    exact ⟨ret_int (by rw [← HK.out, check4 L H1.out H2.out H3.out (by unfold inI; have := G4.out; simp; omega)]), B2.out⟩
  have H4 : Hid (inI c.tb 0 64 = true) := Lib.hid (by unfold inI; simp; omega)
  by_cases h5 : c.n = 0
  · have h5' : ((c.n : Int) == 0) = true := by rw [h5]; rfl
    have H5 := Lib.hid h5
    clear h5
    go_wp2
    go_ret
    exact ⟨ret_int (by rw [← HK.out, check5 L H1.out H2.out H3.out H4.out H5.out]), B2.out⟩
  by_cases h6 : 4 < c.n
  · have H6 := Lib.hid h6
    have h6' : (4 : Int) < (c.n : Int) := by omega
    clear h6
    go_wp2
    go_ret
    exact ⟨ret_int (by rw [← HK.out, check6 L H1.out H2.out H3.out H4.out H6.out]), B2.out⟩
  have H6 := Lib.hid (And.intro h5 h6)
  have h6' : ¬ (4 : Int) < (c.n : Int) := by omega
  have HK' := Lib.hid (HK.out.symm.trans (check7 H1.out H2.out H3.out H4.out H6.out.1 H6.out.2 H7.out))
  go_wp2
  clear h5 h6 h6' g1 g2 g3 g4 HK H1 H2 H3 H4 x0 x1 x2 x3 x4 x5 x6 x7
  have hn5 : c.n ≤ 4 := by have := H6.out; omega
  go_loopw [3] (fun i wr => ∃ k : Nat, k ≤ c.n ∧ i = .int .i64 k ∧ Hid ((L.take k).any badB = false) ∧ w2 = wr) (fun i _ => c.n - (intOf i).toNat)
  case atStart => exact ⟨0, Nat.zero_le _, rfl, Lib.hid (by simp), rfl⟩
  case round =>
    obtain ⟨k, hk, rfl, ha, rfl⟩ := hrel
    obtain ⟨-, -, -, -, -, -, -, x7⟩ := HX2.out.cells
    by_cases hkn : k < c.n
    · obtain ⟨x, hx⟩ := pv_at HL.out hkn
      have HX := Lib.hid hx
      obtain ⟨ad, hA, hab, ⟨c0, c1, c2⟩, -, ⟨u0, u1⟩⟩ := port_cells (HP.out.below B2.out (Nat.le_refl _)) hx
      rw [hA] at x7
      have hki : (k : Int) < (c.n : Int) := by omega
      have hkz : ¬ (c.n : Int) ≤ (k : Int) := by omega
      clear hx
      by_cases v1 : x.co < 1
      · have V := Lib.hid v1
        go_wp2
        go_ret
        exact ⟨ret_int (by rw [HK'.out, ← H7.out, any_hit HX.out (by unfold badB inI; have := V.out; simp; omega)]; rfl), B2.out⟩
      by_cases v2 : 65535 < x.co
      · have V := Lib.hid v2
        go_wp2
        go_ret
        exact ⟨ret_int (by rw [HK'.out, ← H7.out, any_hit HX.out (by unfold badB inI; have := V.out; simp; omega)]; rfl), B2.out⟩
      have V := Lib.hid (And.intro v1 v2)
      go_wp2
      go_roundw
      case rel => exact ⟨k + 1, by omega, by go_num, Lib.hid (any_step HX.out ha.out (by unfold badB inI; have := V.out; simp; omega)), trivial⟩
      case measure => simp [intOf]; omega
    · have hkz : ¬ (k : Int) < (c.n : Int) := by omega
      go_wp2
      go_ret
      exact ⟨ret_int (by have e := ha.out; rw [List.take_of_length_le (by rw [HL.out]; omega), H7.out] at e; rw [HK'.out, e]; rfl), B2.out⟩

end Go.Proofs.YtnmnihlhcokjpaaDoor

/- A configuration, and a port's, that came in as an argument. -/
namespace Go.Proofs.YtnmnihlhcokjpaaDoor
set_option maxRecDepth 100000
open Go.Joins Go.ChangeShapes Go.WideShapes Go.ChangeAt Go.RowKit Go.Deep
set_option linter.unusedVariables false

theorem cf_list_of {τ : Type} {P : Nat → τ → Prop} : ∀ n, (∀ i, i < n → ∃ t, P i t) → ∃ L : List τ, L.length = n ∧ ∀ k t, L[k]? = some t → P k t
  | 0, _ => ⟨[], rfl, fun k t e => by simp at e⟩
  | n + 1, h => by
    obtain ⟨L, hl, hL⟩ := cf_list_of n (fun i hi => h i (by omega))
    obtain ⟨t, ht⟩ := h n (by omega)
    refine ⟨L ++ [t], by simp [hl], fun k u e => ?_⟩
    rcases Nat.lt_or_ge k n with q | q
    · rw [List.getElem?_append_left (by omega)] at e
      exact hL k u e
    · rw [List.getElem?_append_right (by omega)] at e
      have : k - L.length = 0 := by
        rcases Nat.eq_zero_or_pos (k - L.length) with z | z
        · exact z
        · rw [List.getElem?_eq_none (by simp; omega)] at e; cases e
      rw [this] at e
      have hk : k = n := by omega
      have := Option.some.inj e
      subst this
      rw [hk]; exact ht

theorem Tryd.cellsConf : Tryd.prog.cellsOf 46 = 8 := by kernel_rfl
theorem Tryd.cellsPort : Tryd.prog.cellsOf 54 = 3 := by kernel_rfl
theorem Tryd.cells8 : Tryd.prog.cellsOf 5 = 1 := by kernel_rfl
theorem Tryd.cells32 : Tryd.prog.cellsOf 24 = 1 := by kernel_rfl
theorem Tryd.cellsB : Tryd.prog.cellsOf 4 = 1 := by kernel_rfl

section
variable {H : Type} {enc : TypeId × Value → H} {P : Program} {w : World} {base : Nat} {spare : Nat → Bool} {held : Bool}
theorem open_8 {r : Reach} {b0 : Nat} {t : TypeId} {f0 f1 f2 f3 f4 f5 f6 f7 : Field} {v : Value} {d : DataW H} {p : List MemPlace} (hs : P.underlying t = some (.struct #[f0, f1, f2, f3, f4, f5, f6, f7])) (hone : oneCellFields P #[f0, f1, f2, f3, f4, f5, f6, f7] = true) (hC : P.cellsOf t = 8)
    (hv : Value.okWide P w r b0 t v) (h : DataW.Trod enc P w base spare held t v d p) :
    ∃ (v0 v1 v2 v3 v4 v5 v6 v7 : Value) (y0 y1 y2 y3 y4 y5 y6 y7 : DataW H × List MemPlace) (n : Nat), v = .agg #[v0, v1, v2, v3, v4, v5, v6, v7] ∧
      DataW.trod enc P w base spare held n f0.type [v0] = some y0 ∧ DataW.trod enc P w base spare held n f1.type [v1] = some y1 ∧ DataW.trod enc P w base spare held n f2.type [v2] = some y2 ∧ DataW.trod enc P w base spare held n f3.type [v3] = some y3 ∧ DataW.trod enc P w base spare held n f4.type [v4] = some y4 ∧ DataW.trod enc P w base spare held n f5.type [v5] = some y5 ∧
      DataW.trod enc P w base spare held n f6.type [v6] = some y6 ∧ DataW.trod enc P w base spare held n f7.type [v7] = some y7 := by
  obtain ⟨cs, rfl, hsz⟩ := okWide_struct hs hv
  obtain ⟨l⟩ := cs
  match l, hsz.trans hC with
  | [c0, c1, c2, c3, c4, c5, c6, c7], _ =>
    obtain ⟨fuel, hf⟩ := h
    obtain ⟨xs, n, _, hx, _, hlen, hg⟩ := DataW.trod_struct hs hf
    obtain ⟨o0, k0⟩ := hone_of hone 0 f0 rfl
    obtain ⟨o1, k1⟩ := hone_of hone 1 f1 rfl
    obtain ⟨o2, k2⟩ := hone_of hone 2 f2 rfl
    obtain ⟨o3, k3⟩ := hone_of hone 3 f3 rfl
    obtain ⟨o4, k4⟩ := hone_of hone 4 f4 rfl
    obtain ⟨o5, k5⟩ := hone_of hone 5 f5 rfl
    obtain ⟨o6, k6⟩ := hone_of hone 6 f6 rfl
    obtain ⟨o7, k7⟩ := hone_of hone 7 f7 rfl
    match xs, hlen with
    | [y0, y1, y2, y3, y4, y5, y6, y7], _ =>
      exact ⟨c0, c1, c2, c3, c4, c5, c6, c7, y0, y1, y2, y3, y4, y5, y6, y7, n, rfl, by simpa [Value.cells, o0, k0] using hg 0 f0 rfl, by simpa [Value.cells, o1, k1] using hg 1 f1 rfl, by simpa [Value.cells, o2, k2] using hg 2 f2 rfl, by simpa [Value.cells, o3, k3] using hg 3 f3 rfl, by simpa [Value.cells, o4, k4] using hg 4 f4 rfl, by simpa [Value.cells, o5, k5] using hg 5 f5 rfl,
        by simpa [Value.cells, o6, k6] using hg 6 f6 rfl, by simpa [Value.cells, o7, k7] using hg 7 f7 rfl⟩
end

set_option maxRecDepth 100000 in
theorem conf_in {H : Type} {enc : TypeId × Value → H} {w : World} {r : Reach} {base b0 : Nat} {v : Value} {d : DataW H} {p : List MemPlace}
    (hv : Value.okWide Tryd.prog w r b0 46 v) (h : DataW.Trod enc Tryd.prog w base (fun _ => true) true 46 v d p) :
    ∃ (c : Cf) (L : List PV), v = .agg #[.int .u64 c.ad, .int .u16 c.pr, .int .i64 c.ma, .int .i64 c.he, .int .i64 c.de, .int .i64 c.ag, .int .i64 c.tb, .slice c.A c.n c.cap] ∧ CB c ∧ L.length = c.n ∧ (c.A = none → c.cap = 0) ∧ PortsIn w c.A w.heap.size L := by
  obtain ⟨v0, v1, v2, v3, v4, v5, v6, v7, y0, y1, y2, y3, y4, y5, y6, y7, n, rfl, g0, g1, g2, g3, g4, g5, g6, g7⟩ := open_8 Tryd.underlying46 (by kernel_rfl) Tryd.cellsConf hv h
  obtain ⟨a0, e0, -, u0⟩ := DataW.trod_int Tryd.underlying43 g0
  obtain ⟨a1, e1, -, u1⟩ := DataW.trod_int Tryd.underlying37 g1
  obtain ⟨a2, e2, -, u2⟩ := DataW.trod_int Tryd.underlying3 g2
  obtain ⟨a3, e3, -, u3⟩ := DataW.trod_int Tryd.underlying3 g3
  obtain ⟨a4, e4, -, u4⟩ := DataW.trod_int Tryd.underlying3 g4
  obtain ⟨a5, e5, -, u5⟩ := DataW.trod_int Tryd.underlying3 g5
  obtain ⟨a6, e6, -, u6⟩ := DataW.trod_int Tryd.underlying3 g6
  simp at e0 e1 e2 e3 e4 e5 e6
  subst e0 e1 e2 e3 e4 e5 e6
  have b0 := bounds_u64 u0
  have b1 := bounds_u16 u1
  have b2 := bounds_i64 u2
  have b3 := bounds_i64 u3
  have b4 := bounds_i64 u4
  have b5 := bounds_i64 u5
  have b6 := bounds_i64 u6
  rcases open_slice Tryd.underlying44 g7 with ⟨hcs, _⟩ | ⟨x, l, c, m, n, D, Q, hcs, _, hl, hm, hmm, _, hi⟩
  · simp at hcs
    subst hcs
    exact ⟨⟨a0, a1, a2, a3, a4, a5, a6, none, 0, 0⟩, [], rfl, by unfold CB; dsimp only; omega, rfl, fun _ => rfl, fun k y e => by simp at e⟩
  · simp at hcs
    subst hcs
    have hlm : l ≤ m := by rw [hmm]; split <;> omega
    obtain ⟨L, hL, hP⟩ := cf_list_of (P := fun k (y : PV) => w.cell? (x.add (k * 3)) = some (.int .u8 y.pr) ∧ w.cell? (x.add (k * 3 + 1)) = some (.int .u32 y.co) ∧ w.cell? (x.add (k * 3 + 2)) = some (.bool y.on) ∧ PB y) l (fun i hin => by
        obtain ⟨cs', hc, ht⟩ := hi i (by omega)
        rw [Tryd.cellsPort] at hc
        obtain ⟨ys, n', _, _, hlen, hyl, hfl⟩ := DataW.trod_struct Tryd.underlying54 ht
        rw [Tryd.cellsPort] at hlen
        obtain ⟨_, hcl, hat⟩ := World.cells?_some hc
        match cs', hlen with
        | [c0, c1, c2], _ =>
          have h0 : DataW.trod enc Tryd.prog w base (fun _ => true) true n' 5 (([c0, c1, c2].drop 0).take (Tryd.prog.cellsOf 5)) = ys[0]? := hfl 0 _ rfl
          have h1 : DataW.trod enc Tryd.prog w base (fun _ => true) true n' 24 (([c0, c1, c2].drop 1).take (Tryd.prog.cellsOf 24)) = ys[1]? := hfl 1 _ rfl
          have h2 : DataW.trod enc Tryd.prog w base (fun _ => true) true n' 4 (([c0, c1, c2].drop 2).take (Tryd.prog.cellsOf 4)) = ys[2]? := hfl 2 _ rfl
          rw [Tryd.cells8] at h0
          rw [Tryd.cells32] at h1
          rw [Tryd.cellsB] at h2
          have hy3 : ys.length = 3 := hyl
          have y0 : ys[0]? = some (ys[0]'(by omega)) := List.getElem?_eq_getElem (by omega)
          have y1 : ys[1]? = some (ys[1]'(by omega)) := List.getElem?_eq_getElem (by omega)
          have y2 : ys[2]? = some (ys[2]'(by omega)) := List.getElem?_eq_getElem (by omega)
          rw [y0] at h0
          rw [y1] at h1
          rw [y2] at h2
          obtain ⟨o, e0, _, wo⟩ := DataW.trod_int Tryd.underlying5 h0
          obtain ⟨u, e1, _, wu⟩ := DataW.trod_int Tryd.underlying24 h1
          obtain ⟨z, e2, _⟩ := DataW.trod_bool Tryd.underlying4 h2
          have g0 := hat 0 (by omega)
          have g1 := hat 1 (by omega)
          have g2 := hat 2 (by omega)
          rw [Go.Proofs.YtnmnihlhcokjpaaDoor.add_add] at g0 g1 g2
          have w0 := bounds_u8 wo
          have w1 := bounds_u32 wu
          simp at e0 e1 e2
          subst e0 e1 e2
          exact ⟨⟨o, u, z⟩, g0, g1, g2, by unfold PB; dsimp only; omega⟩)
    refine ⟨⟨a0, a1, a2, a3, a4, a5, a6, some x, l, c⟩, L, rfl, by unfold CB; dsimp only; unfold maxLen at hm; omega, hL, (fun e => by cases e), (fun k y e => ?_)⟩
    obtain ⟨h1, h2, h3, h4⟩ := hP k y e
    have hb := block_lt_of_cell h1
    rw [Go.Proofs.YtnmnihlhcokjpaaDoor.add_block] at hb
    exact ⟨x, rfl, hb, h1, h2, h3, h4⟩

end Go.Proofs.YtnmnihlhcokjpaaDoor
