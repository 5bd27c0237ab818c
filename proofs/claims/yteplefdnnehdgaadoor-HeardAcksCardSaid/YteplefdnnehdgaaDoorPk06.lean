/- Several texts in one, one behind the other: ConfIds, IdsRefRight, ConfPure, SpanOf, TreeNew, WirePutB, BpduBase. -/
import Derived.Test.YteplefdnnehdgaaDoorPk05
import Derived.Deep.RegionHeld3
import Derived.Deep.DeepCutAuto
import Derived.Test.YteplefdnnehdgaaDoorRows
import Derived.Test.YteplefdnnehdgaaDoorPk01
import Derived.Lib.MinMax

/- The numbers of a bridge and of its ports: Id, PortId, and the document's. -/
namespace Go.Proofs.YteplefdnnehdgaaDoor
set_option maxRecDepth 100000
open Go.ChangeShapes Go.WideShapes Go.ChangeAt Go.RowKit
set_option linter.unusedVariables false

def idI (c : Cf) : Int := c.pr * 281474976710656 + c.ad % 281474976710656
def pidI (L : List PV) (i : Int) : Int := if 0 ≤ i then (match L[i.toNat]? with | some p => p.pr * 256 + (i + 1) | none => 0) else 0

theorem pid_neg (L : List PV) {i : Int} (h : i < 0) : pidI L i = 0 := by unfold pidI; rw [if_neg (by omega)]
theorem pid_out (L : List PV) {i : Int} (h : L.length ≤ i) : pidI L i = 0 := by
  unfold pidI
  split
  · rw [List.getElem?_eq_none (by omega)]
  · rfl
theorem pid_at {L : List PV} {k : Nat} {p : PV} (h : L[k]? = some p) : pidI L k = p.pr * 256 + ((k : Int) + 1) := by
  unfold pidI
  rw [if_pos (by omega), Int.toNat_natCast, h]

theorem id_is (c : Cf) (hb : CB c) (w : World) :
    Calls Tryd.prog 35 #[.agg #[.int .u64 c.ad, .int .u16 c.pr, .int .i64 c.ma, .int .i64 c.he, .int .i64 c.de, .int .i64 c.ag, .int .i64 c.tb, .slice c.A c.n c.cap]] w fun e w' => e = .returned (.int .u64 (idI c)) ∧ Below w.heap.size w w' := by
  have HI := fun W => Lib.hid (bridge_any c.pr c.ad hb.2.1.1 hb.2.1.2 hb.1.1 hb.1.2 W)
  clear hb
  go_enter Tryd.func35, Tryd.ntmps35
  go_wp2_with fail
  (with_reducible refine (HI _).out.mono ?_); rintro e w1 ⟨rfl, rfl⟩
  go_wp2
  go_ret
  exact ⟨rfl, (Below.refl _ _).alloc (Nat.le_refl _) _⟩

theorem portid_is (c : Cf) (L : List PV) (hL : L.length = c.n) (hf : c.n ≤ 200) (i : Int) (i0 : -9223372036854775808 ≤ i) (i1 : i ≤ 9223372036854775807) (w : World) (hp : PortsIn w c.A w.heap.size L) :
    Calls Tryd.prog 39 #[.agg #[.int .u64 c.ad, .int .u16 c.pr, .int .i64 c.ma, .int .i64 c.he, .int .i64 c.de, .int .i64 c.ag, .int .i64 c.tb, .slice c.A c.n c.cap], .int .i64 i] w fun e w' => e = .returned (.int .u16 (pidI L i)) ∧ Below w.heap.size w w' := by
  obtain ⟨wb, hwb, hx, B⟩ := cf_box w c
  obtain ⟨-, -, -, -, -, -, -, x7⟩ := hx.cells
  by_cases hn : i < 0
  · rw [pid_neg L hn]
    clear hp hL hf
    go_enter Tryd.func39, Tryd.ntmps39
    go_wp2
    go_ret
    exact ⟨rfl, B⟩
  · by_cases hk : (c.n : Int) ≤ i
    · rw [pid_out L (by rw [hL]; exact hk)]
      clear hp hL
      have hn' : 0 ≤ i := by omega
      clear hn
      go_enter Tryd.func39, Tryd.ntmps39
      go_wp2
      go_ret
      exact ⟨rfl, B⟩
    · obtain ⟨k, rfl⟩ : ∃ k : Nat, i = k := ⟨i.toNat, by omega⟩
      have hkn : k < c.n := by omega
      obtain ⟨p, hpk⟩ : ∃ p, L[k]? = some p := ⟨L[k]'(by omega), List.getElem?_eq_getElem _⟩
      rw [pid_at hpk]
      obtain ⟨ad, hA, -, y0, -, -, ⟨⟨q0, q1⟩, -⟩⟩ := (hp.below B (Nat.le_refl _)) k p hpk
      have HP := fun W => Lib.hid (port_any p.pr k q0 q1 (by omega) (by omega) W)
      rw [hA] at hwb x7 ⊢
      clear hp hL hpk hn hk i0 i1 hx
      go_enter Tryd.func39, Tryd.ntmps39
      go_wp2_with fail
      (with_reducible refine (HP _).out.mono ?_); rintro e w1 ⟨rfl, rfl⟩
      go_wp2
      go_ret
      exact ⟨rfl, B⟩

end Go.Proofs.YteplefdnnehdgaaDoor

/- The document's Right: contract. -/
namespace Go.Proofs.YteplefdnnehdgaaDoor
set_option maxRecDepth 100000
open Go.ChangeShapes Go.WideShapes Go.ChangeAt Go.RowKit
set_option linter.unusedVariables false

def rightB (a : Int) : Bool := decide (0 < a ∧ a < 281474976710656 ∧ a / 1099511627776 % 2 = 0)

end Go.Proofs.YteplefdnnehdgaaDoor

/- What is wrong with a configuration first: no program. -/
namespace Go.Proofs.YteplefdnnehdgaaDoor
set_option maxRecDepth 100000
open Go.ChangeShapes Go.WideShapes Go.ChangeAt Go.RowKit
set_option linter.unusedVariables false

/-- A port that may not be. -/
def badB (p : PV) : Bool := !inI p.co 1 65535
def ccheckI (c : Cf) (L : List PV) : Int :=
  if rightB c.ad = false then 1 else if timesB c = false then 3 else if inI c.ag 10 1000000 = false then 3 else if inI c.tb 0 64 = false then 3 else if c.n = 0 then 8 else if 4 < c.n then 4 else if L.any badB = true then 3 else 0

theorem port_cells {w : World} {a : Option Addr} {B : Nat} {L : List PV} (h : PortsIn w a B L) {k : Nat} {x : PV} (hx : L[k]? = some x) :
    ∃ ad, a = some ad ∧ ad.block < B ∧ (w.cell? (ad.add (k * 3)) = some (.int .u8 x.pr) ∧ w.cell? ⟨(ad.add (k * 3)).block, (ad.add (k * 3)).off + 1, none⟩ = some (.int .u32 x.co) ∧ w.cell? ⟨(ad.add (k * 3)).block, (ad.add (k * 3)).off + 2, none⟩ = some (.bool x.on)) ∧ PB x := by
  obtain ⟨ad, h1, h2, h3, h4, h5, h6⟩ := h k x hx
  refine ⟨ad, h1, h2, ⟨h3, ?_, ?_⟩, h6⟩
  · have e := Go.Proofs.YteplefdnnehdgaaDoor.add_add ad (k * 3) 1
    rw [← e] at h4
    exact h4
  · have e := Go.Proofs.YteplefdnnehdgaaDoor.add_add ad (k * 3) 2
    rw [← e] at h5
    exact h5

theorem pv_at {L : List PV} {k n : Nat} (hL : L.length = n) (h : k < n) : ∃ x, L[k]? = some x := ⟨L[k]'(by omega), List.getElem?_eq_getElem _⟩

theorem any_step {L : List PV} {k : Nat} {x : PV} (hx : L[k]? = some x) (h : (L.take k).any badB = false) (hb : badB x = false) : (L.take (k + 1)).any badB = false := by
  obtain ⟨hk, e⟩ := List.getElem?_eq_some_iff.mp hx
  rw [List.take_succ_eq_append_getElem hk, List.any_append, h, e]
  simp [hb]
theorem any_hit {L : List PV} {k : Nat} {x : PV} (hx : L[k]? = some x) (hb : badB x = true) : L.any badB = true :=
  List.any_eq_true.mpr ⟨x, List.mem_of_getElem? hx, hb⟩

end Go.Proofs.YteplefdnnehdgaaDoor

/- Times of seconds: contract. -/
namespace Go.Proofs.YteplefdnnehdgaaDoor
set_option maxRecDepth 100000
open Go.ChangeShapes Go.WideShapes Go.ChangeAt Go.RowKit
set_option linter.unusedVariables false

/-- A number, cut to what a field tells. -/
def cutI (t : Int) : Int := min (max t 0) 65535
def ofI (s : Int) : Int := cutI (cutI s * 256)
theorem cutI_bd (t : Int) : 0 ≤ cutI t ∧ cutI t ≤ 65535 := by unfold cutI; omega
theorem cut_any (t : Int) (h0 : -9223372036854775808 ≤ t) (h1 : t ≤ 9223372036854775807) (w : World) :
    Calls Tryd.prog 56 #[.int .i64 t] w fun e w' => e = .returned (.int .i64 (cutI t)) ∧ w = w' := by
  go_enter Tryd.func56, Tryd.ntmps56
  go_wp2
  go_ret
  exact ⟨rfl, rfl⟩

theorem of_any (s : Int) (h0 : -9223372036854775808 ≤ s) (h1 : s ≤ 9223372036854775807) (w : World) :
    Calls Tryd.prog 36 #[.int .i64 s] w fun e w' => e = .returned (.int .i64 (ofI s)) ∧ w = w' := by
  obtain ⟨b0, b1⟩ := cutI_bd s
  go_enter Tryd.func36, Tryd.ntmps36
  go_wp2_with (go_at_call 56; (with_reducible refine (cut_any _ (by omega) (by omega) _).mono ?_); rintro e w' ⟨rfl, rfl⟩)
  go_ret
  exact ⟨rfl, rfl⟩

end Go.Proofs.YteplefdnnehdgaaDoor

/- New: contract. -/
namespace Go.Proofs.YteplefdnnehdgaaDoor
set_option maxRecDepth 100000
open Go.ChangeShapes Go.WideShapes Go.ChangeAt Go.RowKit
set_option linter.unusedVariables false
set_option linter.unusedSimpArgs false

/-- A configuration's cells. -/
def lC (c : Cf) : List Value := [.int .u64 c.ad, .int .u16 c.pr, .int .i64 c.ma, .int .i64 c.he, .int .i64 c.de, .int .i64 c.ag, .int .i64 c.tb, .slice c.A c.n c.cap]
/-- The view that a bridge begins with. -/
def newT (c : Cf) : Th := ⟨idI c, idI c, 0, -1, ofI c.ma, ofI c.he, ofI c.de, ofI c.ma, ofI c.he, ofI c.de, false, false, false, 0, false, 0, false, 0⟩
def newP (c : Cf) (L : List PV) (k : Nat) (x : PV) : Po := ⟨pidI L k, if x.on then 1 else 0, x.co, idI c, 0, idI c, pidI L k, false, false, false, 0, false, 0, false, 0⟩
/-- What the loop puts. -/
def newAt (c : Cf) (L : List PV) (j : Nat) (p : Po) : Po := match L[j]? with | some x => newP c L j x | none => p
def newL (c : Cf) (L : List PV) : List Po := L.mapIdx fun k x => newP c L k x

theorem id_row (c : Cf) (hb : CB c) (w : World) : Calls Tryd.prog 35 #[.agg (lC c).toArray] w fun e w' => e = .returned (.int .u64 (idI c)) ∧ Below w.heap.size w w' := id_is c hb w
theorem portid_row (c : Cf) (L : List PV) (hL : L.length = c.n) (hf : c.n ≤ 200) (k : Nat) (hk : k ≤ 200) (w : World) (hp : PortsIn w c.A w.heap.size L) :
    Calls Tryd.prog 39 #[.agg (lC c).toArray, .int .i64 k] w fun e w' => e = .returned (.int .u16 (pidI L k)) ∧ Below w.heap.size w w' := portid_is c L hL hf k (by omega) (by omega) w hp
theorem telling_new (c : Cf) (A : Option Addr) (n cap : Nat) (w : World) :
    Calls Tryd.prog 16 #[.agg (lT (newT c) A n cap).toArray] w fun e w' => e = .returned (.agg #[.int .u64 (idI c), .int .u32 0, .int .u64 (idI c), .int .u16 0]) ∧ Below w.heap.size w w' := telling_is (newT c) A n cap w
theorem pnew_row (i k : Int) (on : Bool) (o : Int) (w : World) :
    Calls Tryd.prog 38 #[.int .u16 i, .int .u32 k, .bool on, .agg #[.int .u64 o, .int .u32 0, .int .u64 o, .int .u16 0]] w fun e w' => e = .returned (.agg (lP ⟨i, if on then 1 else 0, k, o, 0, o, i, false, false, false, 0, false, 0, false, 0⟩).toArray) ∧ Below w.heap.size w w' := new_is i k on ⟨o, 0, o, 0⟩ (if on then 1 else 0) (Lib.hid rfl) w

set_option maxRecDepth 100000 in
set_option maxHeartbeats 1000000 in
theorem tnew_is (c : Cf) (L : List PV) (hL : Hid (L.length = c.n)) (hf : Hid (c.n ≤ 4)) (hb : Hid (CB c)) (w : World) (hp : Hid (PortsIn w c.A w.heap.size L)) :
    Calls Tryd.prog 17 #[.agg (lC c).toArray] w (TOut w (newT c) c.n (newL c L)) := by
  obtain ⟨wb, hwb, S⟩ := hs_two w 66 31 (lC c) [.int .u64 0, .int .u64 0, .int .u32 0, .int .i64 0, .int .i64 0, .int .i64 0, .int .i64 0, .int .i64 0, .int .i64 0, .int .i64 0, .bool false, .bool false, .bool false, .int .i64 0, .bool false, .int .i64 0, .bool false, .int .i64 0, .slice none 0 0]
  go_enter Tryd.func17, Tryd.ntmps17
  go_upto_region 1 with fail
  clear hwb
  obtain ⟨X, hX⟩ : ∃ X, w.heap.size = X := ⟨_, rfl⟩
  rw [hX] at S
  obtain ⟨Y, hY⟩ : ∃ Y, X + 1 = Y := ⟨_, rfl⟩
  rw [hY] at S
  rw [hX]
  rw [hY]
  clear hX hY
  have HI := fun W => Lib.hid (id_row c hb.out W)
  have hx := S.bk 1 rfl
  go_wp2_with (with_reducible refine wpList_load_row rfl 66 (.tmp 1) rfl X (by kernel_rfl) _ _ (0, 0) _ hx Tryd.underlying66 rfl (by kernel_rfl) ?_)
  (with_reducible refine (HI _).out.mono ?_); rintro e w1 ⟨rfl, b1⟩
  have S1 := S.below b1
  clear S hx HI b1
  go_upto_region 2 with fail
  have c2 := S1.cell 1 2 rfl rfl
  have c3 := S1.cell 1 3 rfl rfl
  have c4 := S1.cell 1 4 rfl rfl
  have HO : ∀ s W, -9223372036854775808 ≤ s ∧ s ≤ 9223372036854775807 → Hid (Calls Tryd.prog 36 #[.int .i64 s] W fun e w' => e = .returned (.int .i64 (ofI s)) ∧ W = w') := fun s W h => Lib.hid (of_any s h.1 h.2 W)
  have H1 := fun W => HO c.ma W hb.out.2.2.1
  have H2 := fun W => HO c.he W hb.out.2.2.2.1
  have H3 := fun W => HO c.de W hb.out.2.2.2.2.1
  clear HO
  have K1 := fun o => Lib.hid (And.intro ((S1.below (new_below w1 o)).drew.cell 1 2 rfl rfl) (And.intro ((S1.below (new_below w1 o)).drew.cell 1 3 rfl rfl) ((S1.below (new_below w1 o)).drew.cell 1 4 rfl rfl)))
  go_cut [4] (fun q wx => ∃ V, q = .pointer (some ⟨V, 0, none⟩) ∧ Hs w [(V, 26, [.int .i64 (ofI c.ma), .int .i64 (ofI c.he), .int .i64 (ofI c.de)]), (Y, 31, [.int .u64 0, .int .u64 0, .int .u32 0, .int .i64 0, .int .i64 0, .int .i64 0, .int .i64 0, .int .i64 0, .int .i64 0, .int .i64 0, .bool false, .bool false, .bool false, .int .i64 0, .bool false, .int .i64 0, .bool false, .int .i64 0, .slice none 0 0]), (X, 66, lC c)] wx)
  case first =>
    go_region_held3 (fun w' => w'.cell? ⟨X, 2, none⟩ = some (.int .i64 c.ma) ∧ w'.cell? ⟨X, 3, none⟩ = some (.int .i64 c.he) ∧ w'.cell? ⟨X, 4, none⟩ = some (.int .i64 c.de)) (first | exact ⟨c2, c3, c4⟩ | with_reducible exact (K1 _).out | assumption) (first | (go_at_call 36; (with_reducible refine (H1 _).out.mono ?_); rintro e w5 ⟨rfl, rfl⟩) | (go_at_call 36; (with_reducible refine (H2 _).out.mono ?_); rintro e w5 ⟨rfl, rfl⟩) | (go_at_call 36; (with_reducible refine (H3 _).out.mono ?_); rintro e w5 ⟨rfl, rfl⟩))
    all_goals go_wp2_with fail
    all_goals go_meet
    all_goals exact ⟨_, rfl, (S1.al rfl 26 [.int .i64 (ofI c.ma), .int .i64 (ofI c.he), .int .i64 (ofI c.de)]).drew⟩
  case rest =>
    clear S1 c2 c3 c4 H1 H2 H3 K1
    obtain ⟨V, rfl, S2⟩ := hcut
    go_upto_region 3 with fail
    have HS := fun W => Lib.hid (stop_is W)
    have hn4 := hf.out
    have HMK := fun W => Lib.hid (make_ports c.n (by omega) W)
    refine wp_region_held_drew (S := (fun w' => Below wc.heap.size wc w')) (by kernel_rfl) ((Below.refl _ _).drew) (fun hHeld => ?_)
    refine wpAnyH_take (i := 0) (v := ?_) rfl (by kernel_rfl) (by kernel_rfl) (by kernel_rfl) (fun _ _ _ h => h) (Or.inl ⟨by kernel_rfl, ?_⟩) (by assumption) ?_
    rotate_left
    · intro w' hSw; (try dsimp only at hSw); go_simp; with_reducible rfl
    try simp only [Act.put, List.setIfInBounds_toArray, List.set_cons_succ]
    refine wpAnyH_take (i := 1) (v := ?_) rfl (by kernel_rfl) (by kernel_rfl) (by kernel_rfl) (fun _ _ _ h => h) (Or.inl ⟨by kernel_rfl, ?_⟩) (by assumption) ?_
    rotate_left
    · intro w' hSw; (try dsimp only at hSw); go_simp; with_reducible rfl
    try simp only [Act.put, List.setIfInBounds_toArray, List.set_cons_succ]
    refine wpAnyH_take (i := 2) (v := _) rfl (by kernel_rfl) (by kernel_rfl) (by kernel_rfl) (fun _ _ _ h => h) (Or.inl ⟨by kernel_rfl, fun w' hSw => exec_load_row 26 _ rfl V (by kernel_rfl) _ _ (0, 0) _ (((S2.below hSw).bk 0 rfl)) Tryd.underlying26 rfl (by kernel_rfl)⟩) (by assumption) ?_
    try simp only [Act.put, List.setIfInBounds_toArray, List.set_cons_succ]
    refine wpAnyH_take (i := 3) (v := _) rfl (by kernel_rfl) (by kernel_rfl) (by kernel_rfl) (fun _ _ _ h => h) (Or.inl ⟨by kernel_rfl, fun w' hSw => exec_load_row 26 _ rfl V (by kernel_rfl) _ _ (0, 0) _ (((S2.below hSw).bk 0 rfl)) Tryd.underlying26 rfl (by kernel_rfl)⟩) (by assumption) ?_
    try simp only [Act.put, List.setIfInBounds_toArray, List.set_cons_succ]
    refine wpAnyH_take (i := 7) (v := ?_) rfl (by kernel_rfl) (by kernel_rfl) (by kernel_rfl) (fun _ _ _ h => h) (Or.inl ⟨by kernel_rfl, ?_⟩) (by assumption) ?_
    rotate_left
    · intro w' hSw; (try dsimp only at hSw); go_simp; with_reducible rfl
    try simp only [Act.put, List.setIfInBounds_toArray, List.set_cons_succ]
    refine wpAnyH_take (i := 8) (v := ?_) rfl (by kernel_rfl) (by kernel_rfl) (by kernel_rfl) (fun _ _ _ h => h) (Or.inl ⟨by kernel_rfl, ?_⟩) (by assumption) ?_
    rotate_left
    · intro w' hSw; (try dsimp only at hSw); have c0 := (S2.below hSw).cell 2 7 rfl rfl; go_simp; with_reducible rfl
    try simp only [Act.put, List.setIfInBounds_toArray, List.set_cons_succ]
    refine wpAnyH_take (i := 9) (v := ?_) rfl (by kernel_rfl) (by kernel_rfl) (by kernel_rfl) (fun _ _ _ h => h) (Or.inl ⟨by kernel_rfl, ?_⟩) (by assumption) ?_
    rotate_left
    · intro w' hSw; (try dsimp only at hSw); go_simp; with_reducible rfl
    try simp only [Act.put, List.setIfInBounds_toArray, List.set_cons_succ]
    refine wpAnyH_by6 24 25 26 30 31 5 (fun f z1 z2 z3 z4 z5 z6 w' => ValF f 4 (.agg ([.bool false, .int .i64 0] : List Value).toArray) z1 ∧ ValF f 5 (.agg ([.bool false, .int .i64 0] : List Value).toArray) z2 ∧ ValF f 6 (.agg ([.bool false, .int .i64 0] : List Value).toArray) z3 ∧ MkF f 10 wc.heap.size c.n (cellsOf lP (List.replicate c.n zeroP)) w' z4 ∧ (f 11 = true → ∃ g, z4 = .slice (some ⟨g, 0, none⟩) c.n c.n ∧ z5 = .agg (lT (newT c) (some ⟨g, 0, none⟩) c.n c.n).toArray) ∧ BoxF f 12 13 31 19 wc.heap.size w' z6 z5 ∧ (∀ s ∈ ([13] : List Nat), f s = true → ∀ c ∈ ([4, 5, 6, 10, 11, 12] : List Nat), f c = true) ∧ (f 11 = true → f 10 = true)) (by kernel_rfl) [4, 5, 6, 10, 11, 12, 13] (by kernel_rfl) (by kernel_rfl) (by kernel_rfl) (by kernel_rfl) hHeld ⟨off_imp rfl, off_imp rfl, off_imp rfl, MkF.off rfl, off_imp rfl, BoxF.off rfl, by (intro s hs e; simp only [List.mem_cons, List.not_mem_nil, or_false] at hs; rcases hs with rfl; cases e), off_imp rfl⟩ ?_ ?_
    rotate_left
    refine StepsI.cons6 rfl (fun f z1 z2 z3 z4 z5 z6 w5 h1 h2 hS hJ => ?_) ?_
    · obtain ⟨k1, k2, k3, m, e11, b, hn, r⟩ := hJ
      intro K hK
      try simp only [puts6]
      try simp only [Act.put, List.getElem_toArray, List.getElem_cons_succ, List.getElem_cons_zero, List.setIfInBounds_toArray, List.set_cons_succ, List.set_cons_zero]
      go_simp
      (with_reducible refine (HS _).out.mono ?_); rintro e w6 ⟨rfl, b6⟩
      refine hK.out (.agg ([.bool false, .int .i64 0] : List Value).toArray) z2 z3 z4 z5 z6 _ w6 (hS.trans (b6.mono hS.size)) (by kernel_rfl) ⟨fun _ => rfl, k2.up (by decide), k3.up (by decide), (m.up (by decide)).below b6, upB_imp e11 (by decide), (b.up (by decide) (by decide)).below b6, store_up hn (by decide) h1 (by decide), fun e => by rw [upB_ne _ (by decide)] at e ⊢; exact r e⟩
    refine StepsI.cons6 rfl (fun f z1 z2 z3 z4 z5 z6 w5 h1 h2 hS hJ => ?_) ?_
    · obtain ⟨k1, k2, k3, m, e11, b, hn, r⟩ := hJ
      intro K hK
      try simp only [puts6]
      try simp only [Act.put, List.getElem_toArray, List.getElem_cons_succ, List.getElem_cons_zero, List.setIfInBounds_toArray, List.set_cons_succ, List.set_cons_zero]
      go_simp
      (with_reducible refine (HS _).out.mono ?_); rintro e w6 ⟨rfl, b6⟩
      refine hK.out z1 (.agg ([.bool false, .int .i64 0] : List Value).toArray) z3 z4 z5 z6 _ w6 (hS.trans (b6.mono hS.size)) (by kernel_rfl) ⟨k1.up (by decide), fun _ => rfl, k3.up (by decide), (m.up (by decide)).below b6, upB_imp e11 (by decide), (b.up (by decide) (by decide)).below b6, store_up hn (by decide) h1 (by decide), fun e => by rw [upB_ne _ (by decide)] at e ⊢; exact r e⟩
    refine StepsI.cons6 rfl (fun f z1 z2 z3 z4 z5 z6 w5 h1 h2 hS hJ => ?_) ?_
    · obtain ⟨k1, k2, k3, m, e11, b, hn, r⟩ := hJ
      intro K hK
      try simp only [puts6]
      try simp only [Act.put, List.getElem_toArray, List.getElem_cons_succ, List.getElem_cons_zero, List.setIfInBounds_toArray, List.set_cons_succ, List.set_cons_zero]
      go_simp
      (with_reducible refine (HS _).out.mono ?_); rintro e w6 ⟨rfl, b6⟩
      refine hK.out z1 z2 (.agg ([.bool false, .int .i64 0] : List Value).toArray) z4 z5 z6 _ w6 (hS.trans (b6.mono hS.size)) (by kernel_rfl) ⟨k1.up (by decide), k2.up (by decide), fun _ => rfl, (m.up (by decide)).below b6, upB_imp e11 (by decide), (b.up (by decide) (by decide)).below b6, store_up hn (by decide) h1 (by decide), fun e => by rw [upB_ne _ (by decide)] at e ⊢; exact r e⟩
    refine StepsI.cons6 rfl (fun f z1 z2 z3 z4 z5 z6 w5 h1 h2 hS hJ => ?_) ?_
    · obtain ⟨k1, k2, k3, m, e11, b, hn, r⟩ := hJ
      intro K hK
      have hmk := (HMK w5).out
      try simp only [puts6]
      try simp only [Act.put, List.getElem_toArray, List.getElem_cons_succ, List.getElem_cons_zero, List.setIfInBounds_toArray, List.set_cons_succ, List.set_cons_zero]
      go_simp
      have b6 := new_below w5 (.cells (cellsOf lP (List.replicate c.n zeroP)).toArray 41)
      have h11 : f 11 = false := by
        cases q : f 11 with
        | false => rfl
        | true => rw [r q] at h1; cases h1
      refine hK.out z1 z2 z3 (.slice (some ⟨w5.heap.size, 0, none⟩) c.n c.n) z5 z6 _ _ (hS.trans (b6.mono hS.size)) (by kernel_rfl) ⟨k1.up (by decide), k2.up (by decide), k3.up (by decide), MkF.new hS.size, fun e => by (rw [upB_ne _ (by decide), h11] at e; cases e), (b.up (by decide) (by decide)).below b6, store_up hn (by decide) h1 (by decide), fun e => upB_self _ _⟩
    refine StepsI.cons6 rfl (fun f z1 z2 z3 z4 z5 z6 w5 h1 h2 hS hJ => ?_) ?_
    · obtain ⟨k1, k2, k3, m, e11, b, hn, r⟩ := hJ
      have i1 := k1 (after_at h2 4 (by kernel_rfl))
      have i2 := k2 (after_at h2 5 (by kernel_rfl))
      have i3 := k3 (after_at h2 6 (by kernel_rfl))
      have i10 := after_at h2 10 (by kernel_rfl)
      obtain ⟨g, hg, -⟩ := m i10
      subst i1 i2 i3 hg
      intro K hK
      try simp only [puts6]
      try simp only [Act.put, List.getElem_toArray, List.getElem_cons_succ, List.getElem_cons_zero, List.setIfInBounds_toArray, List.set_cons_succ, List.set_cons_zero]
      go_simp
      refine hK.out (.agg ([.bool false, .int .i64 0] : List Value).toArray) (.agg ([.bool false, .int .i64 0] : List Value).toArray) (.agg ([.bool false, .int .i64 0] : List Value).toArray) (.slice (some ⟨g, 0, none⟩) c.n c.n) (.agg (lT (newT c) (some ⟨g, 0, none⟩) c.n c.n).toArray) z6 _ w5 hS (by kernel_rfl) ⟨fun _ => rfl, fun _ => rfl, fun _ => rfl, m.up (by decide), fun _ => ⟨g, rfl, rfl⟩, BoxF.val (b.up (by decide) (by decide)) (by rw [upB_ne _ (by decide)]; exact no_store hn (by decide) h1 13 (by decide)), store_up hn (by decide) h1 (by decide), fun _ => by rw [upB_ne _ (by decide)]; exact i10⟩
    refine StepsI.cons6 rfl (fun f z1 z2 z3 z4 z5 z6 w5 h1 h2 hS hJ => ?_) ?_
    · obtain ⟨k1, k2, k3, m, e11, b, hn, r⟩ := hJ
      intro K hK
      try simp only [puts6]
      try simp only [Act.put, List.getElem_toArray, List.getElem_cons_succ, List.getElem_cons_zero, List.setIfInBounds_toArray, List.set_cons_succ, List.set_cons_zero]
      go_simp
      have b6 := new_below w5 (.cells ([.int .u64 0, .int .u64 0, .int .u32 0, .int .i64 0, .int .i64 0, .int .i64 0, .int .i64 0, .int .i64 0, .int .i64 0, .int .i64 0, .bool false, .bool false, .bool false, .int .i64 0, .bool false, .int .i64 0, .bool false, .int .i64 0, .slice none 0 0] : List Value).toArray 31)
      refine hK.out z1 z2 z3 z4 z5 (.pointer (some ⟨w5.heap.size, 0, none⟩)) _ (w5.alloc (.cells ([.int .u64 0, .int .u64 0, .int .u32 0, .int .i64 0, .int .i64 0, .int .i64 0, .int .i64 0, .int .i64 0, .int .i64 0, .int .i64 0, .bool false, .bool false, .bool false, .int .i64 0, .bool false, .int .i64 0, .bool false, .int .i64 0, .slice none 0 0] : List Value).toArray 31)) (hS.trans (b6.mono hS.size)) (by kernel_rfl) ⟨k1.up (by decide), k2.up (by decide), k3.up (by decide), (m.up (by decide)).below b6, upB_imp e11 (by decide), BoxF.new (j := 12) (s := 13) (no_store hn (by decide) h1 13 (by decide)) (by decide) hS.size [.int .u64 0, .int .u64 0, .int .u32 0, .int .i64 0, .int .i64 0, .int .i64 0, .int .i64 0, .int .i64 0, .int .i64 0, .int .i64 0, .bool false, .bool false, .bool false, .int .i64 0, .bool false, .int .i64 0, .bool false, .int .i64 0, .slice none 0 0] rfl, store_up hn (by decide) h1 (by decide), fun e => by rw [upB_ne _ (by decide)] at e ⊢; exact r e⟩
    refine StepsI.store6 rfl 31 (.tmp 5) (.tmp 31) (by kernel_rfl) (by kernel_rfl) (by kernel_rfl) (fun f z1 z2 z3 z4 z5 z6 w5 h1 h2 hS hJ => ?_) ?_
    · obtain ⟨k1, k2, k3, m, e11, b, hn, r⟩ := hJ
      have i11 := after_at h2 11 (by kernel_rfl)
      have i12 := after_at h2 12 (by kernel_rfl)
      obtain ⟨g, hg, hz⟩ := e11 i11
      obtain ⟨G, cs, hG, hG1, hG2, hG3, -⟩ := b i12
      subst hg hz hG
      have hall : ∀ c ∈ ([4, 5, 6, 10, 11, 12] : List Nat), f c = true := by
        intro c hc
        simp only [List.mem_cons, List.not_mem_nil, or_false] at hc
        rcases hc with rfl | rfl | rfl | rfl | rfl | rfl
        · exact after_at h2 4 (by kernel_rfl)
        · exact after_at h2 5 (by kernel_rfl)
        · exact after_at h2 6 (by kernel_rfl)
        · exact after_at h2 10 (by kernel_rfl)
        · exact i11
        · exact i12
      refine ⟨G, lT (newT c) (some ⟨g, 0, none⟩) c.n c.n, cs, by kernel_rfl, by kernel_rfl, hG2, hG3.trans rfl, by kernel_rfl, by kernel_rfl, below_setRow hS hG1 _, ?_⟩
      exact ⟨k1.up (by decide), k2.up (by decide), k3.up (by decide), (m.up (by decide)).row hG2, upB_imp e11 (by decide), BoxF.fill hG1 hG2 rfl rfl, store_at hall (by decide), fun e => by rw [upB_ne _ (by decide)] at e ⊢; exact r e⟩
    exact StepsI.nil
    intro f z1 z2 z3 z4 z5 z6 w5 hall hS hJ
    obtain ⟨k1, k2, k3, m, e11, b, -, -⟩ := hJ
    have i1 := k1 (hall 4 (Nat.le_of_ble_eq_true (by kernel_rfl)))
    have i2 := k2 (hall 5 (Nat.le_of_ble_eq_true (by kernel_rfl)))
    have i3 := k3 (hall 6 (Nat.le_of_ble_eq_true (by kernel_rfl)))
    obtain ⟨g, hg, hz⟩ := e11 (hall 11 (Nat.le_of_ble_eq_true (by kernel_rfl)))
    obtain ⟨g', hg', hgB, hgk⟩ := m (hall 10 (Nat.le_of_ble_eq_true (by kernel_rfl)))
    obtain ⟨G, cs, hG, hG1, hG2, hG3, hG4⟩ := b (hall 12 (Nat.le_of_ble_eq_true (by kernel_rfl)))
    have hG4 := hG4 (hall 13 (Nat.le_of_ble_eq_true (by kernel_rfl)))
    rw [hz] at hG4
    have hcs : cs = lT (newT c) (some ⟨g, 0, none⟩) c.n c.n := by injection hG4 with q; injection q with q; exact q.symm
    obtain rfl : g = g' := by rw [hg] at hg'; injection hg' with q; injection q with q; injection q
    subst i1 i2 i3 hcs hG hz hg
    have T1 : TS w ([(G, 31, lT (newT c) (some ⟨g, 0, none⟩) c.n c.n)] ++ _) (some ⟨g, 0, none⟩) (List.replicate c.n zeroP) w5 := TS.join S2 ⟨hs_box hS hG2 hG1, .inr ⟨g, [], rfl, hs_box2 hS hG2 hG1 (by rw [List.append_nil]; exact hgk) hgB (bk_ne hG2 hgk (by decide))⟩⟩
    clear k1 k2 k3 m e11 b hall hS hg' hgB hgk hG1 hG2 hG3 hG4 hHeld S2 HS HMK
    simp only [puts6, Act.put, List.getElem_toArray, List.getElem_cons_succ, List.getElem_cons_zero, List.setIfInBounds_toArray, List.set_cons_succ, List.set_cons_zero]
    simp only [List.cons_append, List.nil_append] at T1
    have x7 := T1.hs.cell 3 7 rfl rfl
    go_wp2
    clear x7
    go_loopw [35] (fun i wr => ∃ k : Nat, k ≤ c.n ∧ i = .int .i64 k ∧ TS w [(G, 31, lT (newT c) (some ⟨g, 0, none⟩) c.n c.n), (V, 26, [.int .i64 (ofI c.ma), .int .i64 (ofI c.he), .int .i64 (ofI c.de)]), (Y, 31, [.int .u64 0, .int .u64 0, .int .u32 0, .int .i64 0, .int .i64 0, .int .i64 0, .int .i64 0, .int .i64 0, .int .i64 0, .int .i64 0, .bool false, .bool false, .bool false, .int .i64 0, .bool false, .int .i64 0, .bool false, .int .i64 0, .slice none 0 0]), (X, 66, lC c)] (some ⟨g, 0, none⟩) (mixL (newAt c L) k (List.replicate c.n zeroP)) wr) (fun i _ => c.n - (intOf i).toNat)
    case atStart => exact ⟨0, Nat.zero_le _, rfl, by rw [mixL_zero]; exact T1⟩
    case round =>
      clear T1
      obtain ⟨k, hk, rfl, S⟩ := hrel
      by_cases hkn : k < c.n
      · obtain ⟨x, hx⟩ := pv_at hL.out hkn
        have hki : (k : Int) < (c.n : Int) := by omega
        have hkz : ¬ (c.n : Int) ≤ (k : Int) := by omega
        have HX := Lib.hid hx
        have HM := Lib.hid (mixL_at (f := newAt c L) (show (List.replicate c.n zeroP)[k]? = some zeroP by rw [List.getElem?_replicate, if_pos hkn]))
        obtain ⟨ad, hA, -, ⟨y0, y1, y2⟩, -⟩ := port_cells (hp.out.below S.old (Nat.le_refl _)) hx
        have hat : ∀ i v, ([.int .u8 x.pr, .int .u32 x.co, .bool x.on] : List Value)[i]? = some v → wr.cell? ((ad.add (k * 3)).add i) = some v := by
          intro i v hv
          match i, hv with
          | 0, hv => cases hv; simpa [Addr.add] using y0
          | 1, hv => cases hv; exact y1
          | 2, hv => cases hv; exact y2
        have hidx : ∀ W : World, (Instr.indexAt 64 (.slice c.A c.n c.cap) (.int .i64 (k : Int))).run Tryd.prog W = .ok (.pointer (some (ad.add (k * 3)))) W := by
          intro W
          rw [hA]
          go_simp
        clear hx y0 y1 y2 hA
        go_upto_region 7 with (first | (with_reducible refine wpList_load_at rfl 63 (.tmp 38) rfl (ad.add (k * 3)) (by kernel_rfl) _ _ hat Tryd.underlying63 rfl (by kernel_rfl) ?_) | (refine wpList_store_row rfl 63 _ _ rfl _ _ rfl rfl _ _ (heap_alloc_new _ _) (by kernel_rfl) (by kernel_rfl) (by kernel_rfl) ?_))
        rw [alloc_row]
        have T1 := S.al rfl 63 [.int .u8 x.pr, .int .u32 x.co, .bool x.on]
        obtain ⟨Z, hZ⟩ : ∃ Z, wr.heap.size = Z := ⟨_, rfl⟩
        rw [hZ] at T1 ⊢
        generalize wr.alloc (.cells ([.int .u8 x.pr, .int .u32 x.co, .bool x.on] : List Value).toArray 63) = v1 at T1 ⊢
        clear S hat hZ hidx
        have hPB : PB x := by
          obtain ⟨_, _, _, _, h⟩ := port_cells hp.out HX.out
          exact h
        have hn4 := hf.out
        have HPI := fun W (h : Below w.heap.size w W) => Lib.hid (portid_row c L hL.out (by omega) k (by omega) W ((hp.out.below h (Nat.le_refl _)).wide h.size))
        have HTL := fun W => Lib.hid (telling_new c (some ⟨g, 0, none⟩) c.n c.n W)
        have HNW := fun W => Lib.hid (pnew_row (pidI L k) x.co x.on (idI c) W)
        clear hn4
        refine wp_region_held_drew (S := (fun w' => ∃ M, M.length = c.n ∧ TS w [(Z, 63, [.int .u8 x.pr, .int .u32 x.co, .bool x.on]), (G, 31, lT (newT c) (some ⟨g, 0, none⟩) c.n c.n), (V, 26, [.int .i64 (ofI c.ma), .int .i64 (ofI c.he), .int .i64 (ofI c.de)]), (Y, 31, [.int .u64 0, .int .u64 0, .int .u32 0, .int .i64 0, .int .i64 0, .int .i64 0, .int .i64 0, .int .i64 0, .int .i64 0, .int .i64 0, .bool false, .bool false, .bool false, .int .i64 0, .bool false, .int .i64 0, .bool false, .int .i64 0, .slice none 0 0]), (X, 66, lC c)] (some ⟨g, 0, none⟩) M w')) (by kernel_rfl) ⟨_, (mixL_len _ _ _).trans List.length_replicate, T1.below (wy := World.drew _) ((Below.refl _ _).drew)⟩ (fun hHeld => ?_)
        refine wpAnyH_take (i := 0) (v := ?_) rfl (by kernel_rfl) (by kernel_rfl) (by kernel_rfl) (fun _ _ _ h => h) (Or.inl ⟨by kernel_rfl, ?_⟩) (by assumption) ?_
        rotate_left
        · intro w' hSw; (try dsimp only at hSw); go_simp; with_reducible rfl
        try simp only [Act.put, List.setIfInBounds_toArray, List.set_cons_succ]
        refine wpAnyH_take (i := 1) (v := ?_) rfl (by kernel_rfl) (by kernel_rfl) (by kernel_rfl) (fun _ _ _ h => h) (Or.inl ⟨by kernel_rfl, ?_⟩) (by assumption) ?_
        rotate_left
        · intro w' hSw; (try dsimp only at hSw); have c0 := hSw.choose_spec.2.hs.cell 1 18 rfl rfl; go_simp; with_reducible rfl
        try simp only [Act.put, List.setIfInBounds_toArray, List.set_cons_succ]
        refine wpAnyH_take (i := 2) (v := ?_) rfl (by kernel_rfl) (by kernel_rfl) (by kernel_rfl) (fun _ _ _ h => h) (Or.inl ⟨by kernel_rfl, ?_⟩) (by assumption) ?_
        rotate_left
        · intro w' hSw; (try dsimp only at hSw); go_simp; with_reducible rfl
        try simp only [Act.put, List.setIfInBounds_toArray, List.set_cons_succ]
        refine wpAnyH_take (i := 3) (v := _) rfl (by kernel_rfl) (by kernel_rfl) (by kernel_rfl) (fun _ _ _ h => h) (Or.inl ⟨by kernel_rfl, fun w' hSw => exec_load_row 66 _ rfl X (by kernel_rfl) _ _ (0, 0) _ ((hSw.choose_spec.2.hs.bk 4 rfl)) Tryd.underlying66 rfl (by kernel_rfl)⟩) (by assumption) ?_
        try simp only [Act.put, List.setIfInBounds_toArray, List.set_cons_succ]
        refine wpAnyH_take (i := 4) (v := ?_) rfl (by kernel_rfl) (by kernel_rfl) (by kernel_rfl) (fun _ _ _ h => h) (Or.inl ⟨by kernel_rfl, ?_⟩) (by assumption) ?_
        rotate_left
        · intro w' hSw; (try dsimp only at hSw); go_simp; with_reducible rfl
        try simp only [Act.put, List.setIfInBounds_toArray, List.set_cons_succ]
        refine wpAnyH_take (i := 6) (v := ?_) rfl (by kernel_rfl) (by kernel_rfl) (by kernel_rfl) (fun _ _ _ h => h) (Or.inl ⟨by kernel_rfl, ?_⟩) (by assumption) ?_
        rotate_left
        · intro w' hSw; (try dsimp only at hSw); go_simp; with_reducible rfl
        try simp only [Act.put, List.setIfInBounds_toArray, List.set_cons_succ]
        refine wpAnyH_take (i := 7) (v := ?_) rfl (by kernel_rfl) (by kernel_rfl) (by kernel_rfl) (fun _ _ _ h => h) (Or.inl ⟨by kernel_rfl, ?_⟩) (by assumption) ?_
        rotate_left
        · intro w' hSw; (try dsimp only at hSw); have c0 := hSw.choose_spec.2.hs.cell 0 1 rfl rfl; go_simp; with_reducible rfl
        try simp only [Act.put, List.setIfInBounds_toArray, List.set_cons_succ]
        refine wpAnyH_take (i := 8) (v := ?_) rfl (by kernel_rfl) (by kernel_rfl) (by kernel_rfl) (fun _ _ _ h => h) (Or.inl ⟨by kernel_rfl, ?_⟩) (by assumption) ?_
        rotate_left
        · intro w' hSw; (try dsimp only at hSw); go_simp; with_reducible rfl
        try simp only [Act.put, List.setIfInBounds_toArray, List.set_cons_succ]
        refine wpAnyH_take (i := 9) (v := ?_) rfl (by kernel_rfl) (by kernel_rfl) (by kernel_rfl) (fun _ _ _ h => h) (Or.inl ⟨by kernel_rfl, ?_⟩) (by assumption) ?_
        rotate_left
        · intro w' hSw; (try dsimp only at hSw); have c0 := hSw.choose_spec.2.hs.cell 0 2 rfl rfl; go_simp; with_reducible rfl
        try simp only [Act.put, List.setIfInBounds_toArray, List.set_cons_succ]
        refine wpAnyH_take (i := 10) (v := _) rfl (by kernel_rfl) (by kernel_rfl) (by kernel_rfl) (fun _ _ _ h => h) (Or.inl ⟨by kernel_rfl, fun w' hSw => exec_load_row 31 _ rfl G (by kernel_rfl) _ _ (0, 0) _ ((hSw.choose_spec.2.hs.bk 1 rfl)) Tryd.underlying31 rfl (by kernel_rfl)⟩) (by assumption) ?_
        try simp only [Act.put, List.getElem_toArray, List.getElem_cons_succ, List.getElem_cons_zero, List.setIfInBounds_toArray, List.set_cons_succ]
        refine wpAnyH_ready (rs := [5]) (by kernel_rfl) (by simp) ?_
        refine AllReadyH.cons rfl (fun K hK => ?_) AllReadyH.nil
        go_simp
        (with_reducible refine (HPI _ T1.old.drew).out.mono ?_); rintro e v2 ⟨rfl, b2⟩
        have T2 := (T1.below (wy := World.drew _) ((Below.refl _ _).drew)).below b2
        refine hK.out _ _ (⟨_, (mixL_len _ _ _).trans List.length_replicate, T2⟩) (fun hHeld => ?_)
        clear hK K
        try simp only [Act.put, List.setIfInBounds_toArray, List.set_cons_succ]
        refine wpAnyH_ready (rs := [11]) (by kernel_rfl) (by simp) ?_
        refine AllReadyH.cons rfl (fun K hK => ?_) AllReadyH.nil
        go_simp
        (with_reducible refine (HTL _).out.mono ?_); rintro e v3 ⟨rfl, b3⟩
        have T3 := T2.below b3
        refine hK.out _ _ (⟨_, (mixL_len _ _ _).trans List.length_replicate, T3⟩) (fun hHeld => ?_)
        clear hK K
        try simp only [Act.put, List.getElem_toArray, List.getElem_cons_succ, List.getElem_cons_zero, List.setIfInBounds_toArray, List.set_cons_succ]
        refine wpAnyH_ready (rs := [12]) (by kernel_rfl) (by simp) ?_
        refine AllReadyH.cons rfl (fun K hK => ?_) AllReadyH.nil
        go_simp
        (with_reducible refine (HNW _).out.mono ?_); rintro e v4 ⟨rfl, b4⟩
        have T4 := T3.below b4
        refine hK.out _ _ (⟨_, (mixL_len _ _ _).trans List.length_replicate, T4⟩) (fun hHeld => ?_)
        clear hK K
        try simp only [Act.put, List.getElem_toArray, List.getElem_cons_succ, List.getElem_cons_zero, List.setIfInBounds_toArray, List.set_cons_succ]
        refine wpAnyH_take (i := 13) (v := ?_) rfl (by kernel_rfl) (by kernel_rfl) (by kernel_rfl) (fun _ _ _ h => h) (Or.inl ⟨by kernel_rfl, ?_⟩) (by assumption) ?_
        rotate_left
        · intro w' hSw; (try dsimp only at hSw); go_simp; with_reducible rfl
        try simp only [Act.put, List.getElem_toArray, List.getElem_cons_succ, List.getElem_cons_zero, List.setIfInBounds_toArray, List.set_cons_succ]
        refine wpAnyH_ready (rs := [14]) (by kernel_rfl) (by simp) ?_
        refine AllReadyH.cons rfl (fun K hK => ?_) AllReadyH.nil
        have hth := T4.there HM.out (newP c L k x)
        refine exec_if_store_mid (by kernel_rfl) 41 (.tmp 53) (.tmp 52) rfl g (k * 15) (lP (newP c L k x)).toArray (by kernel_rfl) (by kernel_rfl) hth (by kernel_rfl) (by kernel_rfl) ?_
        have T5 := T4.whole HM.out (newP c L k x)
        refine hK.out _ _ ⟨_, by rw [List.length_set]; exact (mixL_len _ _ _).trans List.length_replicate, T5⟩ (fun hHeld => ?_)
        clear hK K
        try simp only [Act.put, List.getElem_toArray, List.getElem_cons_succ, List.getElem_cons_zero, List.setIfInBounds_toArray, List.set_cons_succ, List.set_cons_zero]
        refine wpAnyH_done (by kernel_rfl) ?_ _
        have q := mixL_set (f := newAt c L) (show (List.replicate c.n zeroP)[k]? = some zeroP by rw [List.getElem?_replicate, if_pos hkn])
        have hna : newAt c L k zeroP = newP c L k x := by unfold newAt; rw [HX.out]
        rw [hna] at q
        rw [q] at T5
        have T6 := T5.tail
        generalize v4.setCells g (k * 15) (lP (newP c L k x)).toArray.toList = v5 at T6 ⊢
        clear T1 T2 T3 T4 T5 b2 b3 b4 hth q hna hHeld HPI HTL HNW
        go_wp2
        go_roundw
        case rel => exact ⟨k + 1, by omega, by go_num, T6⟩
        case measure => simp [intOf]; omega
      · have hki : ¬ (k : Int) < (c.n : Int) := by omega
        have hke : k = c.n := by omega
        have e3 : mixL (newAt c L) k (List.replicate c.n zeroP) = newL c L := by
          rw [mixL_all (by rw [List.length_replicate]; omega)]
          apply List.ext_getElem?
          intro j
          rw [allL_get, newL, List.getElem?_mapIdx, List.getElem?_replicate]
          by_cases hj : j < c.n
          · obtain ⟨y, hy⟩ := pv_at hL.out hj
            rw [if_pos hj, hy]
            simp only [Option.map_some, newAt, hy]
          · rw [if_neg hj, List.getElem?_eq_none (by rw [hL.out]; omega)]
            rfl
        rw [e3] at S
        have hx := S.hs.bk 0 rfl
        have hy := S.hs.bk 2 rfl
        go_wp2_with (first | (refine wpList_load_row rfl 31 _ rfl G rfl _ _ (0, 0) _ hx Tryd.underlying31 rfl (by kernel_rfl) ?_) | (refine wpList_store_row rfl 31 _ _ rfl Y _ rfl rfl _ _ hy (by kernel_rfl) (by kernel_rfl) (by kernel_rfl) ?_))
        exact bodyPost_ret (v := .agg (lT (newT c) (some ⟨g, 0, none⟩) c.n c.n).toArray) (results_cell_row rfl _ _ Y _ _ _ _ rfl (setRow_heap _ _ _ _ _ _ hy) Tryd.underlying31 rfl (by kernel_rfl)) rfl ⟨some ⟨g, 0, none⟩, c.n, rfl, (fun e => by cases e), (S.row 2 rfl (lT (newT c) (some ⟨g, 0, none⟩) c.n c.n)).nobox⟩

end Go.Proofs.YteplefdnnehdgaaDoor

/- Put of 8 and of 32 bits, and of a bridge's number. -/
namespace Go.Proofs.YteplefdnnehdgaaDoor
set_option maxRecDepth 100000
open Go.ChangeShapes Go.WideShapes Go.ChangeAt Go.RowKit
set_option linter.unusedVariables false

theorem put8 (A : Option Addr) (c : Nat) (l : List UInt8) (m lo hi k : Nat) (sz n : Int) (hsz : Hid (sz = k)) (hk : k ≤ 1000) (h0 : 0 ≤ n) (h1 : n < 256) (hn : Hid (l.length = m)) (hm : m ≤ 100000) (w : World) (hr : RB w A lo hi l) (hhi : hi ≤ w.heap.size) :
    Calls Tryd.prog 85 #[.slice A m c, .int .u8 n, .int .i64 sz] w fun e w' => e = .returned (.slice (some ⟨w.heap.size, 0, none⟩) (m + k) (m + k)) ∧ Bk w' w.heap.size 5 ((l ++ beB n k).map bc) ∧ Below w.heap.size w w' := by
  obtain rfl := hsz.out
  obtain rfl := hn.out
  clear hsz hn
  have hmm : min (k : Int) 1000 = (k : Int) := by omega
  have hmk := make_sum l.length k (by omega)
  go_enter Tryd.func85, Tryd.ntmps85
  go_wp2_with (with_reducible refine wpList_copy_splice rfl (.tmp 18) (.tmp 19) 50 50 rfl 5 Tryd.underlying50 Tryd.sizeByte _ _ _ _ _ _ rfl rfl w.heap.size 0 (List.replicate (l.length + k) (Value.int .u8 0)) 5 (heap_alloc_new w _) (l.map bc) (len_min2 l k) (copy_src hr (below_new hhi) _) (fit_front l k) (one_bcs l) w.heap.size w (below_new (Nat.le_refl _)) (Nat.le_refl _) ?_; intro w1 hg hb)
  clear hmm hmk
  go_loopw [8, 24] (fun t i wr => ∃ j : Nat, j ≤ k ∧ i = .int .i64 j ∧ t = .int .u64 (shiftK n j) ∧ Bk wr w.heap.size 5 (rowP l n k j) ∧ Below w.heap.size w wr) (fun _ i _ => k - (intOf i).toNat)
  case atStart => exact ⟨0, Nat.zero_le _, rfl, rfl, by have h := hg.out; rw [rowP_start l n k] at h; exact h, hb⟩
  case round =>
    obtain ⟨j, hj, rfl, rfl, hB, hbl⟩ := hrel
    obtain ⟨q0, q1⟩ := shiftK_lo n h0 (by omega) j
    clear hg hb
    by_cases hlt : j < k
    · obtain ⟨idx, hidx⟩ : ∃ idx : Nat, idx = l.length + k - 1 - j := ⟨_, rfl⟩
      have hil : idx < (rowP l n k j).length := by rw [rowP_len l n k j hj]; omega
      obtain ⟨v, hcell⟩ : ∃ v, wr.cell? ⟨w.heap.size, idx, none⟩ = some v := ⟨_, (hB.cell idx).trans (List.getElem?_eq_getElem hil)⟩
      have hfz := hB.thaw idx
      have hi1 : (l.length : Int) + (k : Int) - 1 - (j : Int) = (idx : Int) := by omega
      have hi2 : idx < l.length + k := by omega
      have HI := Lib.hid hidx
      clear hidx hil
      go_wp2
      go_roundw
      case rel => exact ⟨j + 1, by omega, by go_num, by rw [shiftK_succ], by have h := hB.set idx (.int .u8 (shiftK n j % 256)); rw [HI.out, rowP_step l n k j hlt, ← HI.out] at h; exact h, hbl.setCell (Nat.le_refl _) _⟩
      case measure => simp [intOf]; omega
    · obtain rfl : j = k := by omega
      go_wp2
      go_ret
      refine ⟨rfl, ?_, hbl⟩
      rw [rowP_end] at hB
      exact hB

theorem put32 (A : Option Addr) (c : Nat) (l : List UInt8) (m lo hi k : Nat) (sz n : Int) (hsz : Hid (sz = k)) (hk : k ≤ 1000) (h0 : 0 ≤ n) (h1 : n < 4294967296) (hn : Hid (l.length = m)) (hm : m ≤ 100000) (w : World) (hr : RB w A lo hi l) (hhi : hi ≤ w.heap.size) :
    Calls Tryd.prog 88 #[.slice A m c, .int .u32 n, .int .i64 sz] w fun e w' => e = .returned (.slice (some ⟨w.heap.size, 0, none⟩) (m + k) (m + k)) ∧ Bk w' w.heap.size 5 ((l ++ beB n k).map bc) ∧ Below w.heap.size w w' := by
  obtain rfl := hsz.out
  obtain rfl := hn.out
  clear hsz hn
  have hmm : min (k : Int) 1000 = (k : Int) := by omega
  have hmk := make_sum l.length k (by omega)
  go_enter Tryd.func88, Tryd.ntmps88
  go_wp2_with (with_reducible refine wpList_copy_splice rfl (.tmp 18) (.tmp 19) 50 50 rfl 5 Tryd.underlying50 Tryd.sizeByte _ _ _ _ _ _ rfl rfl w.heap.size 0 (List.replicate (l.length + k) (Value.int .u8 0)) 5 (heap_alloc_new w _) (l.map bc) (len_min2 l k) (copy_src hr (below_new hhi) _) (fit_front l k) (one_bcs l) w.heap.size w (below_new (Nat.le_refl _)) (Nat.le_refl _) ?_; intro w1 hg hb)
  clear hmm hmk
  go_loopw [8, 24] (fun t i wr => ∃ j : Nat, j ≤ k ∧ i = .int .i64 j ∧ t = .int .u64 (shiftK n j) ∧ Bk wr w.heap.size 5 (rowP l n k j) ∧ Below w.heap.size w wr) (fun _ i _ => k - (intOf i).toNat)
  case atStart => exact ⟨0, Nat.zero_le _, rfl, rfl, by have h := hg.out; rw [rowP_start l n k] at h; exact h, hb⟩
  case round =>
    obtain ⟨j, hj, rfl, rfl, hB, hbl⟩ := hrel
    obtain ⟨q0, q1⟩ := shiftK_lo n h0 (by omega) j
    clear hg hb
    by_cases hlt : j < k
    · obtain ⟨idx, hidx⟩ : ∃ idx : Nat, idx = l.length + k - 1 - j := ⟨_, rfl⟩
      have hil : idx < (rowP l n k j).length := by rw [rowP_len l n k j hj]; omega
      obtain ⟨v, hcell⟩ : ∃ v, wr.cell? ⟨w.heap.size, idx, none⟩ = some v := ⟨_, (hB.cell idx).trans (List.getElem?_eq_getElem hil)⟩
      have hfz := hB.thaw idx
      have hi1 : (l.length : Int) + (k : Int) - 1 - (j : Int) = (idx : Int) := by omega
      have hi2 : idx < l.length + k := by omega
      have HI := Lib.hid hidx
      clear hidx hil
      go_wp2
      go_roundw
      case rel => exact ⟨j + 1, by omega, by go_num, by rw [shiftK_succ], by have h := hB.set idx (.int .u8 (shiftK n j % 256)); rw [HI.out, rowP_step l n k j hlt, ← HI.out] at h; exact h, hbl.setCell (Nat.le_refl _) _⟩
      case measure => simp [intOf]; omega
    · obtain rfl : j = k := by omega
      go_wp2
      go_ret
      refine ⟨rfl, ?_, hbl⟩
      rw [rowP_end] at hB
      exact hB

theorem putN (A : Option Addr) (c : Nat) (l : List UInt8) (m lo hi k : Nat) (sz n : Int) (hsz : Hid (sz = k)) (hk : k ≤ 1000) (h0 : 0 ≤ n) (h1 : n < 18446744073709551616) (hn : Hid (l.length = m)) (hm : m ≤ 100000) (w : World) (hr : RB w A lo hi l) (hhi : hi ≤ w.heap.size) :
    Calls Tryd.prog 87 #[.slice A m c, .int .u64 n, .int .i64 sz] w fun e w' => e = .returned (.slice (some ⟨w.heap.size, 0, none⟩) (m + k) (m + k)) ∧ Bk w' w.heap.size 5 ((l ++ beB n k).map bc) ∧ Below w.heap.size w w' := by
  obtain rfl := hsz.out
  obtain rfl := hn.out
  clear hsz hn
  have hmm : min (k : Int) 1000 = (k : Int) := by omega
  have hmk := make_sum l.length k (by omega)
  go_enter Tryd.func87, Tryd.ntmps87
  go_wp2_with (with_reducible refine wpList_copy_splice rfl (.tmp 18) (.tmp 19) 50 50 rfl 5 Tryd.underlying50 Tryd.sizeByte _ _ _ _ _ _ rfl rfl w.heap.size 0 (List.replicate (l.length + k) (Value.int .u8 0)) 5 (heap_alloc_new w _) (l.map bc) (len_min2 l k) (copy_src hr (below_new hhi) _) (fit_front l k) (one_bcs l) w.heap.size w (below_new (Nat.le_refl _)) (Nat.le_refl _) ?_; intro w1 hg hb)
  clear hmm hmk
  go_loopw [8, 23] (fun t i wr => ∃ j : Nat, j ≤ k ∧ i = .int .i64 j ∧ t = .int .u64 (shiftK n j) ∧ Bk wr w.heap.size 5 (rowP l n k j) ∧ Below w.heap.size w wr) (fun _ i _ => k - (intOf i).toNat)
  case atStart => exact ⟨0, Nat.zero_le _, rfl, rfl, by have h := hg.out; rw [rowP_start l n k] at h; exact h, hb⟩
  case round =>
    obtain ⟨j, hj, rfl, rfl, hB, hbl⟩ := hrel
    obtain ⟨q0, q1⟩ := shiftK_lo n h0 (by omega) j
    clear hg hb
    by_cases hlt : j < k
    · obtain ⟨idx, hidx⟩ : ∃ idx : Nat, idx = l.length + k - 1 - j := ⟨_, rfl⟩
      have hil : idx < (rowP l n k j).length := by rw [rowP_len l n k j hj]; omega
      obtain ⟨v, hcell⟩ : ∃ v, wr.cell? ⟨w.heap.size, idx, none⟩ = some v := ⟨_, (hB.cell idx).trans (List.getElem?_eq_getElem hil)⟩
      have hfz := hB.thaw idx
      have hi1 : (l.length : Int) + (k : Int) - 1 - (j : Int) = (idx : Int) := by omega
      have hi2 : idx < l.length + k := by omega
      have HI := Lib.hid hidx
      clear hidx hil
      go_wp2
      go_roundw
      case rel => exact ⟨j + 1, by omega, by go_num, by rw [shiftK_succ], by have h := hB.set idx (.int .u8 (shiftK n j % 256)); rw [HI.out, rowP_step l n k j hlt, ← HI.out] at h; exact h, hbl.setCell (Nat.le_refl _) _⟩
      case measure => simp [intOf]; omega
    · obtain rfl : j = k := by omega
      go_wp2
      go_ret
      refine ⟨rfl, ?_, hbl⟩
      rw [rowP_end] at hB
      exact hB

end Go.Proofs.YteplefdnnehdgaaDoor

/- A Bpdu in a box, its flags, and its bytes, as the program puts them; the document's example. -/
namespace Go.Proofs.YteplefdnnehdgaaDoor
set_option maxRecDepth 100000
open Go.ChangeShapes Go.WideShapes Go.ChangeAt Go.RowKit
set_option linter.unusedVariables false

/-- A Bpdu in a block of its own. -/
def BB (w : World) (g : Nat) (tc ch ak : Bool) (ro co br po ag ma he de : Int) : Prop := Bk w g 35 [.bool tc, .bool ch, .bool ak, .int .u64 ro, .int .u32 co, .int .u64 br, .int .u16 po, .int .u16 ag, .int .u16 ma, .int .u16 he, .int .u16 de]

theorem BB.new (w : World) (tc ch ak : Bool) (ro co br po ag ma he de : Int) : BB (w.alloc (.cells #[.bool tc, .bool ch, .bool ak, .int .u64 ro, .int .u32 co, .int .u64 br, .int .u16 po, .int .u16 ag, .int .u16 ma, .int .u16 he, .int .u16 de] 35)) w.heap.size tc ch ak ro co br po ag ma he de := heap_alloc_new w _

theorem BB.below {w w' : World} {g B : Nat} {tc ch ak : Bool} {ro co br po ag ma he de : Int} (h : BB w g tc ch ak ro co br po ag ma he de) (hb : Below B w w') (hg : g < B) : BB w' g tc ch ak ro co br po ag ma he de := Bk.below h hb hg

theorem BB.cells {w : World} {g : Nat} {tc ch ak : Bool} {ro co br po ag ma he de : Int} (h : BB w g tc ch ak ro co br po ag ma he de) :
    w.cell? ⟨g, 0, none⟩ = some (.bool tc) ∧ w.cell? ⟨g, 1, none⟩ = some (.bool ch) ∧ w.cell? ⟨g, 2, none⟩ = some (.bool ak) ∧ w.cell? ⟨g, 3, none⟩ = some (.int .u64 ro) ∧ w.cell? ⟨g, 4, none⟩ = some (.int .u32 co) ∧ w.cell? ⟨g, 5, none⟩ = some (.int .u64 br) ∧
    w.cell? ⟨g, 6, none⟩ = some (.int .u16 po) ∧ w.cell? ⟨g, 7, none⟩ = some (.int .u16 ag) ∧ w.cell? ⟨g, 8, none⟩ = some (.int .u16 ma) ∧ w.cell? ⟨g, 9, none⟩ = some (.int .u16 he) ∧ w.cell? ⟨g, 10, none⟩ = some (.int .u16 de) :=
  ⟨h.cell 0, h.cell 1, h.cell 2, h.cell 3, h.cell 4, h.cell 5, h.cell 6, h.cell 7, h.cell 8, h.cell 9, h.cell 10⟩

theorem BB.thaws {w : World} {g : Nat} {tc ch ak : Bool} {ro co br po ag ma he de : Int} (h : BB w g tc ch ak ro co br po ag ma he de) :
    w.frozen? ⟨g, 0, none⟩ = false ∧ w.frozen? ⟨g, 1, none⟩ = false ∧ w.frozen? ⟨g, 2, none⟩ = false ∧ w.frozen? ⟨g, 3, none⟩ = false ∧ w.frozen? ⟨g, 4, none⟩ = false ∧ w.frozen? ⟨g, 5, none⟩ = false ∧
    w.frozen? ⟨g, 6, none⟩ = false ∧ w.frozen? ⟨g, 7, none⟩ = false ∧ w.frozen? ⟨g, 8, none⟩ = false ∧ w.frozen? ⟨g, 9, none⟩ = false ∧ w.frozen? ⟨g, 10, none⟩ = false :=
  ⟨h.thaw 0, h.thaw 1, h.thaw 2, h.thaw 3, h.thaw 4, h.thaw 5, h.thaw 6, h.thaw 7, h.thaw 8, h.thaw 9, h.thaw 10⟩

theorem bboxed (w : World) (tc ch ak : Bool) (ro co br po ag ma he de : Int) :
    ∃ w0, BB w0 w.heap.size tc ch ak ro co br po ag ma he de ∧ Below w.heap.size w w0 ∧ w.heap.size < w0.heap.size ∧ w0 = w.alloc (.cells #[.bool tc, .bool ch, .bool ak, .int .u64 ro, .int .u32 co, .int .u64 br, .int .u16 po, .int .u16 ag, .int .u16 ma, .int .u16 he, .int .u16 de] 35) :=
  ⟨_, BB.new w tc ch ak ro co br po ag ma he de, below_new (Nat.le_refl _), by simp, rfl⟩

/-- The numbers of a Bpdu fit their kinds. -/
def BpIn (ro co br po ag ma he de : Int) : Prop :=
  (0 ≤ ro ∧ ro < 18446744073709551616) ∧ (0 ≤ co ∧ co < 4294967296) ∧ (0 ≤ br ∧ br < 18446744073709551616) ∧ (0 ≤ po ∧ po < 65536) ∧ (0 ≤ ag ∧ ag < 65536) ∧ (0 ≤ ma ∧ ma < 65536) ∧ (0 ≤ he ∧ he < 65536) ∧ (0 ≤ de ∧ de < 65536)

/-- The byte of flags. -/
def flI (ch ak : Bool) : Int := (if ch then 1 else 0) + (if ak then 128 else 0)

theorem flI_lo (ch ak : Bool) : 0 ≤ flI ch ak ∧ flI ch ak < 256 := by cases ch <;> cases ak <;> decide

theorem flags_any (tc ch ak : Bool) (ro co br po ag ma he de : Int) (w : World) :
    Calls Tryd.prog 86 #[.agg #[.bool tc, .bool ch, .bool ak, .int .u64 ro, .int .u32 co, .int .u64 br, .int .u16 po, .int .u16 ag, .int .u16 ma, .int .u16 he, .int .u16 de]] w fun e w' => e = .returned (.int .u8 (flI ch ak)) ∧ Below w.heap.size w w' := by
  cases ch <;> cases ak
  all_goals
    go_enter Tryd.func86, Tryd.ntmps86
    go_wp2
    go_ret
    exact ⟨ret_int (by decide), below_new (Nat.le_refl _)⟩

/-- What 'Put' leaves: a block of its own, the bytes. -/
def BPutEnd (l : List UInt8) (n : Nat) (w : World) (e : Ending) (w' : World) : Prop :=
  ∃ g, e = .returned (.slice (some ⟨g, 0, none⟩) n n) ∧ w.heap.size ≤ g ∧ Bk w' g 5 (l.map bc) ∧ l.length = n ∧ Below w.heap.size w w'

/-- A TCN's bytes. -/
def tcnB : List UInt8 := beB 0 3 ++ beB 128 1

theorem put_tcn (ch ak : Bool) (ro co br po ag ma he de : Int) (w : World) :
    Calls Tryd.prog 78 #[.agg #[.bool true, .bool ch, .bool ak, .int .u64 ro, .int .u32 co, .int .u64 br, .int .u16 po, .int .u16 ag, .int .u16 ma, .int .u16 he, .int .u16 de]] w (BPutEnd tcnB 4 w) := by
  go_enter Tryd.func78, Tryd.ntmps78
  go_wp2_with fail
  obtain ⟨w0, hB0, hb0, hs0, hw0⟩ := bboxed w true ch ak ro co br po ag ma he de
  rw [← hw0]
  clear hw0
  (with_reducible refine (put8 none 0 [] 0 0 0 3 3 0 (Lib.hid rfl) (by omega) (by omega) (by omega) (Lib.hid rfl) (by omega) _ (RB.nil _ _ _ _) (Nat.zero_le _)).mono ?_); rintro e w1 ⟨rfl, hP1, hb1⟩
  rw [List.nil_append] at hP1
  have hB1 := hB0.below hb1 hs0
  have hbw1 := below_two hb0 hb1 hb0.size
  have hs1 := Nat.lt_of_lt_of_le hs0 hb1.size
  have hl1 : Hid ((beB 0 3).length = 3) := Lib.hid (beB_len 0 3)
  obtain ⟨c0, c1, c2, c3, c4, c5, c6, c7, c8, c9, c10⟩ := hB1.cells
  go_wp2_with fail
  (with_reducible refine (put8 _ 3 (beB 0 3) 3 0 w1.heap.size 1 1 128 (Lib.hid rfl) (by omega) (by omega) (by omega) hl1 (by omega) _ (hP1.rb 0 w1.heap.size (Nat.zero_le _) hP1.lt) (Nat.le_refl _)).mono ?_); rintro e w2 ⟨rfl, hP2, hb2⟩
  go_wp2
  go_ret
  exact ⟨_, rfl, Nat.le_of_lt hs1, hP2, by decide, below_two hbw1 hb2 hbw1.size⟩

end Go.Proofs.YteplefdnnehdgaaDoor
