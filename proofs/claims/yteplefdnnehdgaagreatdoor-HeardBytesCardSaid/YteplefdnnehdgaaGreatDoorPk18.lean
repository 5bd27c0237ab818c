/- Several texts in one, one behind the other: BpduRefGet, BpduFor, HeardForm. -/
import Derived.Test.YteplefdnnehdgaaGreatDoorPk17
import Derived.Deep.QuietTactic
import Derived.BigQuiet
import Derived.BigRegion
import Derived.Deep.RegionWith
import Derived.Deep.RegionHeld3
import Derived.Test.YteplefdnnehdgaaGreatDoorPk10
import Derived.Test.YteplefdnnehdgaaGreatDoorPk09

/- The document's Get: the same answer. -/
namespace Go.Proofs.YteplefdnnehdgaaGreatDoor
set_option maxRecDepth 100000
open Go.ChangeShapes Go.WideShapes Go.ChangeAt Go.RowKit
set_option linter.unusedVariables false

theorem fld_one (l : List UInt8) (p : Nat) (h : p < l.length) : fld l p 1 = (l[p].toNat : Int) := by
  have e : (l.drop p).take 1 = [l[p]] := by
    rw [List.drop_eq_getElem_cons h]; rfl
  unfold fld
  rw [e]
  have := l[p].toNat_lt
  simp [numU]; omega

theorem fld_three (l : List UInt8) (h : 3 ≤ l.length) : fld l 0 3 = fld l 0 1 * 65536 + fld l 1 1 * 256 + fld l 2 1 := by
  match l, h with
  | a :: b :: c :: t, _ =>
    have := a.toNat_lt
    have := b.toNat_lt
    have := c.toNat_lt
    simp [fld, numU]; omega

theorem rb_byte {w : World} {ad : Addr} {lo hi : Nat} {l : List UInt8} (h : RB w (some ad) lo hi l) (p : Nat) (hp : p < l.length) : w.cell? (ad.add p) = some (.int .u8 (fld l p 1)) := by
  rw [fld_one l p hp]; exact h.bytes p hp

/-- The answer's place and the Bpdu's box. -/
def BRS (cs ds : List Value) (w wc : World) : Prop :=
  Bk wc w.heap.size 56 cs ∧ Bk wc (w.heap.size + 1) 56 ds ∧ Below w.heap.size w wc

theorem BRS.put {cs ds : List Value} {w wc : World} (c : BRS cs ds w wc) (i : Nat) (u : Value) : BRS (cs.set i u) ds w (wc.setCell ⟨w.heap.size, i, none⟩ u) :=
  ⟨c.1.set i u, c.2.1.far (p := ⟨w.heap.size, i, none⟩) (by show w.heap.size ≠ _; omega) u, c.2.2.setCell (Nat.le_refl _) u⟩

theorem BRS.put1 {cs ds : List Value} {w wc : World} (c : BRS cs ds w wc) (i : Nat) (u : Value) : BRS cs (ds.set i u) w (wc.setCell ⟨w.heap.size + 1, i, none⟩ u) :=
  ⟨c.1.far (p := ⟨w.heap.size + 1, i, none⟩) (by show w.heap.size + 1 ≠ _; omega) u, c.2.1.set i u, c.2.2.setCell (Nat.le_succ _) u⟩

theorem below_new2 (w : World) (o p : Obj) : Below w.heap.size w ((w.alloc o).alloc p) := (below_new (Nat.le_refl _)).alloc (by simp) p

theorem rs_new (w : World) (cs ds : List Value) : BRS cs ds w ((w.alloc (.cells cs.toArray 56)).alloc (.cells ds.toArray 56)) := by
  refine ⟨?_, ?_, below_new2 w _ _⟩
  · exact Bk.below (B := (w.alloc (.cells cs.toArray 56)).heap.size) (heap_alloc_new w _) (below_new (Nat.le_refl _)) (by simp)
  · have := heap_alloc_new (w.alloc (.cells cs.toArray 56)) (.cells ds.toArray 56)
    rw [World.size_alloc] at this
    exact this

theorem refget_short (A : Option Addr) (n c : Nat) (l : List UInt8) (hl : Hid (l.length = n)) (h4 : n < 4) (w : World) :
    Calls Tryz.prog 36 #[.slice A n c] w (GetEnd l w) := by
  have hE : Hid (gE l = 2) := Lib.hid (gE_short l (by rw [hl.out]; exact h4))
  have d4 : decide ((n : Int) < 4) = true := by simp; omega
  go_enter Tryz.func36, Tryz.ntmps36
  go_wp2
  refine bodyPost_ret (v := .tuple #[.agg #[.bool false, .bool false, .bool false, .int .u64 0, .int .u32 0, .int .u64 0, .int .u16 0, .int .u16 0, .int .u16 0, .int .u16 0, .int .u16 0], .int .i64 2]) (by simp [results, Tryz.results36, go_sem]) rfl ⟨by obtain ⟨z0, z1, z2, z3, z4, z5, z6, z7, z8, z9, z10⟩ := g_bad l (by rw [hE.out]; decide); rw [z0, z1, z2, z3, z4, z5, z6, z7, z8, z9, z10, hE.out], ?_⟩
  exact below_new (Nat.le_refl _)

set_option maxRecDepth 100000 in
set_option maxHeartbeats 2000000 in
theorem refget_long (ad : Addr) (c : Nat) (l : List UInt8) (n : Nat) (hn : Hid (l.length = n)) (hm : n ≤ 10000) (hnc : n ≤ c) (h4 : 4 ≤ n) (w : World) (hr : RB w (some ad) 0 w.heap.size l) (had : ad.block < w.heap.size) :
    Calls Tryz.prog 36 #[.slice (some ad) n c] w (GetEnd l w) := by
  have hn0 := hn.out
  have x0 := rb_byte hr 0 (by omega)
  have x1 := rb_byte hr 1 (by omega)
  have x2 := rb_byte hr 2 (by omega)
  have x3 := rb_byte hr 3 (by omega)
  have ea : ad.add 0 = ad := by unfold Addr.add; simp
  have e1 : ad.add 1 = ⟨ad.block, ad.off + 1, none⟩ := by unfold Addr.add; simp
  have e2 : ad.add 2 = ⟨ad.block, ad.off + 2, none⟩ := by unfold Addr.add; simp
  have e3 : ad.add 3 = ⟨ad.block, ad.off + 3, none⟩ := by unfold Addr.add; simp
  rw [ea] at x0
  rw [e1] at x1
  rw [e2] at x2
  rw [e3] at x3
  obtain ⟨v0, hv0⟩ : ∃ v, v = fld l 0 1 := ⟨_, rfl⟩
  obtain ⟨v1, hv1⟩ : ∃ v, v = fld l 1 1 := ⟨_, rfl⟩
  obtain ⟨v2, hv2⟩ : ∃ v, v = fld l 2 1 := ⟨_, rfl⟩
  obtain ⟨v3, hv3⟩ : ∃ v, v = fld l 3 1 := ⟨_, rfl⟩
  obtain ⟨q0, q0'⟩ := fld1 l 0
  obtain ⟨q1, q1'⟩ := fld1 l 1
  obtain ⟨q2, q2'⟩ := fld1 l 2
  have H3 : Hid (fld l 0 3 = v0 * 65536 + v1 * 256 + v2) := Lib.hid (by rw [fld_three l (by omega), hv0, hv1, hv2])
  rw [← hv0] at x0 q0 q0'
  rw [← hv1] at x1 q1 q1'
  rw [← hv2] at x2 q2 q2'
  rw [← hv3] at x3
  have V3 := Lib.hid hv3
  clear hv0 hv1 hv2 hv3 ea e1 e2 e3 hn0
  have k0 : (0 : Int) < (n : Int) := by omega
  have k1 : (1 : Int) < (n : Int) := by omega
  have k2 : (2 : Int) < (n : Int) := by omega
  have k3 : (3 : Int) < (n : Int) := by omega
  have k0' : 0 < n := by omega
  have k1' : 1 < n := by omega
  have k2' : 2 < n := by omega
  have k3' : 3 < n := by omega
  have d4 : decide ((n : Int) < 4) = false := by simp; omega
  go_enter Tryz.func36, Tryz.ntmps36
  by_cases a0 : v0 = 0
  · by_cases a1 : v1 = 0
    · by_cases a2 : v2 = 0
      · have B0 : Hid (fld l 0 3 = 0) := Lib.hid (by rw [H3.out, a0, a1, a2]; rfl)
        subst a0 a1 a2
        by_cases a3 : v3 = 0
        · have K0 : Hid (fld l 3 1 = 0) := Lib.hid (V3.out ▸ a3)
          subst a3
          by_cases h35 : n < 35
          · have d35 : decide ((n : Int) < 35) = true := by simp; omega
            have KE : Hid (gE l = 2) := Lib.hid (gE_few l (by rw [hn.out]; omega) B0.out K0.out (by rw [hn.out]; exact h35))
            go_wp2
            refine bodyPost_ret (v := .tuple #[.agg #[.bool false, .bool false, .bool false, .int .u64 0, .int .u32 0, .int .u64 0, .int .u16 0, .int .u16 0, .int .u16 0, .int .u16 0, .int .u16 0], .int .i64 2]) (by simp [results, Tryz.results36, go_sem]) rfl ⟨by obtain ⟨z0, z1, z2, z3, z4, z5, z6, z7, z8, z9, z10⟩ := g_bad l (by rw [KE.out]; decide); rw [z0, z1, z2, z3, z4, z5, z6, z7, z8, z9, z10, KE.out], ?_⟩
            exact below_new (Nat.le_refl _)
          · have d35 : decide ((n : Int) < 35) = false := by simp; omega
            clear d4
            -- CONFIG
            have hl35 : 35 ≤ l.length := by rw [hn.out]; omega
            have x4 := rb_byte hr 4 (by omega)
            have e4 : ad.add 4 = ⟨ad.block, ad.off + 4, none⟩ := by unfold Addr.add; simp
            rw [e4] at x4
            obtain ⟨q4, q4'⟩ := fld1 l 4
            obtain ⟨v4, hv4⟩ : ∃ v, v = fld l 4 1 := ⟨_, rfl⟩
            rw [← hv4] at x4 q4 q4'
            have V4 := Lib.hid hv4
            clear hv4 e4
            obtain ⟨ro, hro⟩ : ∃ v, v = fld l 5 8 := ⟨_, rfl⟩
            obtain ⟨xro, hxro⟩ : ∃ x, x = (l.drop 5).take 8 := ⟨_, rfl⟩
            have rro : RB w (cutA (some ad) 5 c) 0 w.heap.size xro := by rw [hxro]; exact (hr.drop 5 c (by rw [hn.out]; exact hnc)).take 8
            have lro : Hid (xro.length = 8) := Lib.hid (by rw [hxro]; simp; omega)
            have nro : Hid (numU xro = ro) := Lib.hid (by rw [hxro, hro]; rfl)
            have sro : ∀ w : World, (Instr.sliceAt 32 (.slice (some ad) n c) (some (.int .i64 5)) (some (.int .i64 13)) none).run Tryz.prog w = .ok (.slice (cutA (some ad) 5 c) 8 (c - 5)) w := cut2_any (some ad) n c 5 13 8 rfl (by omega)
            have Hro := Lib.hid hro
            clear hro hxro
            obtain ⟨co, hco⟩ : ∃ v, v = fld l 13 4 := ⟨_, rfl⟩
            obtain ⟨xco, hxco⟩ : ∃ x, x = (l.drop 13).take 4 := ⟨_, rfl⟩
            have rco : RB w (cutA (some ad) 13 c) 0 w.heap.size xco := by rw [hxco]; exact (hr.drop 13 c (by rw [hn.out]; exact hnc)).take 4
            have lco : Hid (xco.length = 4) := Lib.hid (by rw [hxco]; simp; omega)
            have nco : Hid (numU xco = co) := Lib.hid (by rw [hxco, hco]; rfl)
            have sco : ∀ w : World, (Instr.sliceAt 32 (.slice (some ad) n c) (some (.int .i64 13)) (some (.int .i64 17)) none).run Tryz.prog w = .ok (.slice (cutA (some ad) 13 c) 4 (c - 13)) w := cut2_any (some ad) n c 13 17 4 rfl (by omega)
            have wco : IntKind.u32.wrap co = co := by rw [show IntKind.u32.wrap co = co % 4294967296 by simp [IntKind.wrap, IntKind.bits, IntKind.signed]]; have := fld4 l 13; omega
            have Hco := Lib.hid hco
            clear hco hxco
            obtain ⟨br, hbr⟩ : ∃ v, v = fld l 17 8 := ⟨_, rfl⟩
            obtain ⟨xbr, hxbr⟩ : ∃ x, x = (l.drop 17).take 8 := ⟨_, rfl⟩
            have rbr : RB w (cutA (some ad) 17 c) 0 w.heap.size xbr := by rw [hxbr]; exact (hr.drop 17 c (by rw [hn.out]; exact hnc)).take 8
            have lbr : Hid (xbr.length = 8) := Lib.hid (by rw [hxbr]; simp; omega)
            have nbr : Hid (numU xbr = br) := Lib.hid (by rw [hxbr, hbr]; rfl)
            have sbr : ∀ w : World, (Instr.sliceAt 32 (.slice (some ad) n c) (some (.int .i64 17)) (some (.int .i64 25)) none).run Tryz.prog w = .ok (.slice (cutA (some ad) 17 c) 8 (c - 17)) w := cut2_any (some ad) n c 17 25 8 rfl (by omega)
            have Hbr := Lib.hid hbr
            clear hbr hxbr
            obtain ⟨po, hpo⟩ : ∃ v, v = fld l 25 2 := ⟨_, rfl⟩
            obtain ⟨xpo, hxpo⟩ : ∃ x, x = (l.drop 25).take 2 := ⟨_, rfl⟩
            have rpo : RB w (cutA (some ad) 25 c) 0 w.heap.size xpo := by rw [hxpo]; exact (hr.drop 25 c (by rw [hn.out]; exact hnc)).take 2
            have lpo : Hid (xpo.length = 2) := Lib.hid (by rw [hxpo]; simp; omega)
            have npo : Hid (numU xpo = po) := Lib.hid (by rw [hxpo, hpo]; rfl)
            have spo : ∀ w : World, (Instr.sliceAt 32 (.slice (some ad) n c) (some (.int .i64 25)) (some (.int .i64 27)) none).run Tryz.prog w = .ok (.slice (cutA (some ad) 25 c) 2 (c - 25)) w := cut2_any (some ad) n c 25 27 2 rfl (by omega)
            have wpo : IntKind.u16.wrap po = po := by rw [show IntKind.u16.wrap po = po % 65536 by simp [IntKind.wrap, IntKind.bits, IntKind.signed]]; have := fld2 l 25; omega
            have Hpo := Lib.hid hpo
            clear hpo hxpo
            obtain ⟨ag, hag⟩ : ∃ v, v = fld l 27 2 := ⟨_, rfl⟩
            obtain ⟨xag, hxag⟩ : ∃ x, x = (l.drop 27).take 2 := ⟨_, rfl⟩
            have rag : RB w (cutA (some ad) 27 c) 0 w.heap.size xag := by rw [hxag]; exact (hr.drop 27 c (by rw [hn.out]; exact hnc)).take 2
            have lag : Hid (xag.length = 2) := Lib.hid (by rw [hxag]; simp; omega)
            have nag : Hid (numU xag = ag) := Lib.hid (by rw [hxag, hag]; rfl)
            have sag : ∀ w : World, (Instr.sliceAt 32 (.slice (some ad) n c) (some (.int .i64 27)) (some (.int .i64 29)) none).run Tryz.prog w = .ok (.slice (cutA (some ad) 27 c) 2 (c - 27)) w := cut2_any (some ad) n c 27 29 2 rfl (by omega)
            have wag : IntKind.u16.wrap ag = ag := by rw [show IntKind.u16.wrap ag = ag % 65536 by simp [IntKind.wrap, IntKind.bits, IntKind.signed]]; have := fld2 l 27; omega
            have Hag := Lib.hid hag
            clear hag hxag
            obtain ⟨ma, hma⟩ : ∃ v, v = fld l 29 2 := ⟨_, rfl⟩
            obtain ⟨xma, hxma⟩ : ∃ x, x = (l.drop 29).take 2 := ⟨_, rfl⟩
            have rma : RB w (cutA (some ad) 29 c) 0 w.heap.size xma := by rw [hxma]; exact (hr.drop 29 c (by rw [hn.out]; exact hnc)).take 2
            have lma : Hid (xma.length = 2) := Lib.hid (by rw [hxma]; simp; omega)
            have nma : Hid (numU xma = ma) := Lib.hid (by rw [hxma, hma]; rfl)
            have sma : ∀ w : World, (Instr.sliceAt 32 (.slice (some ad) n c) (some (.int .i64 29)) (some (.int .i64 31)) none).run Tryz.prog w = .ok (.slice (cutA (some ad) 29 c) 2 (c - 29)) w := cut2_any (some ad) n c 29 31 2 rfl (by omega)
            have wma : IntKind.u16.wrap ma = ma := by rw [show IntKind.u16.wrap ma = ma % 65536 by simp [IntKind.wrap, IntKind.bits, IntKind.signed]]; have := fld2 l 29; omega
            have Hma := Lib.hid hma
            clear hma hxma
            obtain ⟨he, hhe⟩ : ∃ v, v = fld l 31 2 := ⟨_, rfl⟩
            obtain ⟨xhe, hxhe⟩ : ∃ x, x = (l.drop 31).take 2 := ⟨_, rfl⟩
            have rhe : RB w (cutA (some ad) 31 c) 0 w.heap.size xhe := by rw [hxhe]; exact (hr.drop 31 c (by rw [hn.out]; exact hnc)).take 2
            have lhe : Hid (xhe.length = 2) := Lib.hid (by rw [hxhe]; simp; omega)
            have nhe : Hid (numU xhe = he) := Lib.hid (by rw [hxhe, hhe]; rfl)
            have she : ∀ w : World, (Instr.sliceAt 32 (.slice (some ad) n c) (some (.int .i64 31)) (some (.int .i64 33)) none).run Tryz.prog w = .ok (.slice (cutA (some ad) 31 c) 2 (c - 31)) w := cut2_any (some ad) n c 31 33 2 rfl (by omega)
            have whe : IntKind.u16.wrap he = he := by rw [show IntKind.u16.wrap he = he % 65536 by simp [IntKind.wrap, IntKind.bits, IntKind.signed]]; have := fld2 l 31; omega
            have Hhe := Lib.hid hhe
            clear hhe hxhe
            obtain ⟨de, hde⟩ : ∃ v, v = fld l 33 2 := ⟨_, rfl⟩
            obtain ⟨xde, hxde⟩ : ∃ x, x = (l.drop 33).take 2 := ⟨_, rfl⟩
            have rde : RB w (cutA (some ad) 33 c) 0 w.heap.size xde := by rw [hxde]; exact (hr.drop 33 c (by rw [hn.out]; exact hnc)).take 2
            have lde : Hid (xde.length = 2) := Lib.hid (by rw [hxde]; simp; omega)
            have nde : Hid (numU xde = de) := Lib.hid (by rw [hxde, hde]; rfl)
            have sde : ∀ w : World, (Instr.sliceAt 32 (.slice (some ad) n c) (some (.int .i64 33)) (some (.int .i64 35)) none).run Tryz.prog w = .ok (.slice (cutA (some ad) 33 c) 2 (c - 33)) w := cut2_any (some ad) n c 33 35 2 rfl (by omega)
            have wde : IntKind.u16.wrap de = de := by rw [show IntKind.u16.wrap de = de % 65536 by simp [IntKind.wrap, IntKind.bits, IntKind.signed]]; have := fld2 l 33; omega
            have Hde := Lib.hid hde
            clear hde hxde
            have k4 : (4 : Int) < (n : Int) := by omega
            have k4' : 4 < n := by omega
            clear hl35
            go_upto_region 20 with (first
              | (go_at_call 64; (with_reducible refine (refnum_any (cutA (some ad) 5 c) _ xro 8 0 w.heap.size lro (by omega) _ (rro.below (below_new2 w _ _) (Nat.le_refl _))).mono ?_); rintro e w' ⟨rfl, rfl⟩; rw [nro.out])
              | (go_at_call 64; (with_reducible refine (refnum_any (cutA (some ad) 13 c) _ xco 4 0 w.heap.size lco (by omega) _ (rco.below (below_new2 w _ _) (Nat.le_refl _))).mono ?_); rintro e w' ⟨rfl, rfl⟩; rw [nco.out])
              | (go_at_call 64; (with_reducible refine (refnum_any (cutA (some ad) 17 c) _ xbr 8 0 w.heap.size lbr (by omega) _ (rbr.below (below_new2 w _ _) (Nat.le_refl _))).mono ?_); rintro e w' ⟨rfl, rfl⟩; rw [nbr.out])
              | (go_at_call 64; (with_reducible refine (refnum_any (cutA (some ad) 25 c) _ xpo 2 0 w.heap.size lpo (by omega) _ (rpo.below (below_new2 w _ _) (Nat.le_refl _))).mono ?_); rintro e w' ⟨rfl, rfl⟩; rw [npo.out])
              | (go_at_call 64; (with_reducible refine (refnum_any (cutA (some ad) 27 c) _ xag 2 0 w.heap.size lag (by omega) _ (rag.below (below_new2 w _ _) (Nat.le_refl _))).mono ?_); rintro e w' ⟨rfl, rfl⟩; rw [nag.out])
              | (go_at_call 64; (with_reducible refine (refnum_any (cutA (some ad) 29 c) _ xma 2 0 w.heap.size lma (by omega) _ (rma.below (below_new2 w _ _) (Nat.le_refl _))).mono ?_); rintro e w' ⟨rfl, rfl⟩; rw [nma.out])
              | (go_at_call 64; (with_reducible refine (refnum_any (cutA (some ad) 31 c) _ xhe 2 0 w.heap.size lhe (by omega) _ (rhe.below (below_new2 w _ _) (Nat.le_refl _))).mono ?_); rintro e w' ⟨rfl, rfl⟩; rw [nhe.out])
              | (go_at_call 64; (with_reducible refine (refnum_any (cutA (some ad) 33 c) _ xde 2 0 w.heap.size lde (by omega) _ (rde.below (below_new2 w _ _) (Nat.le_refl _))).mono ?_); rintro e w' ⟨rfl, rfl⟩; rw [nde.out]))
            obtain ⟨ch, hch⟩ : ∃ ch, ch = (v4 % 2 == 1) := ⟨_, rfl⟩
            obtain ⟨ak, hak⟩ : ∃ ak, ak = decide (128 ≤ v4) := ⟨_, rfl⟩
            rw [← hch, ← hak]
            have CH : Hid (ch = (fld l 4 1 % 2 == 1)) := Lib.hid (V4.out ▸ hch)
            have AK : Hid (ak = decide (128 ≤ fld l 4 1)) := Lib.hid (V4.out ▸ hak)
            clear hch hak x0 x1 x2 x3 x4 rro rco rbr rpo rag rma rhe rde sro sco sbr spo sag sma she sde wco wpo wag wma whe wde
            have g : BRS [.bool false, .bool false, .bool false, .int .u64 0, .int .u32 0, .int .u64 0, .int .u16 0, .int .u16 0, .int .u16 0, .int .u16 0, .int .u16 0] [.bool false, .bool ch, .bool ak, .int .u64 ro, .int .u32 co, .int .u64 br, .int .u16 po, .int .u16 ag, .int .u16 ma, .int .u16 he, .int .u16 de] w ((w.alloc (.cells #[.bool false, .bool false, .bool false, .int .u64 0, .int .u32 0, .int .u64 0, .int .u16 0, .int .u16 0, .int .u16 0, .int .u16 0, .int .u16 0] 56)).alloc (.cells #[.bool false, .bool ch, .bool ak, .int .u64 ro, .int .u32 co, .int .u64 br, .int .u16 po, .int .u16 ag, .int .u16 ma, .int .u16 he, .int .u16 de] 56)) := rs_new w _ _
            generalize (w.alloc _).alloc _ = wc at g ⊢
            obtain ⟨hX, hY, _⟩ := id g
            obtain ⟨c0, c1, c2, c3, c4, c5, c6, c7, c8, c9, c10⟩ := BB.cells (show BB _ w.heap.size false false false 0 0 0 0 0 0 0 0 from hX)
            obtain ⟨z0, z1, z2, z3, z4, z5, z6, z7, z8, z9, z10⟩ := BB.thaws (show BB _ w.heap.size false false false 0 0 0 0 0 0 0 0 from hX)
            obtain ⟨d0, d1, d2, d3, d4, d5, d6, d7, d8, d9, d10⟩ := BB.cells (show BB _ (w.heap.size + 1) false ch ak ro co br po ag ma he de from hY)
            clear hX hY
            have N35 : Hid (¬ l.length < 35) := Lib.hid (by rw [hn.out]; exact h35)
            clear h35
            by_cases far : 2147483648 ≤ co
            · have KE : Hid (gE l = 4) := Lib.hid (gE_far l N35.out B0.out K0.out (Hco.out ▸ far))
              have fd : decide (2147483648 ≤ co) = true := by simpa using far
              clear far
              go_wp2_with fail
              have gz := (((((((((((g.put 0 (.bool false)).put 1 (.bool false)).put 2 (.bool false)).put 3 (.int .u64 0)).put 4 (.int .u32 0)).put 5 (.int .u64 0)).put 6 (.int .u16 0)).put 7 (.int .u16 0)).put 8 (.int .u16 0)).put 9 (.int .u16 0)).put 10 (.int .u16 0))
              generalize World.setCell _ ⟨w.heap.size, 10, none⟩ _ = we at gz ⊢
              obtain ⟨k2, _, k4⟩ := gz
              obtain ⟨e0, e1, e2, e3, e4, e5, e6, e7, e8, e9, e10⟩ := BB.cells (show BB we w.heap.size false false false 0 0 0 0 0 0 0 0 from k2)
              exact bodyPost_ret (v := .tuple #[.agg #[.bool false, .bool false, .bool false, .int .u64 0, .int .u32 0, .int .u64 0, .int .u16 0, .int .u16 0, .int .u16 0, .int .u16 0, .int .u16 0], .int .i64 4]) (by simp [results, Tryz.results36, go_sem, e0, e1, e2, e3, e4, e5, e6, e7, e8, e9, e10]) rfl ⟨by obtain ⟨z0, z1, z2, z3, z4, z5, z6, z7, z8, z9, z10⟩ := g_bad l (by rw [KE.out]; decide); rw [z0, z1, z2, z3, z4, z5, z6, z7, z8, z9, z10, KE.out], first_below k4⟩
            · have fd : decide (2147483648 ≤ co) = false := by simpa using far
              by_cases old : ma ≤ ag
              · have KE : Hid (gE l = 5) := Lib.hid (gE_old l N35.out B0.out K0.out (Hco.out ▸ far) (Hma.out ▸ Hag.out ▸ old))
                have od : decide (ma ≤ ag) = true := by simpa using old
                clear far old
                go_wp2_with fail
                have gz := (((((((((((g.put 0 (.bool false)).put 1 (.bool false)).put 2 (.bool false)).put 3 (.int .u64 0)).put 4 (.int .u32 0)).put 5 (.int .u64 0)).put 6 (.int .u16 0)).put 7 (.int .u16 0)).put 8 (.int .u16 0)).put 9 (.int .u16 0)).put 10 (.int .u16 0))
                generalize World.setCell _ ⟨w.heap.size, 10, none⟩ _ = we at gz ⊢
                obtain ⟨k2, _, k4⟩ := gz
                obtain ⟨e0, e1, e2, e3, e4, e5, e6, e7, e8, e9, e10⟩ := BB.cells (show BB we w.heap.size false false false 0 0 0 0 0 0 0 0 from k2)
                exact bodyPost_ret (v := .tuple #[.agg #[.bool false, .bool false, .bool false, .int .u64 0, .int .u32 0, .int .u64 0, .int .u16 0, .int .u16 0, .int .u16 0, .int .u16 0, .int .u16 0], .int .i64 5]) (by simp [results, Tryz.results36, go_sem, e0, e1, e2, e3, e4, e5, e6, e7, e8, e9, e10]) rfl ⟨by obtain ⟨z0, z1, z2, z3, z4, z5, z6, z7, z8, z9, z10⟩ := g_bad l (by rw [KE.out]; decide); rw [z0, z1, z2, z3, z4, z5, z6, z7, z8, z9, z10, KE.out], first_below k4⟩
              · have KE : Hid (gE l = 0) := Lib.hid (gE_good l N35.out B0.out K0.out (Hco.out ▸ far) (Hma.out ▸ Hag.out ▸ old))
                have od : decide (ma ≤ ag) = false := by simpa using old
                clear far old
                go_wp2_with fail
                have gz := (((((((((((g.put 0 (.bool false)).put 1 (.bool ch)).put 2 (.bool ak)).put 3 (.int .u64 ro)).put 4 (.int .u32 co)).put 5 (.int .u64 br)).put 6 (.int .u16 po)).put 7 (.int .u16 ag)).put 8 (.int .u16 ma)).put 9 (.int .u16 he)).put 10 (.int .u16 de))
                generalize World.setCell _ ⟨w.heap.size, 10, none⟩ _ = we at gz ⊢
                obtain ⟨k2, _, k4⟩ := gz
                obtain ⟨e0, e1, e2, e3, e4, e5, e6, e7, e8, e9, e10⟩ := BB.cells (show BB we w.heap.size false ch ak ro co br po ag ma he de from k2)
                exact bodyPost_ret (v := .tuple #[.agg #[.bool false, .bool ch, .bool ak, .int .u64 ro, .int .u32 co, .int .u64 br, .int .u16 po, .int .u16 ag, .int .u16 ma, .int .u16 he, .int .u16 de], .int .i64 0]) (by simp [results, Tryz.results36, go_sem, e0, e1, e2, e3, e4, e5, e6, e7, e8, e9, e10]) rfl ⟨by obtain ⟨z0, z1, z2, z3, z4, z5, z6, z7, z8, z9, z10⟩ := g_conf l KE.out K0.out; rw [z0, z1, z2, z3, z4, z5, z6, z7, z8, z9, z10, KE.out, CH.out, AK.out, Hro.out, Hco.out, Hbr.out, Hpo.out, Hag.out, Hma.out, Hhe.out, Hde.out], first_below k4⟩
            -- END CONFIG
        · have d3 : (v3 != 0) = true := by simpa using a3
          by_cases a4 : v3 = 128
          · have K : Hid (fld l 3 1 = 128) := Lib.hid (V3.out ▸ a4)
            have KE : Hid (gE l = 0) := Lib.hid (gE_tcn l (by rw [hn.out]; omega) B0.out K.out)
            subst a4
            clear a3 d3
            go_wp2
            refine bodyPost_ret (v := .tuple #[.agg #[.bool true, .bool false, .bool false, .int .u64 0, .int .u32 0, .int .u64 0, .int .u16 0, .int .u16 0, .int .u16 0, .int .u16 0, .int .u16 0], .int .i64 0]) (by simp [results, Tryz.results36, go_sem]) rfl ⟨by obtain ⟨z0, z1, z2, z3, z4, z5, z6, z7, z8, z9, z10⟩ := g_tcn l KE.out K.out; rw [z0, z1, z2, z3, z4, z5, z6, z7, z8, z9, z10, KE.out], ?_⟩
            exact below_new (Nat.le_refl _)
          · have d4' : (v3 != 128) = true := by simpa using a4
            have KE : Hid (gE l = 3) := Lib.hid (gE_form l (by rw [hn.out]; omega) (.inr ⟨V3.out ▸ a3, V3.out ▸ a4⟩))
            clear a3 a4
            go_wp2
            refine bodyPost_ret (v := .tuple #[.agg #[.bool false, .bool false, .bool false, .int .u64 0, .int .u32 0, .int .u64 0, .int .u16 0, .int .u16 0, .int .u16 0, .int .u16 0, .int .u16 0], .int .i64 3]) (by simp [results, Tryz.results36, go_sem]) rfl ⟨by obtain ⟨z0, z1, z2, z3, z4, z5, z6, z7, z8, z9, z10⟩ := g_bad l (by rw [KE.out]; decide); rw [z0, z1, z2, z3, z4, z5, z6, z7, z8, z9, z10, KE.out], ?_⟩
            exact below_new (Nat.le_refl _)
      · have d2 : (v2 != 0) = true := by simpa using a2
        have KE : Hid (gE l = 3) := Lib.hid (gE_form l (by rw [hn.out]; omega) (.inl (by rw [H3.out]; omega)))
        subst a0 a1
        clear a2
        go_wp2
        refine bodyPost_ret (v := .tuple #[.agg #[.bool false, .bool false, .bool false, .int .u64 0, .int .u32 0, .int .u64 0, .int .u16 0, .int .u16 0, .int .u16 0, .int .u16 0, .int .u16 0], .int .i64 3]) (by simp [results, Tryz.results36, go_sem]) rfl ⟨by obtain ⟨z0, z1, z2, z3, z4, z5, z6, z7, z8, z9, z10⟩ := g_bad l (by rw [KE.out]; decide); rw [z0, z1, z2, z3, z4, z5, z6, z7, z8, z9, z10, KE.out], ?_⟩
        exact below_new (Nat.le_refl _)
    · have d1 : (v1 != 0) = true := by simpa using a1
      have KE : Hid (gE l = 3) := Lib.hid (gE_form l (by rw [hn.out]; omega) (.inl (by rw [H3.out]; omega)))
      subst a0
      clear a1
      go_wp2
      refine bodyPost_ret (v := .tuple #[.agg #[.bool false, .bool false, .bool false, .int .u64 0, .int .u32 0, .int .u64 0, .int .u16 0, .int .u16 0, .int .u16 0, .int .u16 0, .int .u16 0], .int .i64 3]) (by simp [results, Tryz.results36, go_sem]) rfl ⟨by obtain ⟨z0, z1, z2, z3, z4, z5, z6, z7, z8, z9, z10⟩ := g_bad l (by rw [KE.out]; decide); rw [z0, z1, z2, z3, z4, z5, z6, z7, z8, z9, z10, KE.out], ?_⟩
      exact below_new (Nat.le_refl _)
  · have d0 : (v0 != 0) = true := by simpa using a0
    have KE : Hid (gE l = 3) := Lib.hid (gE_form l (by rw [hn.out]; omega) (.inl (by rw [H3.out]; omega)))
    clear a0
    go_wp2
    refine bodyPost_ret (v := .tuple #[.agg #[.bool false, .bool false, .bool false, .int .u64 0, .int .u32 0, .int .u64 0, .int .u16 0, .int .u16 0, .int .u16 0, .int .u16 0, .int .u16 0], .int .i64 3]) (by simp [results, Tryz.results36, go_sem]) rfl ⟨by obtain ⟨z0, z1, z2, z3, z4, z5, z6, z7, z8, z9, z10⟩ := g_bad l (by rw [KE.out]; decide); rw [z0, z1, z2, z3, z4, z5, z6, z7, z8, z9, z10, KE.out], ?_⟩
    exact below_new (Nat.le_refl _)

end Go.Proofs.YteplefdnnehdgaaGreatDoor

/- To a port: the program's For, and the document's. -/
namespace Go.Proofs.YteplefdnnehdgaaGreatDoor
set_option maxRecDepth 100000
open Go.ChangeShapes Go.WideShapes Go.ChangeAt Go.RowKit
set_option linter.unusedVariables false

theorem refget_any (A : Option Addr) (c : Nat) (l : List UInt8) (n : Nat) (hn : Hid (l.length = n)) (hm : n ≤ 10000) (hnc : n ≤ c) (w : World) (hr : RB w A 0 w.heap.size l) :
    Calls Tryz.prog 36 #[.slice A n c] w (GetEnd l w) := by
  by_cases h : n < 4
  · exact refget_short A n c l hn h w
  · obtain ⟨ad, rfl, _, p2, _⟩ := hr (by rw [hn.out]; omega)
    exact refget_long ad c l n hn hm hnc (by omega) w hr p2

theorem gE_kind (l : List UInt8) (h : gE l = 0) : fld l 3 1 = 0 ∨ fld l 3 1 = 128 := by
  unfold gE at h
  by_cases h1 : l.length < 4
  · rw [if_pos h1] at h; cases h
  · rw [if_neg h1] at h
    by_cases h2 : fld l 0 3 ≠ 0 ∨ fld l 3 1 ≠ 0 ∧ fld l 3 1 ≠ 128
    · rw [if_pos h2] at h; cases h
    · omega

theorem own_good (l : List UInt8) (b p : Int) (h : gE l = 0) : fOwn l b p = (!gTc l && (gBr l == b && gPo l == p)) := by
  unfold fOwn
  rcases gE_kind l h with k | k
  · rw [show gCf l = true by unfold gCf; rw [h, k]; rfl, show gTc l = false by unfold gTc; rw [k]; simp]; rfl
  · rw [show gCf l = false by unfold gCf; rw [k]; simp, show gTc l = true by unfold gTc; rw [h, k]; rfl]; rfl

theorem own_bad (l : List UInt8) (b p : Int) (h : gE l ≠ 0) : fOwn l b p = false := by
  have e : (gE l == 0) = false := by simpa using h
  unfold fOwn gCf
  rw [e]; rfl

theorem get_rb {w w0 : World} {A : Option Addr} {l : List UInt8} (hr : RB w A 0 w.heap.size l) (hb : Below w.heap.size w w0) : RB w0 A 0 w0.heap.size l := (hr.below hb (Nat.le_refl _)).wide (Nat.le_refl _) hb.size

/-- What 'For' leaves. -/
def ForEnd (l : List UInt8) (b p : Int) (w : World) (e : Ending) (w' : World) : Prop :=
  e = .returned (.tuple #[.agg #[.bool (fTc l b p), .bool (fCh l b p), .bool (fAk l b p), .int .u64 (fRo l b p), .int .u32 (fCo l b p), .int .u64 (fBr l b p), .int .u16 (fPo l b p), .int .u16 (fAg l b p), .int .u16 (fMa l b p), .int .u16 (fHe l b p), .int .u16 (fDe l b p)], .int .i64 (fE l b p)]) ∧ Below w.heap.size w w'

/-- The answer's place. -/
def QS (cs : List Value) (w wc : World) : Prop := Bk wc w.heap.size 56 cs ∧ Below w.heap.size w wc

theorem QS.put {cs : List Value} {w wc : World} (c : QS cs w wc) (i : Nat) (u : Value) : QS (cs.set i u) w (wc.setCell ⟨w.heap.size, i, none⟩ u) :=
  ⟨c.1.set i u, c.2.setCell (Nat.le_refl _) u⟩

set_option maxRecDepth 100000 in
set_option maxHeartbeats 2000000 in
theorem for_any (A : Option Addr) (c : Nat) (l : List UInt8) (n : Nat) (hn : Hid (l.length = n)) (hm : n ≤ 10000) (hnc : n ≤ c) (b p : Int) (w : World) (hr : RB w A 0 w.heap.size l) :
    Calls Tryz.prog 15 #[.slice A n c, .int .u64 b, .int .u16 p] w (ForEnd l b p w) := by
  obtain ⟨tc, htc⟩ : ∃ v, v = gTc l := ⟨_, rfl⟩
  have Htc := Lib.hid htc
  obtain ⟨ch, hch⟩ : ∃ v, v = gCh l := ⟨_, rfl⟩
  have Hch := Lib.hid hch
  obtain ⟨ak, hak⟩ : ∃ v, v = gAk l := ⟨_, rfl⟩
  have Hak := Lib.hid hak
  obtain ⟨ro, hro⟩ : ∃ v, v = gRo l := ⟨_, rfl⟩
  have Hro := Lib.hid hro
  obtain ⟨co, hco⟩ : ∃ v, v = gCo l := ⟨_, rfl⟩
  have Hco := Lib.hid hco
  obtain ⟨br, hbr⟩ : ∃ v, v = gBr l := ⟨_, rfl⟩
  have Hbr := Lib.hid hbr
  obtain ⟨po, hpo⟩ : ∃ v, v = gPo l := ⟨_, rfl⟩
  have Hpo := Lib.hid hpo
  obtain ⟨ag, hag⟩ : ∃ v, v = gAg l := ⟨_, rfl⟩
  have Hag := Lib.hid hag
  obtain ⟨ma, hma⟩ : ∃ v, v = gMa l := ⟨_, rfl⟩
  have Hma := Lib.hid hma
  obtain ⟨he, hhe⟩ : ∃ v, v = gHe l := ⟨_, rfl⟩
  have Hhe := Lib.hid hhe
  obtain ⟨de, hde⟩ : ∃ v, v = gDe l := ⟨_, rfl⟩
  have Hde := Lib.hid hde
  obtain ⟨E, hE⟩ : ∃ v, v = gE l := ⟨_, rfl⟩
  have HE := Lib.hid hE
  go_enter Tryz.func15, Tryz.ntmps15
  go_wp2_with fail
  obtain ⟨w0, hB0, hb0, hs0, hw0⟩ := bboxed w false false false 0 0 0 0 0 0 0 0
  rw [← hw0]
  clear hw0
  (with_reducible refine (get_any A c l n hn hm hnc _ (get_rb hr hb0)).mono ?_); rintro e w1 ⟨rfl, hb1⟩
  rw [← htc, ← hch, ← hak, ← hro, ← hco, ← hbr, ← hpo, ← hag, ← hma, ← hhe, ← hde, ← hE]
  clear htc hch hak hro hco hbr hpo hag hma hhe hde hE
  have hs1 : w.heap.size < w1.heap.size := Nat.lt_of_lt_of_le hs0 hb1.size
  go_upto_region 2 with fail
  have g : QS [.bool false, .bool false, .bool false, .int .u64 0, .int .u32 0, .int .u64 0, .int .u16 0, .int .u16 0, .int .u16 0, .int .u16 0, .int .u16 0] w (w1.alloc (.cells #[.bool tc, .bool ch, .bool ak, .int .u64 ro, .int .u32 co, .int .u64 br, .int .u16 po, .int .u16 ag, .int .u16 ma, .int .u16 he, .int .u16 de] 56)) := ⟨(hB0.below hb1 hs0).below (below_new (Nat.le_refl _)) (Nat.lt_of_lt_of_le hs0 hb1.size), (hb0.trans (hb1.mono (Nat.le_of_lt hs0))).alloc (Nat.le_trans (Nat.le_of_lt hs0) hb1.size) _⟩
  have gx := BB.new w1 tc ch ak ro co br po ag ma he de
  generalize w1.alloc (.cells #[.bool tc, .bool ch, .bool ak, .int .u64 ro, .int .u32 co, .int .u64 br, .int .u16 po, .int .u16 ag, .int .u16 ma, .int .u16 he, .int .u16 de] 56) = wx at g gx ⊢
  obtain ⟨d0, d1, d2, d3, d4, d5, d6, d7, d8, d9, d10⟩ := gx.cells
  obtain ⟨c0, c1, c2, c3, c4, c5, c6, c7, c8, c9, c10⟩ := BB.cells (show BB wx w.heap.size false false false 0 0 0 0 0 0 0 0 from g.1)
  obtain ⟨z0, z1, z2, z3, z4, z5, z6, z7, z8, z9, z10⟩ := BB.thaws (show BB wx w.heap.size false false false 0 0 0 0 0 0 0 0 from g.1)
  generalize w1.heap.size = X at hs1 gx d0 d1 d2 d3 d4 d5 d6 d7 d8 d9 d10 ⊢
  have hne : Hid (w.heap.size ≠ X) := Lib.hid (Nat.ne_of_lt hs1)
  clear hB0 hb0 hs0 hb1 gx
  by_cases er : E = 0
  · subst er
    have E0 : Hid (gE l = 0) := Lib.hid HE.out.symm
    cases tc
    · cases eb : br == b
      · have OW : Hid (fOwn l b p = false) := Lib.hid (by rw [own_good l b p E0.out, ← Htc.out, ← Hbr.out, eb]; rfl)
        go_wp2_with fail
        have gz := (((((((((((g.put 0 (.bool false)).put 1 (.bool ch)).put 2 (.bool ak)).put 3 (.int .u64 ro)).put 4 (.int .u32 co)).put 5 (.int .u64 br)).put 6 (.int .u16 po)).put 7 (.int .u16 ag)).put 8 (.int .u16 ma)).put 9 (.int .u16 he)).put 10 (.int .u16 de))
        generalize World.setCell _ ⟨w.heap.size, 10, none⟩ _ = we at gz ⊢
        obtain ⟨k2, k4⟩ := gz
        obtain ⟨e0, e1, e2, e3, e4, e5, e6, e7, e8, e9, e10⟩ := BB.cells (show BB we w.heap.size false ch ak ro co br po ag ma he de from k2)
        exact bodyPost_ret (v := .tuple #[.agg #[.bool false, .bool ch, .bool ak, .int .u64 ro, .int .u32 co, .int .u64 br, .int .u16 po, .int .u16 ag, .int .u16 ma, .int .u16 he, .int .u16 de], .int .i64 0]) (by simp [results, Tryz.results15, go_sem, e0, e1, e2, e3, e4, e5, e6, e7, e8, e9, e10]) rfl ⟨by obtain ⟨f0, f1, f2, f3, f4, f5, f6, f7, f8, f9, f10, f11⟩ := f_not l b p OW.out; rw [f0, f1, f2, f3, f4, f5, f6, f7, f8, f9, f10, f11, HE.out, Htc.out, Hch.out, Hak.out, Hro.out, Hco.out, Hbr.out, Hpo.out, Hag.out, Hma.out, Hhe.out, Hde.out], first_below k4⟩
      · cases ep : po == p
        · have OW : Hid (fOwn l b p = false) := Lib.hid (by rw [own_good l b p E0.out, ← Htc.out, ← Hbr.out, ← Hpo.out, eb, ep]; rfl)
          go_wp2_with fail
          have gz := (((((((((((g.put 0 (.bool false)).put 1 (.bool ch)).put 2 (.bool ak)).put 3 (.int .u64 ro)).put 4 (.int .u32 co)).put 5 (.int .u64 br)).put 6 (.int .u16 po)).put 7 (.int .u16 ag)).put 8 (.int .u16 ma)).put 9 (.int .u16 he)).put 10 (.int .u16 de))
          generalize World.setCell _ ⟨w.heap.size, 10, none⟩ _ = we at gz ⊢
          obtain ⟨k2, k4⟩ := gz
          obtain ⟨e0, e1, e2, e3, e4, e5, e6, e7, e8, e9, e10⟩ := BB.cells (show BB we w.heap.size false ch ak ro co br po ag ma he de from k2)
          exact bodyPost_ret (v := .tuple #[.agg #[.bool false, .bool ch, .bool ak, .int .u64 ro, .int .u32 co, .int .u64 br, .int .u16 po, .int .u16 ag, .int .u16 ma, .int .u16 he, .int .u16 de], .int .i64 0]) (by simp [results, Tryz.results15, go_sem, e0, e1, e2, e3, e4, e5, e6, e7, e8, e9, e10]) rfl ⟨by obtain ⟨f0, f1, f2, f3, f4, f5, f6, f7, f8, f9, f10, f11⟩ := f_not l b p OW.out; rw [f0, f1, f2, f3, f4, f5, f6, f7, f8, f9, f10, f11, HE.out, Htc.out, Hch.out, Hak.out, Hro.out, Hco.out, Hbr.out, Hpo.out, Hag.out, Hma.out, Hhe.out, Hde.out], first_below k4⟩
        · have OW : Hid (fOwn l b p = true) := Lib.hid (by rw [own_good l b p E0.out, ← Htc.out, ← Hbr.out, ← Hpo.out, eb, ep]; rfl)
          go_wp2_with fail
          have gz := (((((((((((g.put 0 (.bool false)).put 1 (.bool false)).put 2 (.bool false)).put 3 (.int .u64 0)).put 4 (.int .u32 0)).put 5 (.int .u64 0)).put 6 (.int .u16 0)).put 7 (.int .u16 0)).put 8 (.int .u16 0)).put 9 (.int .u16 0)).put 10 (.int .u16 0))
          generalize World.setCell _ ⟨w.heap.size, 10, none⟩ _ = we at gz ⊢
          obtain ⟨k2, k4⟩ := gz
          obtain ⟨e0, e1, e2, e3, e4, e5, e6, e7, e8, e9, e10⟩ := BB.cells (show BB we w.heap.size false false false 0 0 0 0 0 0 0 0 from k2)
          exact bodyPost_ret (v := .tuple #[.agg #[.bool false, .bool false, .bool false, .int .u64 0, .int .u32 0, .int .u64 0, .int .u16 0, .int .u16 0, .int .u16 0, .int .u16 0, .int .u16 0], .int .i64 6]) (by simp [results, Tryz.results15, go_sem, e0, e1, e2, e3, e4, e5, e6, e7, e8, e9, e10]) rfl ⟨by obtain ⟨f0, f1, f2, f3, f4, f5, f6, f7, f8, f9, f10, f11⟩ := f_own l b p OW.out; rw [f0, f1, f2, f3, f4, f5, f6, f7, f8, f9, f10, f11], first_below k4⟩
    · have OW : Hid (fOwn l b p = false) := Lib.hid (by rw [own_good l b p E0.out, ← Htc.out]; rfl)
      go_wp2_with fail
      have gz := (((((((((((g.put 0 (.bool true)).put 1 (.bool ch)).put 2 (.bool ak)).put 3 (.int .u64 ro)).put 4 (.int .u32 co)).put 5 (.int .u64 br)).put 6 (.int .u16 po)).put 7 (.int .u16 ag)).put 8 (.int .u16 ma)).put 9 (.int .u16 he)).put 10 (.int .u16 de))
      generalize World.setCell _ ⟨w.heap.size, 10, none⟩ _ = we at gz ⊢
      obtain ⟨k2, k4⟩ := gz
      obtain ⟨e0, e1, e2, e3, e4, e5, e6, e7, e8, e9, e10⟩ := BB.cells (show BB we w.heap.size true ch ak ro co br po ag ma he de from k2)
      exact bodyPost_ret (v := .tuple #[.agg #[.bool true, .bool ch, .bool ak, .int .u64 ro, .int .u32 co, .int .u64 br, .int .u16 po, .int .u16 ag, .int .u16 ma, .int .u16 he, .int .u16 de], .int .i64 0]) (by simp [results, Tryz.results15, go_sem, e0, e1, e2, e3, e4, e5, e6, e7, e8, e9, e10]) rfl ⟨by obtain ⟨f0, f1, f2, f3, f4, f5, f6, f7, f8, f9, f10, f11⟩ := f_not l b p OW.out; rw [f0, f1, f2, f3, f4, f5, f6, f7, f8, f9, f10, f11, HE.out, Htc.out, Hch.out, Hak.out, Hro.out, Hco.out, Hbr.out, Hpo.out, Hag.out, Hma.out, Hhe.out, Hde.out], first_below k4⟩
  · have ER : Hid (gE l ≠ 0) := Lib.hid (HE.out ▸ er)
    have OW : Hid (fOwn l b p = false) := Lib.hid (own_bad l b p ER.out)
    have d0 : (E != 0) = true := by simpa using er
    clear er
    go_wp2_with fail
    have gz := (((((((((((g.put 0 (.bool false)).put 1 (.bool false)).put 2 (.bool false)).put 3 (.int .u64 0)).put 4 (.int .u32 0)).put 5 (.int .u64 0)).put 6 (.int .u16 0)).put 7 (.int .u16 0)).put 8 (.int .u16 0)).put 9 (.int .u16 0)).put 10 (.int .u16 0))
    generalize World.setCell _ ⟨w.heap.size, 10, none⟩ _ = we at gz ⊢
    obtain ⟨k2, k4⟩ := gz
    obtain ⟨e0, e1, e2, e3, e4, e5, e6, e7, e8, e9, e10⟩ := BB.cells (show BB we w.heap.size false false false 0 0 0 0 0 0 0 0 from k2)
    exact bodyPost_ret (v := .tuple #[.agg #[.bool false, .bool false, .bool false, .int .u64 0, .int .u32 0, .int .u64 0, .int .u16 0, .int .u16 0, .int .u16 0, .int .u16 0, .int .u16 0], .int .i64 E]) (by simp [results, Tryz.results15, go_sem, e0, e1, e2, e3, e4, e5, e6, e7, e8, e9, e10]) rfl ⟨by obtain ⟨f0, f1, f2, f3, f4, f5, f6, f7, f8, f9, f10, f11⟩ := f_not l b p OW.out; obtain ⟨z0, z1, z2, z3, z4, z5, z6, z7, z8, z9, z10⟩ := g_bad l ER.out; rw [f0, f1, f2, f3, f4, f5, f6, f7, f8, f9, f10, f11, HE.out, z0, z1, z2, z3, z4, z5, z6, z7, z8, z9, z10], first_below k4⟩

set_option maxRecDepth 100000 in
set_option maxHeartbeats 2000000 in
theorem reffor_any (A : Option Addr) (c : Nat) (l : List UInt8) (n : Nat) (hn : Hid (l.length = n)) (hm : n ≤ 10000) (hnc : n ≤ c) (b p : Int) (w : World) (hr : RB w A 0 w.heap.size l) :
    Calls Tryz.prog 18 #[.slice A n c, .int .u64 b, .int .u16 p] w (ForEnd l b p w) := by
  obtain ⟨tc, htc⟩ : ∃ v, v = gTc l := ⟨_, rfl⟩
  have Htc := Lib.hid htc
  obtain ⟨ch, hch⟩ : ∃ v, v = gCh l := ⟨_, rfl⟩
  have Hch := Lib.hid hch
  obtain ⟨ak, hak⟩ : ∃ v, v = gAk l := ⟨_, rfl⟩
  have Hak := Lib.hid hak
  obtain ⟨ro, hro⟩ : ∃ v, v = gRo l := ⟨_, rfl⟩
  have Hro := Lib.hid hro
  obtain ⟨co, hco⟩ : ∃ v, v = gCo l := ⟨_, rfl⟩
  have Hco := Lib.hid hco
  obtain ⟨br, hbr⟩ : ∃ v, v = gBr l := ⟨_, rfl⟩
  have Hbr := Lib.hid hbr
  obtain ⟨po, hpo⟩ : ∃ v, v = gPo l := ⟨_, rfl⟩
  have Hpo := Lib.hid hpo
  obtain ⟨ag, hag⟩ : ∃ v, v = gAg l := ⟨_, rfl⟩
  have Hag := Lib.hid hag
  obtain ⟨ma, hma⟩ : ∃ v, v = gMa l := ⟨_, rfl⟩
  have Hma := Lib.hid hma
  obtain ⟨he, hhe⟩ : ∃ v, v = gHe l := ⟨_, rfl⟩
  have Hhe := Lib.hid hhe
  obtain ⟨de, hde⟩ : ∃ v, v = gDe l := ⟨_, rfl⟩
  have Hde := Lib.hid hde
  obtain ⟨E, hE⟩ : ∃ v, v = gE l := ⟨_, rfl⟩
  have HE := Lib.hid hE
  go_enter Tryz.func18, Tryz.ntmps18
  go_wp2_with fail
  obtain ⟨w0, hB0, hb0, hs0, hw0⟩ := bboxed w false false false 0 0 0 0 0 0 0 0
  rw [← hw0]
  clear hw0
  (with_reducible refine (refget_any A c l n hn hm hnc _ (get_rb hr hb0)).mono ?_); rintro e w1 ⟨rfl, hb1⟩
  rw [← htc, ← hch, ← hak, ← hro, ← hco, ← hbr, ← hpo, ← hag, ← hma, ← hhe, ← hde, ← hE]
  clear htc hch hak hro hco hbr hpo hag hma hhe hde hE
  have hs1 : w.heap.size < w1.heap.size := Nat.lt_of_lt_of_le hs0 hb1.size
  go_upto_region 2 with fail
  have g : QS [.bool false, .bool false, .bool false, .int .u64 0, .int .u32 0, .int .u64 0, .int .u16 0, .int .u16 0, .int .u16 0, .int .u16 0, .int .u16 0] w (w1.alloc (.cells #[.bool tc, .bool ch, .bool ak, .int .u64 ro, .int .u32 co, .int .u64 br, .int .u16 po, .int .u16 ag, .int .u16 ma, .int .u16 he, .int .u16 de] 56)) := ⟨(hB0.below hb1 hs0).below (below_new (Nat.le_refl _)) (Nat.lt_of_lt_of_le hs0 hb1.size), (hb0.trans (hb1.mono (Nat.le_of_lt hs0))).alloc (Nat.le_trans (Nat.le_of_lt hs0) hb1.size) _⟩
  have gx := BB.new w1 tc ch ak ro co br po ag ma he de
  generalize w1.alloc (.cells #[.bool tc, .bool ch, .bool ak, .int .u64 ro, .int .u32 co, .int .u64 br, .int .u16 po, .int .u16 ag, .int .u16 ma, .int .u16 he, .int .u16 de] 56) = wx at g gx ⊢
  obtain ⟨d0, d1, d2, d3, d4, d5, d6, d7, d8, d9, d10⟩ := gx.cells
  obtain ⟨c0, c1, c2, c3, c4, c5, c6, c7, c8, c9, c10⟩ := BB.cells (show BB wx w.heap.size false false false 0 0 0 0 0 0 0 0 from g.1)
  obtain ⟨z0, z1, z2, z3, z4, z5, z6, z7, z8, z9, z10⟩ := BB.thaws (show BB wx w.heap.size false false false 0 0 0 0 0 0 0 0 from g.1)
  generalize w1.heap.size = X at hs1 gx d0 d1 d2 d3 d4 d5 d6 d7 d8 d9 d10 ⊢
  have hne : Hid (w.heap.size ≠ X) := Lib.hid (Nat.ne_of_lt hs1)
  clear hB0 hb0 hs0 hb1 gx
  by_cases er : E = 0
  · subst er
    have E0 : Hid (gE l = 0) := Lib.hid HE.out.symm
    cases tc
    · cases eb : br == b
      · have OW : Hid (fOwn l b p = false) := Lib.hid (by rw [own_good l b p E0.out, ← Htc.out, ← Hbr.out, eb]; rfl)
        go_wp2_with fail
        have gz := (((((((((((g.put 0 (.bool false)).put 1 (.bool ch)).put 2 (.bool ak)).put 3 (.int .u64 ro)).put 4 (.int .u32 co)).put 5 (.int .u64 br)).put 6 (.int .u16 po)).put 7 (.int .u16 ag)).put 8 (.int .u16 ma)).put 9 (.int .u16 he)).put 10 (.int .u16 de))
        generalize World.setCell _ ⟨w.heap.size, 10, none⟩ _ = we at gz ⊢
        obtain ⟨k2, k4⟩ := gz
        obtain ⟨e0, e1, e2, e3, e4, e5, e6, e7, e8, e9, e10⟩ := BB.cells (show BB we w.heap.size false ch ak ro co br po ag ma he de from k2)
        exact bodyPost_ret (v := .tuple #[.agg #[.bool false, .bool ch, .bool ak, .int .u64 ro, .int .u32 co, .int .u64 br, .int .u16 po, .int .u16 ag, .int .u16 ma, .int .u16 he, .int .u16 de], .int .i64 0]) (by simp [results, Tryz.results18, go_sem, e0, e1, e2, e3, e4, e5, e6, e7, e8, e9, e10]) rfl ⟨by obtain ⟨f0, f1, f2, f3, f4, f5, f6, f7, f8, f9, f10, f11⟩ := f_not l b p OW.out; rw [f0, f1, f2, f3, f4, f5, f6, f7, f8, f9, f10, f11, HE.out, Htc.out, Hch.out, Hak.out, Hro.out, Hco.out, Hbr.out, Hpo.out, Hag.out, Hma.out, Hhe.out, Hde.out], first_below k4⟩
      · cases ep : po == p
        · have OW : Hid (fOwn l b p = false) := Lib.hid (by rw [own_good l b p E0.out, ← Htc.out, ← Hbr.out, ← Hpo.out, eb, ep]; rfl)
          go_wp2_with fail
          have gz := (((((((((((g.put 0 (.bool false)).put 1 (.bool ch)).put 2 (.bool ak)).put 3 (.int .u64 ro)).put 4 (.int .u32 co)).put 5 (.int .u64 br)).put 6 (.int .u16 po)).put 7 (.int .u16 ag)).put 8 (.int .u16 ma)).put 9 (.int .u16 he)).put 10 (.int .u16 de))
          generalize World.setCell _ ⟨w.heap.size, 10, none⟩ _ = we at gz ⊢
          obtain ⟨k2, k4⟩ := gz
          obtain ⟨e0, e1, e2, e3, e4, e5, e6, e7, e8, e9, e10⟩ := BB.cells (show BB we w.heap.size false ch ak ro co br po ag ma he de from k2)
          exact bodyPost_ret (v := .tuple #[.agg #[.bool false, .bool ch, .bool ak, .int .u64 ro, .int .u32 co, .int .u64 br, .int .u16 po, .int .u16 ag, .int .u16 ma, .int .u16 he, .int .u16 de], .int .i64 0]) (by simp [results, Tryz.results18, go_sem, e0, e1, e2, e3, e4, e5, e6, e7, e8, e9, e10]) rfl ⟨by obtain ⟨f0, f1, f2, f3, f4, f5, f6, f7, f8, f9, f10, f11⟩ := f_not l b p OW.out; rw [f0, f1, f2, f3, f4, f5, f6, f7, f8, f9, f10, f11, HE.out, Htc.out, Hch.out, Hak.out, Hro.out, Hco.out, Hbr.out, Hpo.out, Hag.out, Hma.out, Hhe.out, Hde.out], first_below k4⟩
        · have OW : Hid (fOwn l b p = true) := Lib.hid (by rw [own_good l b p E0.out, ← Htc.out, ← Hbr.out, ← Hpo.out, eb, ep]; rfl)
          go_wp2_with fail
          have gz := (((((((((((g.put 0 (.bool false)).put 1 (.bool false)).put 2 (.bool false)).put 3 (.int .u64 0)).put 4 (.int .u32 0)).put 5 (.int .u64 0)).put 6 (.int .u16 0)).put 7 (.int .u16 0)).put 8 (.int .u16 0)).put 9 (.int .u16 0)).put 10 (.int .u16 0))
          generalize World.setCell _ ⟨w.heap.size, 10, none⟩ _ = we at gz ⊢
          obtain ⟨k2, k4⟩ := gz
          obtain ⟨e0, e1, e2, e3, e4, e5, e6, e7, e8, e9, e10⟩ := BB.cells (show BB we w.heap.size false false false 0 0 0 0 0 0 0 0 from k2)
          exact bodyPost_ret (v := .tuple #[.agg #[.bool false, .bool false, .bool false, .int .u64 0, .int .u32 0, .int .u64 0, .int .u16 0, .int .u16 0, .int .u16 0, .int .u16 0, .int .u16 0], .int .i64 6]) (by simp [results, Tryz.results18, go_sem, e0, e1, e2, e3, e4, e5, e6, e7, e8, e9, e10]) rfl ⟨by obtain ⟨f0, f1, f2, f3, f4, f5, f6, f7, f8, f9, f10, f11⟩ := f_own l b p OW.out; rw [f0, f1, f2, f3, f4, f5, f6, f7, f8, f9, f10, f11], first_below k4⟩
    · have OW : Hid (fOwn l b p = false) := Lib.hid (by rw [own_good l b p E0.out, ← Htc.out]; rfl)
      go_wp2_with fail
      have gz := (((((((((((g.put 0 (.bool true)).put 1 (.bool ch)).put 2 (.bool ak)).put 3 (.int .u64 ro)).put 4 (.int .u32 co)).put 5 (.int .u64 br)).put 6 (.int .u16 po)).put 7 (.int .u16 ag)).put 8 (.int .u16 ma)).put 9 (.int .u16 he)).put 10 (.int .u16 de))
      generalize World.setCell _ ⟨w.heap.size, 10, none⟩ _ = we at gz ⊢
      obtain ⟨k2, k4⟩ := gz
      obtain ⟨e0, e1, e2, e3, e4, e5, e6, e7, e8, e9, e10⟩ := BB.cells (show BB we w.heap.size true ch ak ro co br po ag ma he de from k2)
      exact bodyPost_ret (v := .tuple #[.agg #[.bool true, .bool ch, .bool ak, .int .u64 ro, .int .u32 co, .int .u64 br, .int .u16 po, .int .u16 ag, .int .u16 ma, .int .u16 he, .int .u16 de], .int .i64 0]) (by simp [results, Tryz.results18, go_sem, e0, e1, e2, e3, e4, e5, e6, e7, e8, e9, e10]) rfl ⟨by obtain ⟨f0, f1, f2, f3, f4, f5, f6, f7, f8, f9, f10, f11⟩ := f_not l b p OW.out; rw [f0, f1, f2, f3, f4, f5, f6, f7, f8, f9, f10, f11, HE.out, Htc.out, Hch.out, Hak.out, Hro.out, Hco.out, Hbr.out, Hpo.out, Hag.out, Hma.out, Hhe.out, Hde.out], first_below k4⟩
  · have ER : Hid (gE l ≠ 0) := Lib.hid (HE.out ▸ er)
    have OW : Hid (fOwn l b p = false) := Lib.hid (own_bad l b p ER.out)
    have d0 : (E == 0) = false := by simpa using er
    clear er
    go_wp2_with fail
    have gz := (((((((((((g.put 0 (.bool tc)).put 1 (.bool ch)).put 2 (.bool ak)).put 3 (.int .u64 ro)).put 4 (.int .u32 co)).put 5 (.int .u64 br)).put 6 (.int .u16 po)).put 7 (.int .u16 ag)).put 8 (.int .u16 ma)).put 9 (.int .u16 he)).put 10 (.int .u16 de))
    generalize World.setCell _ ⟨w.heap.size, 10, none⟩ _ = we at gz ⊢
    obtain ⟨k2, k4⟩ := gz
    obtain ⟨e0, e1, e2, e3, e4, e5, e6, e7, e8, e9, e10⟩ := BB.cells (show BB we w.heap.size tc ch ak ro co br po ag ma he de from k2)
    exact bodyPost_ret (v := .tuple #[.agg #[.bool tc, .bool ch, .bool ak, .int .u64 ro, .int .u32 co, .int .u64 br, .int .u16 po, .int .u16 ag, .int .u16 ma, .int .u16 he, .int .u16 de], .int .i64 E]) (by simp [results, Tryz.results18, go_sem, e0, e1, e2, e3, e4, e5, e6, e7, e8, e9, e10]) rfl ⟨by obtain ⟨f0, f1, f2, f3, f4, f5, f6, f7, f8, f9, f10, f11⟩ := f_not l b p OW.out; rw [f0, f1, f2, f3, f4, f5, f6, f7, f8, f9, f10, f11, HE.out, Htc.out, Hch.out, Hak.out, Hro.out, Hco.out, Hbr.out, Hpo.out, Hag.out, Hma.out, Hhe.out, Hde.out], first_below k4⟩

end Go.Proofs.YteplefdnnehdgaaGreatDoor

/- What a port hears in bytes: no program but what is laid. -/
namespace Go.Proofs.YteplefdnnehdgaaGreatDoor
set_option maxRecDepth 100000
open Go.ChangeShapes Go.WideShapes Go.ChangeAt Go.RowKit
set_option linter.unusedVariables false
set_option linter.unusedSimpArgs false

/-- What For makes of bytes. -/
def forQ (l : List UInt8) (b p : Int) : Bq := ⟨fTc l b p, fCh l b p, fAk l b p, fRo l b p, fCo l b p, fBr l b p, fPo l b p, fAg l b p, fMa l b p, fHe l b p, fDe l b p⟩
theorem for_row (l : List UInt8) (b p : Int) : lB (forQ l b p) = [.bool (fTc l b p), .bool (fCh l b p), .bool (fAk l b p), .int .u64 (fRo l b p), .int .u32 (fCo l b p), .int .u64 (fBr l b p), .int .u16 (fPo l b p), .int .u16 (fAg l b p), .int .u16 (fMa l b p), .int .u16 (fHe l b p), .int .u16 (fDe l b p)] := rfl
theorem forQ_in (l : List UInt8) (b p : Int) : BqIn (forQ l b p) := by
  have a1 := fld8 l 5
  have a2 := fld4 l 13
  have a3 := fld8 l 17
  have a4 := fld2 l 25
  have a5 := fld2 l 27
  have a6 := fld2 l 29
  have a7 := fld2 l 31
  have a8 := fld2 l 33
  unfold BqIn BpIn forQ fRo fCo fBr fPo fAg fMa fHe fDe gRo gCo gBr gPo gAg gMa gHe gDe
  dsimp only
  cases fOwn l b p <;> cases gCf l <;> simp only [if_true, if_false, Bool.false_eq_true] <;> omega
theorem fE_bd (l : List UInt8) (b p : Int) : 0 ≤ fE l b p ∧ fE l b p ≤ 6 := by
  have := gE_lo l
  unfold fE
  split <;> omega
/-- A port hears bytes. -/
def bytesR (t : Th) (L : List Po) (i : Int) (l : List UInt8) : ((Th × List Po) × List Ou) × Int :=
  if 0 ≤ i then (match L[i.toNat]? with
    | none => (((t, L), []), 8)
    | some p => if p.st = 0 then (((t, L), []), 8) else if (fE l t.ow p.id != 0) = true then (((t, L), []), fE l t.ow p.id)
        else if (forQ l t.ow p.id).tc = true then (tcnHeardR t L i, 0) else (heardR t L i (forQ l t.ow p.id), 0))
  else (((t, L), []), 8)
theorem bytesR_at {t : Th} {L : List Po} {k : Nat} {p : Po} {l : List UInt8} (h : L[k]? = some p) (hs : p.st ≠ 0) : bytesR t L k l = if (fE l t.ow p.id != 0) = true then (((t, L), []), fE l t.ow p.id)
    else if (forQ l t.ow p.id).tc = true then (tcnHeardR t L k, 0) else (heardR t L k (forQ l t.ow p.id), 0) := by
  unfold bytesR
  rw [if_pos (by omega), Int.toNat_natCast, h]
  simp only [if_neg hs]
/-- What hearing bytes hands out. -/
def BytesEnd (w : World) (n : Nat) (R : ((Th × List Po) × List Ou) × Int) (e : Ending) (w' : World) : Prop :=
  ∃ D cap v, e = .returned (.tuple #[.agg (lT R.1.1.1 D n cap).toArray, v, .int .i64 R.2]) ∧ (D = none → cap = 0) ∧ PoAt w' D w'.heap.size R.1.1.2 ∧ OutsR w' w.heap.size v R.1.2 ∧ Below w.heap.size w w'
/-- A result of many cells in its box, beside two in slots. -/
theorem results_three {P : Program} {fn : Func} {p r s : Tmp} {ty : TypeId} (h : fn.results = #[.cell p ty, .tmp r, .tmp s]) (tmps : Array Value) (w : World) (g : Nat) (t : TypeId) (cs : Array Value) (fr : Nat × Nat) (d : TypeDesc)
    (hp : tmps.getD p undef = .pointer (some ⟨g, 0, none⟩)) (v : Value) (hv : tmps.getD r undef = v) (u : Value) (hu' : tmps.getD s undef = u) (hg : w.heap[g]? = some (.cells cs t fr))
    (hu : P.underlying ty = some d) (hd : (match d with | .struct _ | .array _ _ => true | _ => false) = true) (hi : (P.info? ty).map (·.size) = some cs.size) :
    (results fn tmps).run P w = .ok (.tuple #[.agg cs, v, u]) w := by
  have hp' : tmps[p]?.getD undef = .pointer (some ⟨g, 0, none⟩) := by simpa using hp
  have hv' : tmps[r]?.getD undef = v := by simpa using hv
  have hw' : tmps[s]?.getD undef = u := by simpa using hu'
  simp [results, h, hp', hv', hw', asAddr, run_loadVar_row w g t ty cs fr d hg hu hd hi]

end Go.Proofs.YteplefdnnehdgaaGreatDoor
