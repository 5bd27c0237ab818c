/- To a port: the program's For, and the document's. -/
import Derived.Test.YtgkamfnhohcfbaaBpduRefGet
namespace Go.Proofs.Ytgkamfnhohcfbaa
open Go.ChangeShapes Go.WideShapes Go.ChangeAt Go.RowKit
set_option linter.unusedVariables false

theorem refget_any (A : Option Addr) (c : Nat) (l : List UInt8) (n : Nat) (hn : Hid (l.length = n)) (hm : n ≤ 10000) (hnc : n ≤ c) (w : World) (hr : RB w A 0 w.heap.size l) :
    Calls Try.prog 12 #[.slice A n c] w (GetEnd l w) := by
  by_cases h : n < 4
  · exact refget_short A n c l hn h w
  · obtain ⟨ad, rfl, _, p2, _⟩ := hr (by rw [hn.out]; omega)
    exact refget_long ad c l n hn hm hnc (by omega) w hr p2

theorem gE_kind (l : List UInt8) (h : gE l = 0) : fld l 3 1 = 0 ∨ fld l 3 1 = 128 := by
  unfold gE at h
  by_cases h1 : l.length < 4
  · rw [if_pos h1] at h; cases h
  · rw [if_neg h1] at h
    by_cases h2 : fld l 0 3 ≠ 0 ∨ fld l 3 1 ≠ 0 ∧ fld l 3 1 ≠ 128
    · rw [if_pos h2] at h; cases h
    · omega

theorem own_good (l : List UInt8) (b p : Int) (h : gE l = 0) : fOwn l b p = (!gTc l && (gBr l == b && gPo l == p)) := by
  unfold fOwn
  rcases gE_kind l h with k | k
  · rw [show gCf l = true by unfold gCf; rw [h, k]; rfl, show gTc l = false by unfold gTc; rw [k]; simp]; rfl
  · rw [show gCf l = false by unfold gCf; rw [k]; simp, show gTc l = true by unfold gTc; rw [h, k]; rfl]; rfl

theorem own_bad (l : List UInt8) (b p : Int) (h : gE l ≠ 0) : fOwn l b p = false := by
  have e : (gE l == 0) = false := by simpa using h
  unfold fOwn gCf
  rw [e]; rfl

theorem get_rb {w w0 : World} {A : Option Addr} {l : List UInt8} (hr : RB w A 0 w.heap.size l) (hb : Below w.heap.size w w0) : RB w0 A 0 w0.heap.size l := (hr.below hb (Nat.le_refl _)).wide (Nat.le_refl _) hb.size

/-- What 'For' leaves. -/
def ForEnd (l : List UInt8) (b p : Int) (w : World) (e : Ending) (w' : World) : Prop :=
  e = .returned (.tuple #[.agg #[.bool (fTc l b p), .bool (fCh l b p), .bool (fAk l b p), .int .u64 (fRo l b p), .int .u32 (fCo l b p), .int .u64 (fBr l b p), .int .u16 (fPo l b p), .int .u16 (fAg l b p), .int .u16 (fMa l b p), .int .u16 (fHe l b p), .int .u16 (fDe l b p)], .int .i64 (fE l b p)]) ∧ Below w.heap.size w w'

/-- The answer's place. -/
def QS (cs : List Value) (w wc : World) : Prop := Bk wc w.heap.size 28 cs ∧ Below w.heap.size w wc

theorem QS.put {cs : List Value} {w wc : World} (c : QS cs w wc) (i : Nat) (u : Value) : QS (cs.set i u) w (wc.setCell ⟨w.heap.size, i, none⟩ u) :=
  ⟨c.1.set i u, c.2.setCell (Nat.le_refl _) u⟩

set_option maxRecDepth 100000 in
set_option maxHeartbeats 2000000 in
theorem for_any (A : Option Addr) (c : Nat) (l : List UInt8) (n : Nat) (hn : Hid (l.length = n)) (hm : n ≤ 10000) (hnc : n ≤ c) (b p : Int) (w : World) (hr : RB w A 0 w.heap.size l) :
    Calls Try.prog 13 #[.slice A n c, .int .u64 b, .int .u16 p] w (ForEnd l b p w) := by
  obtain ⟨tc, htc⟩ : ∃ v, v = gTc l := ⟨_, rfl⟩
  have Htc := Lib.hid htc
  obtain ⟨ch, hch⟩ : ∃ v, v = gCh l := ⟨_, rfl⟩
  have Hch := Lib.hid hch
  obtain ⟨ak, hak⟩ : ∃ v, v = gAk l := ⟨_, rfl⟩
  have Hak := Lib.hid hak
  obtain ⟨ro, hro⟩ : ∃ v, v = gRo l := ⟨_, rfl⟩
  have Hro := Lib.hid hro
  obtain ⟨co, hco⟩ : ∃ v, v = gCo l := ⟨_, rfl⟩
  have Hco := Lib.hid hco
  obtain ⟨br, hbr⟩ : ∃ v, v = gBr l := ⟨_, rfl⟩
  have Hbr := Lib.hid hbr
  obtain ⟨po, hpo⟩ : ∃ v, v = gPo l := ⟨_, rfl⟩
  have Hpo := Lib.hid hpo
  obtain ⟨ag, hag⟩ : ∃ v, v = gAg l := ⟨_, rfl⟩
  have Hag := Lib.hid hag
  obtain ⟨ma, hma⟩ : ∃ v, v = gMa l := ⟨_, rfl⟩
  have Hma := Lib.hid hma
  obtain ⟨he, hhe⟩ : ∃ v, v = gHe l := ⟨_, rfl⟩
  have Hhe := Lib.hid hhe
  obtain ⟨de, hde⟩ : ∃ v, v = gDe l := ⟨_, rfl⟩
  have Hde := Lib.hid hde
  obtain ⟨E, hE⟩ : ∃ v, v = gE l := ⟨_, rfl⟩
  have HE := Lib.hid hE
  go_enter Try.func13, Try.ntmps13
  go_wp2_with fail
  obtain ⟨w0, hB0, hb0, hs0, hw0⟩ := bboxed w false false false 0 0 0 0 0 0 0 0
  rw [← hw0]
  clear hw0
  (with_reducible refine (get_any A c l n hn hm hnc _ (get_rb hr hb0)).mono ?_); rintro e w1 ⟨rfl, hb1⟩
  rw [← htc, ← hch, ← hak, ← hro, ← hco, ← hbr, ← hpo, ← hag, ← hma, ← hhe, ← hde, ← hE]
  clear htc hch hak hro hco hbr hpo hag hma hhe hde hE
  have hs1 : w.heap.size < w1.heap.size := Nat.lt_of_lt_of_le hs0 hb1.size
  go_upto_region 2 with fail
  have g : QS [.bool false, .bool false, .bool false, .int .u64 0, .int .u32 0, .int .u64 0, .int .u16 0, .int .u16 0, .int .u16 0, .int .u16 0, .int .u16 0] w (w1.alloc (.cells #[.bool tc, .bool ch, .bool ak, .int .u64 ro, .int .u32 co, .int .u64 br, .int .u16 po, .int .u16 ag, .int .u16 ma, .int .u16 he, .int .u16 de] 28)) := ⟨(hB0.below hb1 hs0).below (below_new (Nat.le_refl _)) (Nat.lt_of_lt_of_le hs0 hb1.size), (hb0.trans (hb1.mono (Nat.le_of_lt hs0))).alloc (Nat.le_trans (Nat.le_of_lt hs0) hb1.size) _⟩
  have gx := BB.new w1 tc ch ak ro co br po ag ma he de
  generalize w1.alloc (.cells #[.bool tc, .bool ch, .bool ak, .int .u64 ro, .int .u32 co, .int .u64 br, .int .u16 po, .int .u16 ag, .int .u16 ma, .int .u16 he, .int .u16 de] 28) = wx at g gx ⊢
  obtain ⟨d0, d1, d2, d3, d4, d5, d6, d7, d8, d9, d10⟩ := gx.cells
  obtain ⟨c0, c1, c2, c3, c4, c5, c6, c7, c8, c9, c10⟩ := BB.cells (show BB wx w.heap.size false false false 0 0 0 0 0 0 0 0 from g.1)
  obtain ⟨z0, z1, z2, z3, z4, z5, z6, z7, z8, z9, z10⟩ := BB.thaws (show BB wx w.heap.size false false false 0 0 0 0 0 0 0 0 from g.1)
  generalize w1.heap.size = X at hs1 gx d0 d1 d2 d3 d4 d5 d6 d7 d8 d9 d10 ⊢
  have hne : Hid (w.heap.size ≠ X) := Lib.hid (Nat.ne_of_lt hs1)
  clear hB0 hb0 hs0 hb1 gx
  by_cases er : E = 0
  · subst er
    have E0 : Hid (gE l = 0) := Lib.hid HE.out.symm
    cases tc
    · cases eb : br == b
      · have OW : Hid (fOwn l b p = false) := Lib.hid (by rw [own_good l b p E0.out, ← Htc.out, ← Hbr.out, eb]; rfl)
        go_wp2_with fail
        have gz := (((((((((((g.put 0 (.bool false)).put 1 (.bool ch)).put 2 (.bool ak)).put 3 (.int .u64 ro)).put 4 (.int .u32 co)).put 5 (.int .u64 br)).put 6 (.int .u16 po)).put 7 (.int .u16 ag)).put 8 (.int .u16 ma)).put 9 (.int .u16 he)).put 10 (.int .u16 de))
        generalize World.setCell _ ⟨w.heap.size, 10, none⟩ _ = we at gz ⊢
        obtain ⟨k2, k4⟩ := gz
        obtain ⟨e0, e1, e2, e3, e4, e5, e6, e7, e8, e9, e10⟩ := BB.cells (show BB we w.heap.size false ch ak ro co br po ag ma he de from k2)
        exact bodyPost_ret (v := .tuple #[.agg #[.bool false, .bool ch, .bool ak, .int .u64 ro, .int .u32 co, .int .u64 br, .int .u16 po, .int .u16 ag, .int .u16 ma, .int .u16 he, .int .u16 de], .int .i64 0]) (by simp [results, Try.results13, go_sem, e0, e1, e2, e3, e4, e5, e6, e7, e8, e9, e10]) rfl ⟨by obtain ⟨f0, f1, f2, f3, f4, f5, f6, f7, f8, f9, f10, f11⟩ := f_not l b p OW.out; rw [f0, f1, f2, f3, f4, f5, f6, f7, f8, f9, f10, f11, HE.out, Htc.out, Hch.out, Hak.out, Hro.out, Hco.out, Hbr.out, Hpo.out, Hag.out, Hma.out, Hhe.out, Hde.out], first_below k4⟩
      · cases ep : po == p
        · have OW : Hid (fOwn l b p = false) := Lib.hid (by rw [own_good l b p E0.out, ← Htc.out, ← Hbr.out, ← Hpo.out, eb, ep]; rfl)
          go_wp2_with fail
          have gz := (((((((((((g.put 0 (.bool false)).put 1 (.bool ch)).put 2 (.bool ak)).put 3 (.int .u64 ro)).put 4 (.int .u32 co)).put 5 (.int .u64 br)).put 6 (.int .u16 po)).put 7 (.int .u16 ag)).put 8 (.int .u16 ma)).put 9 (.int .u16 he)).put 10 (.int .u16 de))
          generalize World.setCell _ ⟨w.heap.size, 10, none⟩ _ = we at gz ⊢
          obtain ⟨k2, k4⟩ := gz
          obtain ⟨e0, e1, e2, e3, e4, e5, e6, e7, e8, e9, e10⟩ := BB.cells (show BB we w.heap.size false ch ak ro co br po ag ma he de from k2)
          exact bodyPost_ret (v := .tuple #[.agg #[.bool false, .bool ch, .bool ak, .int .u64 ro, .int .u32 co, .int .u64 br, .int .u16 po, .int .u16 ag, .int .u16 ma, .int .u16 he, .int .u16 de], .int .i64 0]) (by simp [results, Try.results13, go_sem, e0, e1, e2, e3, e4, e5, e6, e7, e8, e9, e10]) rfl ⟨by obtain ⟨f0, f1, f2, f3, f4, f5, f6, f7, f8, f9, f10, f11⟩ := f_not l b p OW.out; rw [f0, f1, f2, f3, f4, f5, f6, f7, f8, f9, f10, f11, HE.out, Htc.out, Hch.out, Hak.out, Hro.out, Hco.out, Hbr.out, Hpo.out, Hag.out, Hma.out, Hhe.out, Hde.out], first_below k4⟩
        · have OW : Hid (fOwn l b p = true) := Lib.hid (by rw [own_good l b p E0.out, ← Htc.out, ← Hbr.out, ← Hpo.out, eb, ep]; rfl)
          go_wp2_with fail
          have gz := (((((((((((g.put 0 (.bool false)).put 1 (.bool false)).put 2 (.bool false)).put 3 (.int .u64 0)).put 4 (.int .u32 0)).put 5 (.int .u64 0)).put 6 (.int .u16 0)).put 7 (.int .u16 0)).put 8 (.int .u16 0)).put 9 (.int .u16 0)).put 10 (.int .u16 0))
          generalize World.setCell _ ⟨w.heap.size, 10, none⟩ _ = we at gz ⊢
          obtain ⟨k2, k4⟩ := gz
          obtain ⟨e0, e1, e2, e3, e4, e5, e6, e7, e8, e9, e10⟩ := BB.cells (show BB we w.heap.size false false false 0 0 0 0 0 0 0 0 from k2)
          exact bodyPost_ret (v := .tuple #[.agg #[.bool false, .bool false, .bool false, .int .u64 0, .int .u32 0, .int .u64 0, .int .u16 0, .int .u16 0, .int .u16 0, .int .u16 0, .int .u16 0], .int .i64 6]) (by simp [results, Try.results13, go_sem, e0, e1, e2, e3, e4, e5, e6, e7, e8, e9, e10]) rfl ⟨by obtain ⟨f0, f1, f2, f3, f4, f5, f6, f7, f8, f9, f10, f11⟩ := f_own l b p OW.out; rw [f0, f1, f2, f3, f4, f5, f6, f7, f8, f9, f10, f11], first_below k4⟩
    · have OW : Hid (fOwn l b p = false) := Lib.hid (by rw [own_good l b p E0.out, ← Htc.out]; rfl)
      go_wp2_with fail
      have gz := (((((((((((g.put 0 (.bool true)).put 1 (.bool ch)).put 2 (.bool ak)).put 3 (.int .u64 ro)).put 4 (.int .u32 co)).put 5 (.int .u64 br)).put 6 (.int .u16 po)).put 7 (.int .u16 ag)).put 8 (.int .u16 ma)).put 9 (.int .u16 he)).put 10 (.int .u16 de))
      generalize World.setCell _ ⟨w.heap.size, 10, none⟩ _ = we at gz ⊢
      obtain ⟨k2, k4⟩ := gz
      obtain ⟨e0, e1, e2, e3, e4, e5, e6, e7, e8, e9, e10⟩ := BB.cells (show BB we w.heap.size true ch ak ro co br po ag ma he de from k2)
      exact bodyPost_ret (v := .tuple #[.agg #[.bool true, .bool ch, .bool ak, .int .u64 ro, .int .u32 co, .int .u64 br, .int .u16 po, .int .u16 ag, .int .u16 ma, .int .u16 he, .int .u16 de], .int .i64 0]) (by simp [results, Try.results13, go_sem, e0, e1, e2, e3, e4, e5, e6, e7, e8, e9, e10]) rfl ⟨by obtain ⟨f0, f1, f2, f3, f4, f5, f6, f7, f8, f9, f10, f11⟩ := f_not l b p OW.out; rw [f0, f1, f2, f3, f4, f5, f6, f7, f8, f9, f10, f11, HE.out, Htc.out, Hch.out, Hak.out, Hro.out, Hco.out, Hbr.out, Hpo.out, Hag.out, Hma.out, Hhe.out, Hde.out], first_below k4⟩
  · have ER : Hid (gE l ≠ 0) := Lib.hid (HE.out ▸ er)
    have OW : Hid (fOwn l b p = false) := Lib.hid (own_bad l b p ER.out)
    have d0 : (E != 0) = true := by simpa using er
    clear er
    go_wp2_with fail
    have gz := (((((((((((g.put 0 (.bool false)).put 1 (.bool false)).put 2 (.bool false)).put 3 (.int .u64 0)).put 4 (.int .u32 0)).put 5 (.int .u64 0)).put 6 (.int .u16 0)).put 7 (.int .u16 0)).put 8 (.int .u16 0)).put 9 (.int .u16 0)).put 10 (.int .u16 0))
    generalize World.setCell _ ⟨w.heap.size, 10, none⟩ _ = we at gz ⊢
    obtain ⟨k2, k4⟩ := gz
    obtain ⟨e0, e1, e2, e3, e4, e5, e6, e7, e8, e9, e10⟩ := BB.cells (show BB we w.heap.size false false false 0 0 0 0 0 0 0 0 from k2)
    exact bodyPost_ret (v := .tuple #[.agg #[.bool false, .bool false, .bool false, .int .u64 0, .int .u32 0, .int .u64 0, .int .u16 0, .int .u16 0, .int .u16 0, .int .u16 0, .int .u16 0], .int .i64 E]) (by simp [results, Try.results13, go_sem, e0, e1, e2, e3, e4, e5, e6, e7, e8, e9, e10]) rfl ⟨by obtain ⟨f0, f1, f2, f3, f4, f5, f6, f7, f8, f9, f10, f11⟩ := f_not l b p OW.out; obtain ⟨z0, z1, z2, z3, z4, z5, z6, z7, z8, z9, z10⟩ := g_bad l ER.out; rw [f0, f1, f2, f3, f4, f5, f6, f7, f8, f9, f10, f11, HE.out, z0, z1, z2, z3, z4, z5, z6, z7, z8, z9, z10], first_below k4⟩

set_option maxRecDepth 100000 in
set_option maxHeartbeats 2000000 in
theorem reffor_any (A : Option Addr) (c : Nat) (l : List UInt8) (n : Nat) (hn : Hid (l.length = n)) (hm : n ≤ 10000) (hnc : n ≤ c) (b p : Int) (w : World) (hr : RB w A 0 w.heap.size l) :
    Calls Try.prog 14 #[.slice A n c, .int .u64 b, .int .u16 p] w (ForEnd l b p w) := by
  obtain ⟨tc, htc⟩ : ∃ v, v = gTc l := ⟨_, rfl⟩
  have Htc := Lib.hid htc
  obtain ⟨ch, hch⟩ : ∃ v, v = gCh l := ⟨_, rfl⟩
  have Hch := Lib.hid hch
  obtain ⟨ak, hak⟩ : ∃ v, v = gAk l := ⟨_, rfl⟩
  have Hak := Lib.hid hak
  obtain ⟨ro, hro⟩ : ∃ v, v = gRo l := ⟨_, rfl⟩
  have Hro := Lib.hid hro
  obtain ⟨co, hco⟩ : ∃ v, v = gCo l := ⟨_, rfl⟩
  have Hco := Lib.hid hco
  obtain ⟨br, hbr⟩ : ∃ v, v = gBr l := ⟨_, rfl⟩
  have Hbr := Lib.hid hbr
  obtain ⟨po, hpo⟩ : ∃ v, v = gPo l := ⟨_, rfl⟩
  have Hpo := Lib.hid hpo
  obtain ⟨ag, hag⟩ : ∃ v, v = gAg l := ⟨_, rfl⟩
  have Hag := Lib.hid hag
  obtain ⟨ma, hma⟩ : ∃ v, v = gMa l := ⟨_, rfl⟩
  have Hma := Lib.hid hma
  obtain ⟨he, hhe⟩ : ∃ v, v = gHe l := ⟨_, rfl⟩
  have Hhe := Lib.hid hhe
  obtain ⟨de, hde⟩ : ∃ v, v = gDe l := ⟨_, rfl⟩
  have Hde := Lib.hid hde
  obtain ⟨E, hE⟩ : ∃ v, v = gE l := ⟨_, rfl⟩
  have HE := Lib.hid hE
  go_enter Try.func14, Try.ntmps14
  go_wp2_with fail
  obtain ⟨w0, hB0, hb0, hs0, hw0⟩ := bboxed w false false false 0 0 0 0 0 0 0 0
  rw [← hw0]
  clear hw0
  (with_reducible refine (refget_any A c l n hn hm hnc _ (get_rb hr hb0)).mono ?_); rintro e w1 ⟨rfl, hb1⟩
  rw [← htc, ← hch, ← hak, ← hro, ← hco, ← hbr, ← hpo, ← hag, ← hma, ← hhe, ← hde, ← hE]
  clear htc hch hak hro hco hbr hpo hag hma hhe hde hE
  have hs1 : w.heap.size < w1.heap.size := Nat.lt_of_lt_of_le hs0 hb1.size
  go_upto_region 2 with fail
  have g : QS [.bool false, .bool false, .bool false, .int .u64 0, .int .u32 0, .int .u64 0, .int .u16 0, .int .u16 0, .int .u16 0, .int .u16 0, .int .u16 0] w (w1.alloc (.cells #[.bool tc, .bool ch, .bool ak, .int .u64 ro, .int .u32 co, .int .u64 br, .int .u16 po, .int .u16 ag, .int .u16 ma, .int .u16 he, .int .u16 de] 28)) := ⟨(hB0.below hb1 hs0).below (below_new (Nat.le_refl _)) (Nat.lt_of_lt_of_le hs0 hb1.size), (hb0.trans (hb1.mono (Nat.le_of_lt hs0))).alloc (Nat.le_trans (Nat.le_of_lt hs0) hb1.size) _⟩
  have gx := BB.new w1 tc ch ak ro co br po ag ma he de
  generalize w1.alloc (.cells #[.bool tc, .bool ch, .bool ak, .int .u64 ro, .int .u32 co, .int .u64 br, .int .u16 po, .int .u16 ag, .int .u16 ma, .int .u16 he, .int .u16 de] 28) = wx at g gx ⊢
  obtain ⟨d0, d1, d2, d3, d4, d5, d6, d7, d8, d9, d10⟩ := gx.cells
  obtain ⟨c0, c1, c2, c3, c4, c5, c6, c7, c8, c9, c10⟩ := BB.cells (show BB wx w.heap.size false false false 0 0 0 0 0 0 0 0 from g.1)
  obtain ⟨z0, z1, z2, z3, z4, z5, z6, z7, z8, z9, z10⟩ := BB.thaws (show BB wx w.heap.size false false false 0 0 0 0 0 0 0 0 from g.1)
  generalize w1.heap.size = X at hs1 gx d0 d1 d2 d3 d4 d5 d6 d7 d8 d9 d10 ⊢
  have hne : Hid (w.heap.size ≠ X) := Lib.hid (Nat.ne_of_lt hs1)
  clear hB0 hb0 hs0 hb1 gx
  by_cases er : E = 0
  · subst er
    have E0 : Hid (gE l = 0) := Lib.hid HE.out.symm
    cases tc
    · cases eb : br == b
      · have OW : Hid (fOwn l b p = false) := Lib.hid (by rw [own_good l b p E0.out, ← Htc.out, ← Hbr.out, eb]; rfl)
        go_wp2_with fail
        have gz := (((((((((((g.put 0 (.bool false)).put 1 (.bool ch)).put 2 (.bool ak)).put 3 (.int .u64 ro)).put 4 (.int .u32 co)).put 5 (.int .u64 br)).put 6 (.int .u16 po)).put 7 (.int .u16 ag)).put 8 (.int .u16 ma)).put 9 (.int .u16 he)).put 10 (.int .u16 de))
        generalize World.setCell _ ⟨w.heap.size, 10, none⟩ _ = we at gz ⊢
        obtain ⟨k2, k4⟩ := gz
        obtain ⟨e0, e1, e2, e3, e4, e5, e6, e7, e8, e9, e10⟩ := BB.cells (show BB we w.heap.size false ch ak ro co br po ag ma he de from k2)
        exact bodyPost_ret (v := .tuple #[.agg #[.bool false, .bool ch, .bool ak, .int .u64 ro, .int .u32 co, .int .u64 br, .int .u16 po, .int .u16 ag, .int .u16 ma, .int .u16 he, .int .u16 de], .int .i64 0]) (by simp [results, Try.results14, go_sem, e0, e1, e2, e3, e4, e5, e6, e7, e8, e9, e10]) rfl ⟨by obtain ⟨f0, f1, f2, f3, f4, f5, f6, f7, f8, f9, f10, f11⟩ := f_not l b p OW.out; rw [f0, f1, f2, f3, f4, f5, f6, f7, f8, f9, f10, f11, HE.out, Htc.out, Hch.out, Hak.out, Hro.out, Hco.out, Hbr.out, Hpo.out, Hag.out, Hma.out, Hhe.out, Hde.out], first_below k4⟩
      · cases ep : po == p
        · have OW : Hid (fOwn l b p = false) := Lib.hid (by rw [own_good l b p E0.out, ← Htc.out, ← Hbr.out, ← Hpo.out, eb, ep]; rfl)
          go_wp2_with fail
          have gz := (((((((((((g.put 0 (.bool false)).put 1 (.bool ch)).put 2 (.bool ak)).put 3 (.int .u64 ro)).put 4 (.int .u32 co)).put 5 (.int .u64 br)).put 6 (.int .u16 po)).put 7 (.int .u16 ag)).put 8 (.int .u16 ma)).put 9 (.int .u16 he)).put 10 (.int .u16 de))
          generalize World.setCell _ ⟨w.heap.size, 10, none⟩ _ = we at gz ⊢
          obtain ⟨k2, k4⟩ := gz
          obtain ⟨e0, e1, e2, e3, e4, e5, e6, e7, e8, e9, e10⟩ := BB.cells (show BB we w.heap.size false ch ak ro co br po ag ma he de from k2)
          exact bodyPost_ret (v := .tuple #[.agg #[.bool false, .bool ch, .bool ak, .int .u64 ro, .int .u32 co, .int .u64 br, .int .u16 po, .int .u16 ag, .int .u16 ma, .int .u16 he, .int .u16 de], .int .i64 0]) (by simp [results, Try.results14, go_sem, e0, e1, e2, e3, e4, e5, e6, e7, e8, e9, e10]) rfl ⟨by obtain ⟨f0, f1, f2, f3, f4, f5, f6, f7, f8, f9, f10, f11⟩ := f_not l b p OW.out; rw [f0, f1, f2, f3, f4, f5, f6, f7, f8, f9, f10, f11, HE.out, Htc.out, Hch.out, Hak.out, Hro.out, Hco.out, Hbr.out, Hpo.out, Hag.out, Hma.out, Hhe.out, Hde.out], first_below k4⟩
        · have OW : Hid (fOwn l b p = true) := Lib.hid (by rw [own_good l b p E0.out, ← Htc.out, ← Hbr.out, ← Hpo.out, eb, ep]; rfl)
          go_wp2_with fail
          have gz := (((((((((((g.put 0 (.bool false)).put 1 (.bool false)).put 2 (.bool false)).put 3 (.int .u64 0)).put 4 (.int .u32 0)).put 5 (.int .u64 0)).put 6 (.int .u16 0)).put 7 (.int .u16 0)).put 8 (.int .u16 0)).put 9 (.int .u16 0)).put 10 (.int .u16 0))
          generalize World.setCell _ ⟨w.heap.size, 10, none⟩ _ = we at gz ⊢
          obtain ⟨k2, k4⟩ := gz
          obtain ⟨e0, e1, e2, e3, e4, e5, e6, e7, e8, e9, e10⟩ := BB.cells (show BB we w.heap.size false false false 0 0 0 0 0 0 0 0 from k2)
          exact bodyPost_ret (v := .tuple #[.agg #[.bool false, .bool false, .bool false, .int .u64 0, .int .u32 0, .int .u64 0, .int .u16 0, .int .u16 0, .int .u16 0, .int .u16 0, .int .u16 0], .int .i64 6]) (by simp [results, Try.results14, go_sem, e0, e1, e2, e3, e4, e5, e6, e7, e8, e9, e10]) rfl ⟨by obtain ⟨f0, f1, f2, f3, f4, f5, f6, f7, f8, f9, f10, f11⟩ := f_own l b p OW.out; rw [f0, f1, f2, f3, f4, f5, f6, f7, f8, f9, f10, f11], first_below k4⟩
    · have OW : Hid (fOwn l b p = false) := Lib.hid (by rw [own_good l b p E0.out, ← Htc.out]; rfl)
      go_wp2_with fail
      have gz := (((((((((((g.put 0 (.bool true)).put 1 (.bool ch)).put 2 (.bool ak)).put 3 (.int .u64 ro)).put 4 (.int .u32 co)).put 5 (.int .u64 br)).put 6 (.int .u16 po)).put 7 (.int .u16 ag)).put 8 (.int .u16 ma)).put 9 (.int .u16 he)).put 10 (.int .u16 de))
      generalize World.setCell _ ⟨w.heap.size, 10, none⟩ _ = we at gz ⊢
      obtain ⟨k2, k4⟩ := gz
      obtain ⟨e0, e1, e2, e3, e4, e5, e6, e7, e8, e9, e10⟩ := BB.cells (show BB we w.heap.size true ch ak ro co br po ag ma he de from k2)
      exact bodyPost_ret (v := .tuple #[.agg #[.bool true, .bool ch, .bool ak, .int .u64 ro, .int .u32 co, .int .u64 br, .int .u16 po, .int .u16 ag, .int .u16 ma, .int .u16 he, .int .u16 de], .int .i64 0]) (by simp [results, Try.results14, go_sem, e0, e1, e2, e3, e4, e5, e6, e7, e8, e9, e10]) rfl ⟨by obtain ⟨f0, f1, f2, f3, f4, f5, f6, f7, f8, f9, f10, f11⟩ := f_not l b p OW.out; rw [f0, f1, f2, f3, f4, f5, f6, f7, f8, f9, f10, f11, HE.out, Htc.out, Hch.out, Hak.out, Hro.out, Hco.out, Hbr.out, Hpo.out, Hag.out, Hma.out, Hhe.out, Hde.out], first_below k4⟩
  · have ER : Hid (gE l ≠ 0) := Lib.hid (HE.out ▸ er)
    have OW : Hid (fOwn l b p = false) := Lib.hid (own_bad l b p ER.out)
    have d0 : (E == 0) = false := by simpa using er
    clear er
    go_wp2_with fail
    have gz := (((((((((((g.put 0 (.bool tc)).put 1 (.bool ch)).put 2 (.bool ak)).put 3 (.int .u64 ro)).put 4 (.int .u32 co)).put 5 (.int .u64 br)).put 6 (.int .u16 po)).put 7 (.int .u16 ag)).put 8 (.int .u16 ma)).put 9 (.int .u16 he)).put 10 (.int .u16 de))
    generalize World.setCell _ ⟨w.heap.size, 10, none⟩ _ = we at gz ⊢
    obtain ⟨k2, k4⟩ := gz
    obtain ⟨e0, e1, e2, e3, e4, e5, e6, e7, e8, e9, e10⟩ := BB.cells (show BB we w.heap.size tc ch ak ro co br po ag ma he de from k2)
    exact bodyPost_ret (v := .tuple #[.agg #[.bool tc, .bool ch, .bool ak, .int .u64 ro, .int .u32 co, .int .u64 br, .int .u16 po, .int .u16 ag, .int .u16 ma, .int .u16 he, .int .u16 de], .int .i64 E]) (by simp [results, Try.results14, go_sem, e0, e1, e2, e3, e4, e5, e6, e7, e8, e9, e10]) rfl ⟨by obtain ⟨f0, f1, f2, f3, f4, f5, f6, f7, f8, f9, f10, f11⟩ := f_not l b p OW.out; rw [f0, f1, f2, f3, f4, f5, f6, f7, f8, f9, f10, f11, HE.out, Htc.out, Hch.out, Hak.out, Hro.out, Hco.out, Hbr.out, Hpo.out, Hag.out, Hma.out, Hhe.out, Hde.out], first_below k4⟩

end Go.Proofs.Ytgkamfnhohcfbaa
