/- Several texts in one, one behind the other: TickRefMain. -/
import Derived.Test.YtnmnihlhcokjpaaGreatDoorPk13
import Derived.Test.YtnmnihlhcokjpaaGreatDoorPk12
import Derived.Test.YtnmnihlhcokjpaaGreatDoorPk23
import Derived.Test.YtnmnihlhcokjpaaGreatDoorPk25
import Derived.Test.YtnmnihlhcokjpaaGreatDoorPk28
import Derived.Test.YtnmnihlhcokjpaaGreatDoorPk09
import Derived.Test.YtnmnihlhcokjpaaGreatDoorPk24
import Derived.Test.YtnmnihlhcokjpaaGreatDoorPk04
import Derived.Test.YtnmnihlhcokjpaaGreatDoorPk15
import Derived.Test.YtnmnihlhcokjpaaGreatDoorPk14
import Derived.Test.YtnmnihlhcokjpaaGreatDoorPk05
import Derived.LoopTactic
import Derived.Deep.DeepCutAuto
import Derived.BigQuiet
import Derived.Deep.QuietTactic

/- The document's Tick: contract. -/
namespace Go.Proofs.YtnmnihlhcokjpaaGreatDoor
set_option maxRecDepth 100000
open Go.ChangeShapes Go.WideShapes Go.ChangeAt Go.RowKit
set_option linter.unusedVariables false
set_option linter.unusedSimpArgs false

theorem TS.toR {w wx : World} {l : List (Nat × TypeId × List Value)} {D : Option Addr} {L : List Po} (h : TS w l D L wx) : RowT wx D L := h.nobox.rowT
theorem TS.there2 {w wx : World} {l : List (Nat × TypeId × List Value)} {g : Nat} {L : List Po} (h : TS w l (some ⟨g, 0, none⟩) L wx) {k : Nat} {x : Po} (hx : L[k]? = some x) (c : Nat) (hc : c + 2 ≤ 15) : wx.there g (k * 15 + c) 2 := fun j hj => by
  have := h.there hx x (c + j) (by show c + j < 15; omega)
  rwa [← Nat.add_assoc] at this
theorem TS.there4h {w wx : World} {l : List (Nat × TypeId × List Value)} {g : Nat} {L : List Po} (h : TS w l (some ⟨g, 0, none⟩) L wx) {k : Nat} {x : Po} (hx : L[k]? = some x) : wx.there g (k * 15 + 3) 4 := h.there4 hx
theorem RowT.cellq {w : World} {g : Nat} {L : List Po} (h : RowT w (some ⟨g, 0, none⟩) L) {k : Nat} {x : Po} (hx : L[k]? = some x) (i : Nat) {v : Value} (hv : (lP x)[i]? = some v) : w.cell? ⟨g, k * 15 + i, none⟩ = some v := by
  have := h.ports.at hx rfl i v hv
  rw [addr_add, addr_add, Nat.zero_add] at this
  exact this
theorem RowT.some {w : World} {D : Option Addr} {L : List Po} (h : RowT w D L) {k : Nat} {x : Po} (hx : L[k]? = Option.some x) : ∃ g, D = Option.some ⟨g, 0, none⟩ := by
  rcases h with rfl | ⟨g, r, e, _⟩
  · simp at hx
  · exact ⟨g, e⟩
theorem bit_is (q : Bool) : ((if q = true then (1 : Int) else 0) == 1) = q := by cases q <;> rfl
theorem next_doc (p : Po) : nextP p = (if (rnextI p.st).2.1 = 1 then { p with st := (rnextI p.st).1, yo := true, yv := 0 } else { p with st := (rnextI p.st).1 }, decide ((rnextI p.st).2.2 = 1)) := by
  unfold nextP rnextI
  by_cases h : p.st = 2
  · simp only [if_pos h]
    rfl
  · simp only [if_neg h]
    by_cases k : p.st = 3
    · simp only [if_pos k]
      rfl
    · simp only [if_neg k]
      rfl
theorem fold_yes {f : Tk → Nat → Tk} {fl : Nat → Bool} {s : Tk} {k : Nat} (h : fl k = true) : foldS f fl (k + 1) s = f (foldS f fl k s) k := by
  show (if fl k = true then f (foldS f fl k s) k else foldS f fl k s) = _
  rw [if_pos h]
theorem fold_no {f : Tk → Nat → Tk} {fl : Nat → Bool} {s : Tk} {k : Nat} (h : fl k = false) : foldS f fl (k + 1) s = foldS f fl k s := by
  show (if fl k = true then f (foldS f fl k s) k else foldS f fl k s) = _
  rw [if_neg (by rw [h]; decide)]
theorem fold_few0 {f : Tk → Nat → Tk} (fl : Po → Bool) (L : List Po) {s : Tk} {n m : Nat} (h0 : FewB n m s) (hf : ∀ s i m, FewB n m s → FewB n (m + (n + 2)) (f s i)) : ∀ k, FewB n (m + k * (n + 2)) (foldS f (flagB fl L) k s)
  | 0 => by rw [Nat.zero_mul]; exact h0
  | k + 1 => by
    have ih := fold_few0 fl L h0 hf k
    have e : (k + 1) * (n + 2) = k * (n + 2) + (n + 2) := Nat.succ_mul _ _
    show FewB n _ (if flagB fl L k = true then f (foldS f (flagB fl L) k s) k else foldS f (flagB fl L) k s)
    split
    · have := hf _ k _ ih
      rw [e, ← Nat.add_assoc]
      exact this
    · exact ⟨by have := ih.1; omega, ih.2⟩
theorem flag_at {f : Po → Bool} {L : List Po} {k : Nat} {x : Po} (h : L[k]? = some x) : flagB f L k = f x := by unfold flagB; rw [h]
theorem all_map (f : Po → Po) (L : List Po) : allL (fun _ p => f p) L = L.map f := by
  apply List.ext_getElem?
  intro j
  rw [allL_get, List.getElem?_map]
theorem flL_atn {f : Po → Bool} {L : List Po} {j n : Nat} {x : Po} (h : L[j]? = some x) (hn : L.length = n) : (flL f L n)[j]? = some (f x) := by
  rw [← hn]
  exact flL_all h
theorem nb_of2 {t : Th} (h : TkF t) : (-9223372036854775808 ≤ t.n1 ∧ t.n1 ≤ 9223372036854775807 ∧ -9223372036854775808 ≤ t.n2 ∧ t.n2 ≤ 9223372036854775807 ∧ -9223372036854775808 ≤ t.n3 ∧ t.n3 ≤ 9223372036854775807) := h.nb
theorem mb_of {t : Th} (h : TkF t) : (-9223372036854775808 ≤ t.m1 ∧ t.m1 ≤ 9223372036854775807 ∧ -9223372036854775808 ≤ t.m2 ∧ t.m2 ≤ 9223372036854775807 ∧ -9223372036854775808 ≤ t.m3 ∧ t.m3 ≤ 9223372036854775807) := by unfold TkF at h; omega
set_option maxHeartbeats 40000000 in
theorem rtick16_is (t : Th) (A : Option Addr) (n cap : Nat) (L : List Po) (hT : Hid (TkF t)) (hM : Hid (ThTm t)) (hPT : Hid (∀ x ∈ L, PoTm x)) (hU : Hid (Unlike L)) (hL : Hid (L.length = n)) (hf : n ≤ 100) (ht : Hid (ThB t)) (hb : Hid (∀ x ∈ L, PoB x)) (hc : Hid (A = none → cap = 0)) (w : World) (hp : Hid (PoAt w A w.heap.size L)) :
    Calls Tryz.prog 8 #[.agg (lT t A n cap).toArray] w (AllEnd w (tickR t L).1.1 n ((tickR t L).1.2, (tickR t L).2)) := by
  have hf2 : n ≤ 200 := by omega
  have HNB := Lib.hid (nb_of2 hT.out)
  have HK0 := Lib.hid (show TkB (tick1 t L).1 n from TkB.tick1 ⟨ht.out, hT.out, hb.out, hL.out, hU.out⟩ hPT.out)
  have HKF := Lib.hid (show TkB (tkT t, L.map (tkP t)) n from TkB.first ⟨ht.out, hT.out, hb.out, hL.out, hU.out⟩ hPT.out)
  have HF0 := Lib.hid (few_first (t := t) hL.out)
  have HTR := Lib.hid (show tickR t L = foldS holdS (flagB holB L) n (foldS ageS (flagB (agB t) L) n (foldS delayS (flagB (delB t) L) n (tick1 t L))) by rw [← hL.out]; rfl)
  have HS0 := Lib.hid (show tick1 t L = toldS (toldB t) (tcnS (tcnB' t) (helloS (hellB t) (tkT t, L.map (tkP t)))) from rfl)
  obtain ⟨s0, hs0⟩ : ∃ s, tick1 t L = s := ⟨_, rfl⟩
  rw [hs0] at HK0 HF0 HTR HS0
  clear hs0
  have HF1 := Lib.hid (fun k => fold_few0 (delB t) L HF0.out (fun s i m h => few_delay h i) k)
  have HK1 := Lib.hid (fun k => (show TkB (foldS delayS (flagB (delB t) L) k s0).1 n from TkB.fold (fun s i h => h.delay i) HK0.out k))
  obtain ⟨s1, hs1⟩ : ∃ s, foldS delayS (flagB (delB t) L) n s0 = s := ⟨_, rfl⟩
  rw [hs1] at HTR
  have HS1 := Lib.hid hs1
  clear hs1
  have HF1n := HF1.out n
  have HK1n := HK1.out n
  rw [HS1.out] at HF1n HK1n
  have HF2 := Lib.hid (fun k => fold_few0 (agB t) L HF1n (fun s i m h => few_age h i) k)
  have HK2 := Lib.hid (fun k => (show TkB (foldS ageS (flagB (agB t) L) k s1).1 n from TkB.fold (fun s i h => h.age hf2 i) HK1n k))
  obtain ⟨s2, hs2⟩ : ∃ s, foldS ageS (flagB (agB t) L) n s1 = s := ⟨_, rfl⟩
  rw [hs2] at HTR
  have HS2 := Lib.hid hs2
  clear hs2
  have HF2n := HF2.out n
  have HK2n := HK2.out n
  rw [HS2.out] at HF2n HK2n
  have HF3 := Lib.hid (fun k => fold_few0 holB L HF2n (fun s i m h => few_hold h i) k)
  have HK3 := Lib.hid (fun k => (show TkB (foldS holdS (flagB holB L) k s2).1 n from TkB.fold (fun s i h => h.hold i) HK2n k))
  clear HF1n HK1n HF2n HK2n
  obtain ⟨s3, hs3⟩ : ∃ s, foldS holdS (flagB holB L) n s2 = s := ⟨_, rfl⟩
  rw [hs3] at HTR
  have HS3 := Lib.hid hs3
  clear hs3
  rw [HTR.out]
  clear HTR
  obtain ⟨tm1, tm2, tm3⟩ := hM.out
  have HTM1 := Lib.hid tm1
  have HTM2 := Lib.hid tm2
  have HTM3 := Lib.hid tm3
  clear tm1 tm2 tm3
  obtain ⟨qa, hqa⟩ : ∃ q, hellB t = q := ⟨_, rfl⟩
  obtain ⟨qb, hqb⟩ : ∃ q, tcnB' t = q := ⟨_, rfl⟩
  obtain ⟨qc, hqc⟩ : ∃ q, toldB t = q := ⟨_, rfl⟩
  rw [hqa, hqb, hqc] at HS0
  have HQA := Lib.hid hqa
  have HQB := Lib.hid hqb
  have HQC := Lib.hid hqc
  clear hqa hqb hqc
  obtain ⟨ea, hea⟩ : ∃ e : Int, (if qa = true then (1 : Int) else 0) = e := ⟨_, rfl⟩
  obtain ⟨eb, heb⟩ : ∃ e : Int, (if qb = true then (1 : Int) else 0) = e := ⟨_, rfl⟩
  obtain ⟨ec, hec⟩ : ∃ e : Int, (if qc = true then (1 : Int) else 0) = e := ⟨_, rfl⟩
  have HEA := Lib.hid hea
  have HEB := Lib.hid heb
  have HEC := Lib.hid hec
  clear hea heb hec
  have HMK := fun W => Lib.hid (make_ints n (by omega) W)
  obtain ⟨wb, hwb, S⟩ := hs_two w 31 31 (lT t A n cap) [.int .u64 0, .int .u64 0, .int .u32 0, .int .i64 0, .int .i64 0, .int .i64 0, .int .i64 0, .int .i64 0, .int .i64 0, .int .i64 0, .bool false, .bool false, .bool false, .int .i64 0, .bool false, .int .i64 0, .bool false, .int .i64 0, .slice none 0 0]
  go_enter Tryz.func8, Tryz.ntmps8
  go_upto_region 1 with fail
  clear hwb
  obtain ⟨X, hX⟩ : ∃ q, w.heap.size = q := ⟨_, rfl⟩
  rw [hX] at S
  obtain ⟨Y, hY⟩ : ∃ q, X + 1 = q := ⟨_, rfl⟩
  rw [hY] at S
  rw [hX]
  rw [hY]
  clear hX hY
  have SA := S.al rfl 63 []
  have c18 := SA.cell 2 18 rfl rfl
  have hp1 := Lib.hid ((hp.out.below S.old (Nat.le_refl _)).below ((Below.refl wb.heap.size wb).alloc (Nat.le_refl _) (.cells #[] 63)) S.old.size)
  go_upto_region 2 with (at_builtin; refine append_po _ rfl (.tmp 32) (.tmp 34) rfl (.slice (some ⟨wb.heap.size, 0, none⟩) 0 0) rfl wb.heap.size ⟨rfl, .inr ⟨wb.heap.size, 0, #[], rfl, Nat.le_refl _, (MapKept.heap_alloc wb _).1, Nat.le_refl _, Nat.zero_le _, rfl, rfl⟩⟩ A n cap L rfl _ hp1.out hL hc hf2 (by simp) wb ((Below.refl _ _).alloc (Nat.le_refl _) _) ?_; intro D' c' w1 hown hb5 hz; have SB := TS.take S (own_ts hb5 (Nat.le_refl _) hown); clear c18 hown; have c18 := SB.hs.cell 1 18 rfl rfl; have f18 := SB.hs.thaw 1 18 rfl)
  have HZ := Lib.hid hz
  have S1 : TS w [(Y, 31, [.int .u64 0, .int .u64 0, .int .u32 0, .int .i64 0, .int .i64 0, .int .i64 0, .int .i64 0, .int .i64 0, .int .i64 0, .int .i64 0, .bool false, .bool false, .bool false, .int .i64 0, .bool false, .int .i64 0, .bool false, .int .i64 0, .slice none 0 0]), (X, 31, lT t D' n c')] D' L (w1.setCell ⟨X, 18, none⟩ (.slice D' n c')) := SB.set 1 rfl 18 (.slice D' n c')
  generalize w1.setCell ⟨X, 18, none⟩ (.slice D' n c') = w2 at S1 ⊢
  clear S SA SB c18 f18 hp1 hb5 hz
  have HF := Lib.hid (rfire16_is t.ho t.hv t.n2 HTM1.out (by have := hT.out; unfold TkF at this; omega) (by have := hT.out; unfold TkF at this; omega) w2)
  have ka : w2.cell? ⟨X, 12, none⟩ = some (.bool t.ho) := S1.hs.cell 1 12 rfl rfl
  have kb : w2.cell? ⟨X, 13, none⟩ = some (.int .i64 t.hv) := S1.hs.cell 1 13 rfl rfl
  have kc := S1.hs.cell 1 5 rfl rfl
  go_wp2_with fail
  (with_reducible refine HF.out.mono ?_); rintro e w30 ⟨rfl, bz⟩
  rw [show (firO t.ho t.hv t.n2).2 = qa from HQA.out, HEA.out]
  have Sz := S1.below bz
  clear S1 HF bz ka kb kc
  have ka := Sz.hs.cell 1 12 rfl rfl
  have kb := Sz.hs.cell 1 13 rfl rfl
  have fa := Sz.hs.thaw 1 12 rfl
  have fb := Sz.hs.thaw 1 13 rfl
  go_upto_region 4 with fail
  have S2 : TS w [(Y, 31, [.int .u64 0, .int .u64 0, .int .u32 0, .int .i64 0, .int .i64 0, .int .i64 0, .int .i64 0, .int .i64 0, .int .i64 0, .int .i64 0, .bool false, .bool false, .bool false, .int .i64 0, .bool false, .int .i64 0, .bool false, .int .i64 0, .slice none 0 0]), (X, 31, lT (tkA t) D' n c')] D' L ((w30.setCell ⟨X, 12, none⟩ (.bool (firO t.ho t.hv t.n2).1.1)).setCell ⟨X, 13, none⟩ (.int .i64 (firO t.ho t.hv t.n2).1.2)) := (Sz.set 1 rfl 12 (.bool (firO t.ho t.hv t.n2).1.1)).set 1 rfl 13 (.int .i64 (firO t.ho t.hv t.n2).1.2)
  generalize (w30.setCell ⟨X, 12, none⟩ (.bool (firO t.ho t.hv t.n2).1.1)).setCell ⟨X, 13, none⟩ (.int .i64 (firO t.ho t.hv t.n2).1.2) = w3 at S2 ⊢
  clear Sz ka kb fa fb
  have HF := Lib.hid (rfire16_is t.xo t.xv t.m2 HTM2.out (by have := hT.out; unfold TkF at this; omega) (by have := hT.out; unfold TkF at this; omega) w3)
  have ka : w3.cell? ⟨X, 14, none⟩ = some (.bool t.xo) := S2.hs.cell 1 14 rfl rfl
  have kb : w3.cell? ⟨X, 15, none⟩ = some (.int .i64 t.xv) := S2.hs.cell 1 15 rfl rfl
  have kc : w3.cell? ⟨X, 8, none⟩ = some (.int .i64 t.m2) := S2.hs.cell 1 8 rfl rfl
  go_wp2_with fail
  (with_reducible refine HF.out.mono ?_); rintro e w40 ⟨rfl, bz⟩
  rw [show (firO t.xo t.xv t.m2).2 = qb from HQB.out, HEB.out]
  have Sz := S2.below bz
  clear S2 HF bz ka kb kc
  have ka := Sz.hs.cell 1 14 rfl rfl
  have kb := Sz.hs.cell 1 15 rfl rfl
  have fa := Sz.hs.thaw 1 14 rfl
  have fb := Sz.hs.thaw 1 15 rfl
  go_upto_region 5 with fail
  have S3 : TS w [(Y, 31, [.int .u64 0, .int .u64 0, .int .u32 0, .int .i64 0, .int .i64 0, .int .i64 0, .int .i64 0, .int .i64 0, .int .i64 0, .int .i64 0, .bool false, .bool false, .bool false, .int .i64 0, .bool false, .int .i64 0, .bool false, .int .i64 0, .slice none 0 0]), (X, 31, lT (tkC t) D' n c')] D' L ((w40.setCell ⟨X, 14, none⟩ (.bool (firO t.xo t.xv t.m2).1.1)).setCell ⟨X, 15, none⟩ (.int .i64 (firO t.xo t.xv t.m2).1.2)) := (Sz.set 1 rfl 14 (.bool (firO t.xo t.xv t.m2).1.1)).set 1 rfl 15 (.int .i64 (firO t.xo t.xv t.m2).1.2)
  generalize (w40.setCell ⟨X, 14, none⟩ (.bool (firO t.xo t.xv t.m2).1.1)).setCell ⟨X, 15, none⟩ (.int .i64 (firO t.xo t.xv t.m2).1.2) = w4 at S3 ⊢
  clear Sz ka kb fa fb
  have HF := Lib.hid (rfire16_is t.zo t.zv (t.m1 + t.m3) HTM3.out (by have := hT.out; unfold TkF at this; omega) (by have := hT.out; unfold TkF at this; omega) w4)
  have ka : w4.cell? ⟨X, 16, none⟩ = some (.bool t.zo) := S3.hs.cell 1 16 rfl rfl
  have kb : w4.cell? ⟨X, 17, none⟩ = some (.int .i64 t.zv) := S3.hs.cell 1 17 rfl rfl
  have kc : w4.cell? ⟨X, 7, none⟩ = some (.int .i64 t.m1) := S3.hs.cell 1 7 rfl rfl
  have kd : w4.cell? ⟨X, 9, none⟩ = some (.int .i64 t.m3) := S3.hs.cell 1 9 rfl rfl
  have hsum : 0 ≤ t.m1 + t.m3 ∧ t.m1 + t.m3 ≤ 131070 := by have := hT.out; unfold TkF at this; omega
  go_wp2_with fail
  (with_reducible refine HF.out.mono ?_); rintro e w50 ⟨rfl, bz⟩
  rw [show (firO t.zo t.zv (t.m1 + t.m3)).2 = qc from HQC.out, HEC.out]
  have Sz := S3.below bz
  clear S3 HF bz ka kb kc kd
  have ka := Sz.hs.cell 1 16 rfl rfl
  have kb := Sz.hs.cell 1 17 rfl rfl
  have fa := Sz.hs.thaw 1 16 rfl
  have fb := Sz.hs.thaw 1 17 rfl
  go_upto_region 6 with fail
  have S4 : TS w [(Y, 31, [.int .u64 0, .int .u64 0, .int .u32 0, .int .i64 0, .int .i64 0, .int .i64 0, .int .i64 0, .int .i64 0, .int .i64 0, .int .i64 0, .bool false, .bool false, .bool false, .int .i64 0, .bool false, .int .i64 0, .bool false, .int .i64 0, .slice none 0 0]), (X, 31, lT (tkT t) D' n c')] D' L ((w50.setCell ⟨X, 16, none⟩ (.bool (firO t.zo t.zv (t.m1 + t.m3)).1.1)).setCell ⟨X, 17, none⟩ (.int .i64 (firO t.zo t.zv (t.m1 + t.m3)).1.2)) := (Sz.set 1 rfl 16 (.bool (firO t.zo t.zv (t.m1 + t.m3)).1.1)).set 1 rfl 17 (.int .i64 (firO t.zo t.zv (t.m1 + t.m3)).1.2)
  generalize (w50.setCell ⟨X, 16, none⟩ (.bool (firO t.zo t.zv (t.m1 + t.m3)).1.1)).setCell ⟨X, 17, none⟩ (.int .i64 (firO t.zo t.zv (t.m1 + t.m3)).1.2) = w5 at S4 ⊢
  clear Sz ka kb fa fb
  clear hsum
  have c18 := S4.hs.cell 1 18 rfl rfl
  go_upto_region 7 with fail
  clear c18
  go_cut [8, 9, 10] (fun a b q wx => ∃ g1 g2 g3, a = .slice (some ⟨g1, 0, none⟩) n n ∧ b = .slice (some ⟨g2, 0, none⟩) n n ∧ q = .slice (some ⟨g3, 0, none⟩) n n ∧ TS w [(g3, 3, lI (flL holB L 0)), (g2, 3, lI (flL (agB t) L 0)), (g1, 3, lI (flL (delB t) L 0)), (Y, 31, [.int .u64 0, .int .u64 0, .int .u32 0, .int .i64 0, .int .i64 0, .int .i64 0, .int .i64 0, .int .i64 0, .int .i64 0, .int .i64 0, .bool false, .bool false, .bool false, .int .i64 0, .bool false, .int .i64 0, .bool false, .int .i64 0, .slice none 0 0]), (X, 31, lT (tkT t) D' n c')] D' L wx)
  case first =>
    as_aux_lemma =>
      refine wp_region_held_drew (S := (fun w' => Bk w' X 31 (lT (tkT t) D' n c'))) (by kernel_rfl) ((S4.hs.1 1 _ _ _ rfl).1) (fun hHeld => ?_)
      have Sd := S4.below ((Below.refl _ _).drew)
      obtain ⟨vd, hvd⟩ : ∃ y, w5.drew = y := ⟨_, rfl⟩
      rw [hvd] at Sd hHeld ⊢
      clear hvd S4
      refine wpAnyH_take (i := 0) (v := ?_) rfl (by kernel_rfl) (by kernel_rfl) (by kernel_rfl) (fun _ _ _ h => h) (Or.inl ⟨by kernel_rfl, ?_⟩) (by assumption) ?_
      rotate_left
      · intro w' hSw; (try dsimp only at hSw); go_simp; with_reducible rfl
      try simp only [Act.put, List.getElem_toArray, List.getElem_cons_succ, List.getElem_cons_zero, List.setIfInBounds_toArray, List.set_cons_succ, List.set_cons_zero]
      refine wpAnyH_take (i := 2) (v := ?_) rfl (by kernel_rfl) (by kernel_rfl) (by kernel_rfl) (fun _ _ _ h => h) (Or.inl ⟨by kernel_rfl, ?_⟩) (by assumption) ?_
      rotate_left
      · intro w' hSw; (try dsimp only at hSw); go_simp; with_reducible rfl
      try simp only [Act.put, List.getElem_toArray, List.getElem_cons_succ, List.getElem_cons_zero, List.setIfInBounds_toArray, List.set_cons_succ, List.set_cons_zero]
      refine wpAnyH_take (i := 4) (v := ?_) rfl (by kernel_rfl) (by kernel_rfl) (by kernel_rfl) (fun _ _ _ h => h) (Or.inl ⟨by kernel_rfl, ?_⟩) (by assumption) ?_
      rotate_left
      · intro w' hSw; (try dsimp only at hSw); go_simp; with_reducible rfl
      try simp only [Act.put, List.getElem_toArray, List.getElem_cons_succ, List.getElem_cons_zero, List.setIfInBounds_toArray, List.set_cons_succ, List.set_cons_zero]
      refine wpAnyH_ready (rs := [1, 3, 5]) (by kernel_rfl) (by simp) ?_
      refine AllReadyH.cons rfl (fun K hK => ?_) (AllReadyH.cons rfl (fun K hK => ?_) (AllReadyH.cons rfl (fun K hK => ?_) AllReadyH.nil))
      · have hmk := (HMK vd).out
        go_simp
        have S1m := Sd.al rfl 3 (List.replicate n (Value.int .i64 0))
        obtain ⟨h1, hh⟩ : ∃ y, vd.heap.size = y := ⟨_, rfl⟩
        rw [hh] at S1m hmk ⊢
        obtain ⟨v1, hv⟩ : ∃ y, vd.alloc (.cells (List.replicate n (Value.int .i64 0)).toArray 3) = y := ⟨_, rfl⟩
        first | rw [hv] at S1m ⊢ | (rw [show vd.alloc (.cells (Array.replicate n (Value.int .i64 0)) 3) = v1 from by rw [← hv, List.toArray_replicate]]; rw [hv] at S1m)
        clear hv hh hmk
        refine hK.out _ _ ((S1m.hs.1 2 _ _ _ rfl).1) (fun hHeld => ?_)
        clear hK K
        try simp only [Act.put, List.getElem_toArray, List.getElem_cons_succ, List.getElem_cons_zero, List.setIfInBounds_toArray, List.set_cons_succ, List.set_cons_zero]
        refine wpAnyH_take (i := 6) (v := ?_) rfl (by kernel_rfl) (by kernel_rfl) (by kernel_rfl) (fun _ _ _ h => h) (Or.inl ⟨by kernel_rfl, ?_⟩) (by assumption) ?_
        rotate_left
        · intro w' hSw; (try dsimp only at hSw); go_simp; with_reducible rfl
        try simp only [Act.put, List.getElem_toArray, List.getElem_cons_succ, List.getElem_cons_zero, List.setIfInBounds_toArray, List.set_cons_succ, List.set_cons_zero]
        refine wpAnyH_ready (rs := [3, 5]) (by kernel_rfl) (by simp) ?_
        refine AllReadyH.cons rfl (fun K hK => ?_) (AllReadyH.cons rfl (fun K hK => ?_) AllReadyH.nil)
        · have hmk := (HMK v1).out
          go_simp
          have S2m := S1m.al rfl 3 (List.replicate n (Value.int .i64 0))
          obtain ⟨h3, hh⟩ : ∃ y, v1.heap.size = y := ⟨_, rfl⟩
          rw [hh] at S2m hmk ⊢
          obtain ⟨v2, hv⟩ : ∃ y, v1.alloc (.cells (List.replicate n (Value.int .i64 0)).toArray 3) = y := ⟨_, rfl⟩
          first | rw [hv] at S2m ⊢ | (rw [show v1.alloc (.cells (Array.replicate n (Value.int .i64 0)) 3) = v2 from by rw [← hv, List.toArray_replicate]]; rw [hv] at S2m)
          clear hv hh hmk
          refine hK.out _ _ ((S2m.hs.1 3 _ _ _ rfl).1) (fun hHeld => ?_)
          clear hK K
          try simp only [Act.put, List.getElem_toArray, List.getElem_cons_succ, List.getElem_cons_zero, List.setIfInBounds_toArray, List.set_cons_succ, List.set_cons_zero]
          refine wpAnyH_take (i := 7) (v := ?_) rfl (by kernel_rfl) (by kernel_rfl) (by kernel_rfl) (fun _ _ _ h => h) (Or.inl ⟨by kernel_rfl, ?_⟩) (by assumption) ?_
          rotate_left
          · intro w' hSw; (try dsimp only at hSw); go_simp; with_reducible rfl
          try simp only [Act.put, List.getElem_toArray, List.getElem_cons_succ, List.getElem_cons_zero, List.setIfInBounds_toArray, List.set_cons_succ, List.set_cons_zero]
          refine wpAnyH_ready (rs := [5]) (by kernel_rfl) (by simp) ?_
          refine AllReadyH.cons rfl (fun K hK => ?_) AllReadyH.nil
          have hmk := (HMK v2).out
          go_simp
          have S3m := S2m.al rfl 3 (List.replicate n (Value.int .i64 0))
          obtain ⟨h5, hh⟩ : ∃ y, v2.heap.size = y := ⟨_, rfl⟩
          rw [hh] at S3m hmk ⊢
          obtain ⟨v3, hv⟩ : ∃ y, v2.alloc (.cells (List.replicate n (Value.int .i64 0)).toArray 3) = y := ⟨_, rfl⟩
          first | rw [hv] at S3m ⊢ | (rw [show v2.alloc (.cells (Array.replicate n (Value.int .i64 0)) 3) = v3 from by rw [← hv, List.toArray_replicate]]; rw [hv] at S3m)
          clear hv hh hmk
          refine hK.out _ _ ((S3m.hs.1 4 _ _ _ rfl).1) (fun hHeld => ?_)
          clear hK K
          try simp only [Act.put, List.getElem_toArray, List.getElem_cons_succ, List.getElem_cons_zero, List.setIfInBounds_toArray, List.set_cons_succ, List.set_cons_zero]
          refine wpAnyH_take (i := 8) (v := ?_) rfl (by kernel_rfl) (by kernel_rfl) (by kernel_rfl) (fun _ _ _ h => h) (Or.inl ⟨by kernel_rfl, ?_⟩) (by assumption) ?_
          rotate_left
          · intro w' hSw; (try dsimp only at hSw); go_simp; with_reducible rfl
          try simp only [Act.put, List.getElem_toArray, List.getElem_cons_succ, List.getElem_cons_zero, List.setIfInBounds_toArray, List.set_cons_succ, List.set_cons_zero]
          refine wpAnyH_done (by kernel_rfl) ?_ _
          have SP := S3m.perm (List.Perm.refl _)
          go_wp2_with fail
          go_meet
          refine ⟨h1, h3, h5, rfl, rfl, rfl, ?_⟩
          rw [flL_zero, flL_zero, flL_zero, ← lI_none, show L.length = n from hL.out]
          exact SP
        · have hmk := (HMK v1).out
          go_simp
          have S2m := S1m.al rfl 3 (List.replicate n (Value.int .i64 0))
          obtain ⟨h5, hh⟩ : ∃ y, v1.heap.size = y := ⟨_, rfl⟩
          rw [hh] at S2m hmk ⊢
          obtain ⟨v2, hv⟩ : ∃ y, v1.alloc (.cells (List.replicate n (Value.int .i64 0)).toArray 3) = y := ⟨_, rfl⟩
          first | rw [hv] at S2m ⊢ | (rw [show v1.alloc (.cells (Array.replicate n (Value.int .i64 0)) 3) = v2 from by rw [← hv, List.toArray_replicate]]; rw [hv] at S2m)
          clear hv hh hmk
          refine hK.out _ _ ((S2m.hs.1 3 _ _ _ rfl).1) (fun hHeld => ?_)
          clear hK K
          try simp only [Act.put, List.getElem_toArray, List.getElem_cons_succ, List.getElem_cons_zero, List.setIfInBounds_toArray, List.set_cons_succ, List.set_cons_zero]
          refine wpAnyH_ready (rs := [3]) (by kernel_rfl) (by simp) ?_
          refine AllReadyH.cons rfl (fun K hK => ?_) AllReadyH.nil
          have hmk := (HMK v2).out
          go_simp
          have S3m := S2m.al rfl 3 (List.replicate n (Value.int .i64 0))
          obtain ⟨h3, hh⟩ : ∃ y, v2.heap.size = y := ⟨_, rfl⟩
          rw [hh] at S3m hmk ⊢
          obtain ⟨v3, hv⟩ : ∃ y, v2.alloc (.cells (List.replicate n (Value.int .i64 0)).toArray 3) = y := ⟨_, rfl⟩
          first | rw [hv] at S3m ⊢ | (rw [show v2.alloc (.cells (Array.replicate n (Value.int .i64 0)) 3) = v3 from by rw [← hv, List.toArray_replicate]]; rw [hv] at S3m)
          clear hv hh hmk
          refine hK.out _ _ ((S3m.hs.1 4 _ _ _ rfl).1) (fun hHeld => ?_)
          clear hK K
          try simp only [Act.put, List.getElem_toArray, List.getElem_cons_succ, List.getElem_cons_zero, List.setIfInBounds_toArray, List.set_cons_succ, List.set_cons_zero]
          refine wpAnyH_take (i := 7) (v := ?_) rfl (by kernel_rfl) (by kernel_rfl) (by kernel_rfl) (fun _ _ _ h => h) (Or.inl ⟨by kernel_rfl, ?_⟩) (by assumption) ?_
          rotate_left
          · intro w' hSw; (try dsimp only at hSw); go_simp; with_reducible rfl
          try simp only [Act.put, List.getElem_toArray, List.getElem_cons_succ, List.getElem_cons_zero, List.setIfInBounds_toArray, List.set_cons_succ, List.set_cons_zero]
          refine wpAnyH_take (i := 8) (v := ?_) rfl (by kernel_rfl) (by kernel_rfl) (by kernel_rfl) (fun _ _ _ h => h) (Or.inl ⟨by kernel_rfl, ?_⟩) (by assumption) ?_
          rotate_left
          · intro w' hSw; (try dsimp only at hSw); go_simp; with_reducible rfl
          try simp only [Act.put, List.getElem_toArray, List.getElem_cons_succ, List.getElem_cons_zero, List.setIfInBounds_toArray, List.set_cons_succ, List.set_cons_zero]
          refine wpAnyH_done (by kernel_rfl) ?_ _
          have SP := S3m.perm (List.Perm.trans (List.Perm.swap _ _ _) (List.Perm.refl _))
          go_wp2_with fail
          go_meet
          refine ⟨h1, h3, h5, rfl, rfl, rfl, ?_⟩
          rw [flL_zero, flL_zero, flL_zero, ← lI_none, show L.length = n from hL.out]
          exact SP
      · have hmk := (HMK vd).out
        go_simp
        have S1m := Sd.al rfl 3 (List.replicate n (Value.int .i64 0))
        obtain ⟨h3, hh⟩ : ∃ y, vd.heap.size = y := ⟨_, rfl⟩
        rw [hh] at S1m hmk ⊢
        obtain ⟨v1, hv⟩ : ∃ y, vd.alloc (.cells (List.replicate n (Value.int .i64 0)).toArray 3) = y := ⟨_, rfl⟩
        first | rw [hv] at S1m ⊢ | (rw [show vd.alloc (.cells (Array.replicate n (Value.int .i64 0)) 3) = v1 from by rw [← hv, List.toArray_replicate]]; rw [hv] at S1m)
        clear hv hh hmk
        refine hK.out _ _ ((S1m.hs.1 2 _ _ _ rfl).1) (fun hHeld => ?_)
        clear hK K
        try simp only [Act.put, List.getElem_toArray, List.getElem_cons_succ, List.getElem_cons_zero, List.setIfInBounds_toArray, List.set_cons_succ, List.set_cons_zero]
        refine wpAnyH_ready (rs := [1, 5]) (by kernel_rfl) (by simp) ?_
        refine AllReadyH.cons rfl (fun K hK => ?_) (AllReadyH.cons rfl (fun K hK => ?_) AllReadyH.nil)
        · have hmk := (HMK v1).out
          go_simp
          have S2m := S1m.al rfl 3 (List.replicate n (Value.int .i64 0))
          obtain ⟨h1, hh⟩ : ∃ y, v1.heap.size = y := ⟨_, rfl⟩
          rw [hh] at S2m hmk ⊢
          obtain ⟨v2, hv⟩ : ∃ y, v1.alloc (.cells (List.replicate n (Value.int .i64 0)).toArray 3) = y := ⟨_, rfl⟩
          first | rw [hv] at S2m ⊢ | (rw [show v1.alloc (.cells (Array.replicate n (Value.int .i64 0)) 3) = v2 from by rw [← hv, List.toArray_replicate]]; rw [hv] at S2m)
          clear hv hh hmk
          refine hK.out _ _ ((S2m.hs.1 3 _ _ _ rfl).1) (fun hHeld => ?_)
          clear hK K
          try simp only [Act.put, List.getElem_toArray, List.getElem_cons_succ, List.getElem_cons_zero, List.setIfInBounds_toArray, List.set_cons_succ, List.set_cons_zero]
          refine wpAnyH_take (i := 6) (v := ?_) rfl (by kernel_rfl) (by kernel_rfl) (by kernel_rfl) (fun _ _ _ h => h) (Or.inl ⟨by kernel_rfl, ?_⟩) (by assumption) ?_
          rotate_left
          · intro w' hSw; (try dsimp only at hSw); go_simp; with_reducible rfl
          try simp only [Act.put, List.getElem_toArray, List.getElem_cons_succ, List.getElem_cons_zero, List.setIfInBounds_toArray, List.set_cons_succ, List.set_cons_zero]
          refine wpAnyH_take (i := 7) (v := ?_) rfl (by kernel_rfl) (by kernel_rfl) (by kernel_rfl) (fun _ _ _ h => h) (Or.inl ⟨by kernel_rfl, ?_⟩) (by assumption) ?_
          rotate_left
          · intro w' hSw; (try dsimp only at hSw); go_simp; with_reducible rfl
          try simp only [Act.put, List.getElem_toArray, List.getElem_cons_succ, List.getElem_cons_zero, List.setIfInBounds_toArray, List.set_cons_succ, List.set_cons_zero]
          refine wpAnyH_ready (rs := [5]) (by kernel_rfl) (by simp) ?_
          refine AllReadyH.cons rfl (fun K hK => ?_) AllReadyH.nil
          have hmk := (HMK v2).out
          go_simp
          have S3m := S2m.al rfl 3 (List.replicate n (Value.int .i64 0))
          obtain ⟨h5, hh⟩ : ∃ y, v2.heap.size = y := ⟨_, rfl⟩
          rw [hh] at S3m hmk ⊢
          obtain ⟨v3, hv⟩ : ∃ y, v2.alloc (.cells (List.replicate n (Value.int .i64 0)).toArray 3) = y := ⟨_, rfl⟩
          first | rw [hv] at S3m ⊢ | (rw [show v2.alloc (.cells (Array.replicate n (Value.int .i64 0)) 3) = v3 from by rw [← hv, List.toArray_replicate]]; rw [hv] at S3m)
          clear hv hh hmk
          refine hK.out _ _ ((S3m.hs.1 4 _ _ _ rfl).1) (fun hHeld => ?_)
          clear hK K
          try simp only [Act.put, List.getElem_toArray, List.getElem_cons_succ, List.getElem_cons_zero, List.setIfInBounds_toArray, List.set_cons_succ, List.set_cons_zero]
          refine wpAnyH_take (i := 8) (v := ?_) rfl (by kernel_rfl) (by kernel_rfl) (by kernel_rfl) (fun _ _ _ h => h) (Or.inl ⟨by kernel_rfl, ?_⟩) (by assumption) ?_
          rotate_left
          · intro w' hSw; (try dsimp only at hSw); go_simp; with_reducible rfl
          try simp only [Act.put, List.getElem_toArray, List.getElem_cons_succ, List.getElem_cons_zero, List.setIfInBounds_toArray, List.set_cons_succ, List.set_cons_zero]
          refine wpAnyH_done (by kernel_rfl) ?_ _
          have SP := S3m.perm (List.Perm.trans (List.Perm.cons _ (List.Perm.swap _ _ _)) (List.Perm.refl _))
          go_wp2_with fail
          go_meet
          refine ⟨h1, h3, h5, rfl, rfl, rfl, ?_⟩
          rw [flL_zero, flL_zero, flL_zero, ← lI_none, show L.length = n from hL.out]
          exact SP
        · have hmk := (HMK v1).out
          go_simp
          have S2m := S1m.al rfl 3 (List.replicate n (Value.int .i64 0))
          obtain ⟨h5, hh⟩ : ∃ y, v1.heap.size = y := ⟨_, rfl⟩
          rw [hh] at S2m hmk ⊢
          obtain ⟨v2, hv⟩ : ∃ y, v1.alloc (.cells (List.replicate n (Value.int .i64 0)).toArray 3) = y := ⟨_, rfl⟩
          first | rw [hv] at S2m ⊢ | (rw [show v1.alloc (.cells (Array.replicate n (Value.int .i64 0)) 3) = v2 from by rw [← hv, List.toArray_replicate]]; rw [hv] at S2m)
          clear hv hh hmk
          refine hK.out _ _ ((S2m.hs.1 3 _ _ _ rfl).1) (fun hHeld => ?_)
          clear hK K
          try simp only [Act.put, List.getElem_toArray, List.getElem_cons_succ, List.getElem_cons_zero, List.setIfInBounds_toArray, List.set_cons_succ, List.set_cons_zero]
          refine wpAnyH_ready (rs := [1]) (by kernel_rfl) (by simp) ?_
          refine AllReadyH.cons rfl (fun K hK => ?_) AllReadyH.nil
          have hmk := (HMK v2).out
          go_simp
          have S3m := S2m.al rfl 3 (List.replicate n (Value.int .i64 0))
          obtain ⟨h1, hh⟩ : ∃ y, v2.heap.size = y := ⟨_, rfl⟩
          rw [hh] at S3m hmk ⊢
          obtain ⟨v3, hv⟩ : ∃ y, v2.alloc (.cells (List.replicate n (Value.int .i64 0)).toArray 3) = y := ⟨_, rfl⟩
          first | rw [hv] at S3m ⊢ | (rw [show v2.alloc (.cells (Array.replicate n (Value.int .i64 0)) 3) = v3 from by rw [← hv, List.toArray_replicate]]; rw [hv] at S3m)
          clear hv hh hmk
          refine hK.out _ _ ((S3m.hs.1 4 _ _ _ rfl).1) (fun hHeld => ?_)
          clear hK K
          try simp only [Act.put, List.getElem_toArray, List.getElem_cons_succ, List.getElem_cons_zero, List.setIfInBounds_toArray, List.set_cons_succ, List.set_cons_zero]
          refine wpAnyH_take (i := 6) (v := ?_) rfl (by kernel_rfl) (by kernel_rfl) (by kernel_rfl) (fun _ _ _ h => h) (Or.inl ⟨by kernel_rfl, ?_⟩) (by assumption) ?_
          rotate_left
          · intro w' hSw; (try dsimp only at hSw); go_simp; with_reducible rfl
          try simp only [Act.put, List.getElem_toArray, List.getElem_cons_succ, List.getElem_cons_zero, List.setIfInBounds_toArray, List.set_cons_succ, List.set_cons_zero]
          refine wpAnyH_take (i := 7) (v := ?_) rfl (by kernel_rfl) (by kernel_rfl) (by kernel_rfl) (fun _ _ _ h => h) (Or.inl ⟨by kernel_rfl, ?_⟩) (by assumption) ?_
          rotate_left
          · intro w' hSw; (try dsimp only at hSw); go_simp; with_reducible rfl
          try simp only [Act.put, List.getElem_toArray, List.getElem_cons_succ, List.getElem_cons_zero, List.setIfInBounds_toArray, List.set_cons_succ, List.set_cons_zero]
          refine wpAnyH_take (i := 8) (v := ?_) rfl (by kernel_rfl) (by kernel_rfl) (by kernel_rfl) (fun _ _ _ h => h) (Or.inl ⟨by kernel_rfl, ?_⟩) (by assumption) ?_
          rotate_left
          · intro w' hSw; (try dsimp only at hSw); go_simp; with_reducible rfl
          try simp only [Act.put, List.getElem_toArray, List.getElem_cons_succ, List.getElem_cons_zero, List.setIfInBounds_toArray, List.set_cons_succ, List.set_cons_zero]
          refine wpAnyH_done (by kernel_rfl) ?_ _
          have SP := S3m.perm (List.Perm.trans (List.Perm.swap _ _ _) (List.Perm.trans (List.Perm.cons _ (List.Perm.swap _ _ _)) (List.Perm.refl _)))
          go_wp2_with fail
          go_meet
          refine ⟨h1, h3, h5, rfl, rfl, rfl, ?_⟩
          rw [flL_zero, flL_zero, flL_zero, ← lI_none, show L.length = n from hL.out]
          exact SP
      · have hmk := (HMK vd).out
        go_simp
        have S1m := Sd.al rfl 3 (List.replicate n (Value.int .i64 0))
        obtain ⟨h5, hh⟩ : ∃ y, vd.heap.size = y := ⟨_, rfl⟩
        rw [hh] at S1m hmk ⊢
        obtain ⟨v1, hv⟩ : ∃ y, vd.alloc (.cells (List.replicate n (Value.int .i64 0)).toArray 3) = y := ⟨_, rfl⟩
        first | rw [hv] at S1m ⊢ | (rw [show vd.alloc (.cells (Array.replicate n (Value.int .i64 0)) 3) = v1 from by rw [← hv, List.toArray_replicate]]; rw [hv] at S1m)
        clear hv hh hmk
        refine hK.out _ _ ((S1m.hs.1 2 _ _ _ rfl).1) (fun hHeld => ?_)
        clear hK K
        try simp only [Act.put, List.getElem_toArray, List.getElem_cons_succ, List.getElem_cons_zero, List.setIfInBounds_toArray, List.set_cons_succ, List.set_cons_zero]
        refine wpAnyH_ready (rs := [1, 3]) (by kernel_rfl) (by simp) ?_
        refine AllReadyH.cons rfl (fun K hK => ?_) (AllReadyH.cons rfl (fun K hK => ?_) AllReadyH.nil)
        · have hmk := (HMK v1).out
          go_simp
          have S2m := S1m.al rfl 3 (List.replicate n (Value.int .i64 0))
          obtain ⟨h1, hh⟩ : ∃ y, v1.heap.size = y := ⟨_, rfl⟩
          rw [hh] at S2m hmk ⊢
          obtain ⟨v2, hv⟩ : ∃ y, v1.alloc (.cells (List.replicate n (Value.int .i64 0)).toArray 3) = y := ⟨_, rfl⟩
          first | rw [hv] at S2m ⊢ | (rw [show v1.alloc (.cells (Array.replicate n (Value.int .i64 0)) 3) = v2 from by rw [← hv, List.toArray_replicate]]; rw [hv] at S2m)
          clear hv hh hmk
          refine hK.out _ _ ((S2m.hs.1 3 _ _ _ rfl).1) (fun hHeld => ?_)
          clear hK K
          try simp only [Act.put, List.getElem_toArray, List.getElem_cons_succ, List.getElem_cons_zero, List.setIfInBounds_toArray, List.set_cons_succ, List.set_cons_zero]
          refine wpAnyH_take (i := 6) (v := ?_) rfl (by kernel_rfl) (by kernel_rfl) (by kernel_rfl) (fun _ _ _ h => h) (Or.inl ⟨by kernel_rfl, ?_⟩) (by assumption) ?_
          rotate_left
          · intro w' hSw; (try dsimp only at hSw); go_simp; with_reducible rfl
          try simp only [Act.put, List.getElem_toArray, List.getElem_cons_succ, List.getElem_cons_zero, List.setIfInBounds_toArray, List.set_cons_succ, List.set_cons_zero]
          refine wpAnyH_ready (rs := [3]) (by kernel_rfl) (by simp) ?_
          refine AllReadyH.cons rfl (fun K hK => ?_) AllReadyH.nil
          have hmk := (HMK v2).out
          go_simp
          have S3m := S2m.al rfl 3 (List.replicate n (Value.int .i64 0))
          obtain ⟨h3, hh⟩ : ∃ y, v2.heap.size = y := ⟨_, rfl⟩
          rw [hh] at S3m hmk ⊢
          obtain ⟨v3, hv⟩ : ∃ y, v2.alloc (.cells (List.replicate n (Value.int .i64 0)).toArray 3) = y := ⟨_, rfl⟩
          first | rw [hv] at S3m ⊢ | (rw [show v2.alloc (.cells (Array.replicate n (Value.int .i64 0)) 3) = v3 from by rw [← hv, List.toArray_replicate]]; rw [hv] at S3m)
          clear hv hh hmk
          refine hK.out _ _ ((S3m.hs.1 4 _ _ _ rfl).1) (fun hHeld => ?_)
          clear hK K
          try simp only [Act.put, List.getElem_toArray, List.getElem_cons_succ, List.getElem_cons_zero, List.setIfInBounds_toArray, List.set_cons_succ, List.set_cons_zero]
          refine wpAnyH_take (i := 7) (v := ?_) rfl (by kernel_rfl) (by kernel_rfl) (by kernel_rfl) (fun _ _ _ h => h) (Or.inl ⟨by kernel_rfl, ?_⟩) (by assumption) ?_
          rotate_left
          · intro w' hSw; (try dsimp only at hSw); go_simp; with_reducible rfl
          try simp only [Act.put, List.getElem_toArray, List.getElem_cons_succ, List.getElem_cons_zero, List.setIfInBounds_toArray, List.set_cons_succ, List.set_cons_zero]
          refine wpAnyH_take (i := 8) (v := ?_) rfl (by kernel_rfl) (by kernel_rfl) (by kernel_rfl) (fun _ _ _ h => h) (Or.inl ⟨by kernel_rfl, ?_⟩) (by assumption) ?_
          rotate_left
          · intro w' hSw; (try dsimp only at hSw); go_simp; with_reducible rfl
          try simp only [Act.put, List.getElem_toArray, List.getElem_cons_succ, List.getElem_cons_zero, List.setIfInBounds_toArray, List.set_cons_succ, List.set_cons_zero]
          refine wpAnyH_done (by kernel_rfl) ?_ _
          have SP := S3m.perm (List.Perm.trans (List.Perm.cons _ (List.Perm.swap _ _ _)) (List.Perm.trans (List.Perm.swap _ _ _) (List.Perm.refl _)))
          go_wp2_with fail
          go_meet
          refine ⟨h1, h3, h5, rfl, rfl, rfl, ?_⟩
          rw [flL_zero, flL_zero, flL_zero, ← lI_none, show L.length = n from hL.out]
          exact SP
        · have hmk := (HMK v1).out
          go_simp
          have S2m := S1m.al rfl 3 (List.replicate n (Value.int .i64 0))
          obtain ⟨h3, hh⟩ : ∃ y, v1.heap.size = y := ⟨_, rfl⟩
          rw [hh] at S2m hmk ⊢
          obtain ⟨v2, hv⟩ : ∃ y, v1.alloc (.cells (List.replicate n (Value.int .i64 0)).toArray 3) = y := ⟨_, rfl⟩
          first | rw [hv] at S2m ⊢ | (rw [show v1.alloc (.cells (Array.replicate n (Value.int .i64 0)) 3) = v2 from by rw [← hv, List.toArray_replicate]]; rw [hv] at S2m)
          clear hv hh hmk
          refine hK.out _ _ ((S2m.hs.1 3 _ _ _ rfl).1) (fun hHeld => ?_)
          clear hK K
          try simp only [Act.put, List.getElem_toArray, List.getElem_cons_succ, List.getElem_cons_zero, List.setIfInBounds_toArray, List.set_cons_succ, List.set_cons_zero]
          refine wpAnyH_ready (rs := [1]) (by kernel_rfl) (by simp) ?_
          refine AllReadyH.cons rfl (fun K hK => ?_) AllReadyH.nil
          have hmk := (HMK v2).out
          go_simp
          have S3m := S2m.al rfl 3 (List.replicate n (Value.int .i64 0))
          obtain ⟨h1, hh⟩ : ∃ y, v2.heap.size = y := ⟨_, rfl⟩
          rw [hh] at S3m hmk ⊢
          obtain ⟨v3, hv⟩ : ∃ y, v2.alloc (.cells (List.replicate n (Value.int .i64 0)).toArray 3) = y := ⟨_, rfl⟩
          first | rw [hv] at S3m ⊢ | (rw [show v2.alloc (.cells (Array.replicate n (Value.int .i64 0)) 3) = v3 from by rw [← hv, List.toArray_replicate]]; rw [hv] at S3m)
          clear hv hh hmk
          refine hK.out _ _ ((S3m.hs.1 4 _ _ _ rfl).1) (fun hHeld => ?_)
          clear hK K
          try simp only [Act.put, List.getElem_toArray, List.getElem_cons_succ, List.getElem_cons_zero, List.setIfInBounds_toArray, List.set_cons_succ, List.set_cons_zero]
          refine wpAnyH_take (i := 6) (v := ?_) rfl (by kernel_rfl) (by kernel_rfl) (by kernel_rfl) (fun _ _ _ h => h) (Or.inl ⟨by kernel_rfl, ?_⟩) (by assumption) ?_
          rotate_left
          · intro w' hSw; (try dsimp only at hSw); go_simp; with_reducible rfl
          try simp only [Act.put, List.getElem_toArray, List.getElem_cons_succ, List.getElem_cons_zero, List.setIfInBounds_toArray, List.set_cons_succ, List.set_cons_zero]
          refine wpAnyH_take (i := 7) (v := ?_) rfl (by kernel_rfl) (by kernel_rfl) (by kernel_rfl) (fun _ _ _ h => h) (Or.inl ⟨by kernel_rfl, ?_⟩) (by assumption) ?_
          rotate_left
          · intro w' hSw; (try dsimp only at hSw); go_simp; with_reducible rfl
          try simp only [Act.put, List.getElem_toArray, List.getElem_cons_succ, List.getElem_cons_zero, List.setIfInBounds_toArray, List.set_cons_succ, List.set_cons_zero]
          refine wpAnyH_take (i := 8) (v := ?_) rfl (by kernel_rfl) (by kernel_rfl) (by kernel_rfl) (fun _ _ _ h => h) (Or.inl ⟨by kernel_rfl, ?_⟩) (by assumption) ?_
          rotate_left
          · intro w' hSw; (try dsimp only at hSw); go_simp; with_reducible rfl
          try simp only [Act.put, List.getElem_toArray, List.getElem_cons_succ, List.getElem_cons_zero, List.setIfInBounds_toArray, List.set_cons_succ, List.set_cons_zero]
          refine wpAnyH_done (by kernel_rfl) ?_ _
          have SP := S3m.perm (List.Perm.trans (List.Perm.swap _ _ _) (List.Perm.trans (List.Perm.cons _ (List.Perm.swap _ _ _)) (List.Perm.trans (List.Perm.swap _ _ _) (List.Perm.refl _))))
          go_wp2_with fail
          go_meet
          refine ⟨h1, h3, h5, rfl, rfl, rfl, ?_⟩
          rw [flL_zero, flL_zero, flL_zero, ← lI_none, show L.length = n from hL.out]
          exact SP
  case rest =>
    as_aux_lemma =>
      obtain ⟨g1, g2, g3, rfl, rfl, rfl, S5⟩ := hcut
      rename World => w6
      clear S4 HMK
      go_upto_region 8 with fail
      go_wp2
      go_loopw [11] (fun i wr => ∃ k : Nat, k ≤ n ∧ i = .int .i64 k ∧ TS w [(g3, 3, lI (flL holB L k)), (g2, 3, lI (flL (agB t) L k)), (g1, 3, lI (flL (delB t) L k)), (Y, 31, [.int .u64 0, .int .u64 0, .int .u32 0, .int .i64 0, .int .i64 0, .int .i64 0, .int .i64 0, .int .i64 0, .int .i64 0, .int .i64 0, .bool false, .bool false, .bool false, .int .i64 0, .bool false, .int .i64 0, .bool false, .int .i64 0, .slice none 0 0]), (X, 31, lT (tkT t) D' n c')] D' (mixL (fun _ p => tkP t p) k L) wr) (fun i _ => n - (intOf i).toNat)
      case atStart => exact ⟨0, Nat.zero_le _, rfl, by rw [mixL_zero]; exact S5⟩
      case round =>
        as_aux_lemma =>
          clear S5
          obtain ⟨k, hk, rfl, S⟩ := hrel
          by_cases hkn : k < n
          · as_aux_lemma =>
              obtain ⟨x, hx⟩ := po_at hL.out hkn
              have hki : (k : Int) < (n : Int) := by omega
              have hkz : ¬ (n : Int) ≤ (k : Int) := by omega
              have HX := Lib.hid hx
              have hm : (mixL (fun _ p => tkP t p) k L)[k]? = some x := mixL_at hx
              have hml : k < (mixL (fun _ p => tkP t p) k L).length := po_lt hm
              obtain ⟨g, e, -⟩ := S.at hm
              subst e
              have HM := Lib.hid hm
              have HML := Lib.hid hml
              clear hx hm hml
              have htx := hPT.out x (List.mem_of_getElem? HX.out)
              have HTX := Lib.hid htx
              clear htx
              have HF := fun W => Lib.hid (rfire16_is x.yo x.yv t.n3 HTX.out.1 (by have := hT.out; unfold TkF at this; omega) (by have := hT.out; unfold TkF at this; omega) W)
              go_upto_region 11 with fail
              refine wp_region_held_drew (S := (fun w' => Bk w' X 31 (lT (tkT t) (some ⟨g, 0, none⟩) n c'))) (by kernel_rfl) ((S.hs.1 4 _ _ _ rfl).1) (fun hHeld => ?_)
              have Sd := S.below ((Below.refl _ _).drew)
              obtain ⟨vd, hvd⟩ : ∃ y, wr.drew = y := ⟨_, rfl⟩
              rw [hvd] at Sd hHeld ⊢
              clear hvd S
              refine wpAnyH_take (i := 0) (v := ?_) rfl (by kernel_rfl) (by kernel_rfl) (by kernel_rfl) (fun _ _ _ h => h) (Or.inl ⟨by kernel_rfl, ?_⟩) (by assumption) ?_
              rotate_left
              · intro w' hSw; (try dsimp only at hSw); go_simp; with_reducible rfl
              try simp only [Act.put, List.getElem_toArray, List.getElem_cons_succ, List.getElem_cons_zero, List.setIfInBounds_toArray, List.set_cons_succ, List.set_cons_zero]
              refine wpAnyH_take (i := 1) (v := ?_) rfl (by kernel_rfl) (by kernel_rfl) (by kernel_rfl) (fun _ _ _ h => h) (Or.inl ⟨by kernel_rfl, ?_⟩) (by assumption) ?_
              rotate_left
              · intro w' hSw; (try dsimp only at hSw); have c0 : w'.cell? ⟨X, 18, none⟩ = some (.slice (some ⟨g, 0, none⟩) n c') := Bk.cell hSw 18; go_simp; with_reducible rfl
              try simp only [Act.put, List.getElem_toArray, List.getElem_cons_succ, List.getElem_cons_zero, List.setIfInBounds_toArray, List.set_cons_succ, List.set_cons_zero]
              refine wpAnyH_take (i := 2) (v := ?_) rfl (by kernel_rfl) (by kernel_rfl) (by kernel_rfl) (fun _ _ _ h => h) (Or.inl ⟨by kernel_rfl, ?_⟩) (by assumption) ?_
              rotate_left
              · intro w' hSw; (try dsimp only at hSw); go_simp; with_reducible rfl
              try simp only [Act.put, List.getElem_toArray, List.getElem_cons_succ, List.getElem_cons_zero, List.setIfInBounds_toArray, List.set_cons_succ, List.set_cons_zero]
              refine wpAnyH_take (i := 3) (v := ?_) rfl (by kernel_rfl) (by kernel_rfl) (by kernel_rfl) (fun _ _ _ h => h) (Or.inl ⟨by kernel_rfl, ?_⟩) (by assumption) ?_
              rotate_left
              · intro w' hSw; (try dsimp only at hSw); go_simp; with_reducible rfl
              try simp only [Act.put, List.getElem_toArray, List.getElem_cons_succ, List.getElem_cons_zero, List.setIfInBounds_toArray, List.set_cons_succ, List.set_cons_zero]
              refine wpAnyH_take (i := 4) (v := ?_) rfl (by kernel_rfl) (by kernel_rfl) (by kernel_rfl) (fun _ _ _ h => h) (Or.inl ⟨by kernel_rfl, ?_⟩) (by assumption) ?_
              rotate_left
              · intro w' hSw; (try dsimp only at hSw); go_simp; with_reducible rfl
              try simp only [Act.put, List.getElem_toArray, List.getElem_cons_succ, List.getElem_cons_zero, List.setIfInBounds_toArray, List.set_cons_succ, List.set_cons_zero]
              refine wpAnyH_take (i := 5) (v := ?_) rfl (by kernel_rfl) (by kernel_rfl) (by kernel_rfl) (fun _ _ _ h => h) (Or.inl ⟨by kernel_rfl, ?_⟩) (by assumption) ?_
              rotate_left
              · intro w' hSw; (try dsimp only at hSw); go_simp; with_reducible rfl
              try simp only [Act.put, List.getElem_toArray, List.getElem_cons_succ, List.getElem_cons_zero, List.setIfInBounds_toArray, List.set_cons_succ, List.set_cons_zero]
              refine wpAnyH_take (i := 6) (v := ?_) rfl (by kernel_rfl) (by kernel_rfl) (by kernel_rfl) (fun _ _ _ h => h) (Or.inl ⟨by kernel_rfl, ?_⟩) (by assumption) ?_
              rotate_left
              · intro w' hSw; (try dsimp only at hSw); have c0 : w'.cell? ⟨X, 18, none⟩ = some (.slice (some ⟨g, 0, none⟩) n c') := Bk.cell hSw 18; go_simp; with_reducible rfl
              try simp only [Act.put, List.getElem_toArray, List.getElem_cons_succ, List.getElem_cons_zero, List.setIfInBounds_toArray, List.set_cons_succ, List.set_cons_zero]
              refine wpAnyH_take (i := 7) (v := ?_) rfl (by kernel_rfl) (by kernel_rfl) (by kernel_rfl) (fun _ _ _ h => h) (Or.inl ⟨by kernel_rfl, ?_⟩) (by assumption) ?_
              rotate_left
              · intro w' hSw; (try dsimp only at hSw); go_simp; with_reducible rfl
              try simp only [Act.put, List.getElem_toArray, List.getElem_cons_succ, List.getElem_cons_zero, List.setIfInBounds_toArray, List.set_cons_succ, List.set_cons_zero]
              refine wpAnyH_take (i := 8) (v := ?_) rfl (by kernel_rfl) (by kernel_rfl) (by kernel_rfl) (fun _ _ _ h => h) (Or.inl ⟨by kernel_rfl, ?_⟩) (by assumption) ?_
              rotate_left
              · intro w' hSw; (try dsimp only at hSw); go_simp; with_reducible rfl
              try simp only [Act.put, List.getElem_toArray, List.getElem_cons_succ, List.getElem_cons_zero, List.setIfInBounds_toArray, List.set_cons_succ, List.set_cons_zero]
              refine wpAnyH_take (i := 9) (v := ?_) rfl (by kernel_rfl) (by kernel_rfl) (by kernel_rfl) (fun _ _ _ h => h) (Or.inl ⟨by kernel_rfl, ?_⟩) (by assumption) ?_
              rotate_left
              · intro w' hSw; (try dsimp only at hSw); go_simp; with_reducible rfl
              try simp only [Act.put, List.getElem_toArray, List.getElem_cons_succ, List.getElem_cons_zero, List.setIfInBounds_toArray, List.set_cons_succ, List.set_cons_zero]
              refine wpAnyH_take (i := 11) (v := ?_) rfl (by kernel_rfl) (by kernel_rfl) (by kernel_rfl) (fun _ _ _ h => h) (Or.inl ⟨by kernel_rfl, ?_⟩) (by assumption) ?_
              rotate_left
              · intro w' hSw; (try dsimp only at hSw); go_simp; with_reducible rfl
              try simp only [Act.put, List.getElem_toArray, List.getElem_cons_succ, List.getElem_cons_zero, List.setIfInBounds_toArray, List.set_cons_succ, List.set_cons_zero]
              refine wpAnyH_take (i := 12) (v := ?_) rfl (by kernel_rfl) (by kernel_rfl) (by kernel_rfl) (fun _ _ _ h => h) (Or.inl ⟨by kernel_rfl, ?_⟩) (by assumption) ?_
              rotate_left
              · intro w' hSw; (try dsimp only at hSw); go_simp; with_reducible rfl
              try simp only [Act.put, List.getElem_toArray, List.getElem_cons_succ, List.getElem_cons_zero, List.setIfInBounds_toArray, List.set_cons_succ, List.set_cons_zero]
              refine wpAnyH_take (i := 13) (v := ?_) rfl (by kernel_rfl) (by kernel_rfl) (by kernel_rfl) (fun _ _ _ h => h) (Or.inl ⟨by kernel_rfl, ?_⟩) (by assumption) ?_
              rotate_left
              · intro w' hSw; (try dsimp only at hSw); have c0 : w'.cell? ⟨X, 6, none⟩ = some (.int .i64 t.n3) := Bk.cell hSw 6; go_simp; with_reducible rfl
              try simp only [Act.put, List.getElem_toArray, List.getElem_cons_succ, List.getElem_cons_zero, List.setIfInBounds_toArray, List.set_cons_succ, List.set_cons_zero]
              refine wpAnyH_ready (rs := [10]) (by kernel_rfl) (by simp) ?_
              refine AllReadyH.cons rfl (fun K hK => ?_) AllReadyH.nil
              have pa : vd.cell? ⟨g, k * 15 + 11, none⟩ = some (.bool x.yo) := Sd.port_cell HM.out 11 rfl
              have pb : vd.cell? ⟨g, k * 15 + 12, none⟩ = some (.int .i64 x.yv) := Sd.port_cell HM.out 12 rfl
              go_simp
              refine hK.out _ _ ((Sd.hs.1 4 _ _ _ rfl).1) (fun hHeld => ?_)
              clear hK K pa pb
              try simp only [Act.put, List.getElem_toArray, List.getElem_cons_succ, List.getElem_cons_zero, List.setIfInBounds_toArray, List.set_cons_succ, List.set_cons_zero]
              refine wpAnyH_ready (rs := [14]) (by kernel_rfl) (by simp) ?_
              refine AllReadyH.cons rfl (fun K hK => ?_) AllReadyH.nil
              go_simp
              (with_reducible refine (HF _).out.mono ?_); rintro e w2 ⟨rfl, b2⟩
              have Se := Sd.below b2
              clear Sd b2 HF
              refine hK.out _ _ ((Se.hs.1 4 _ _ _ rfl).1) (fun hHeld => ?_)
              clear hK K
              try simp only [Act.put, List.getElem_toArray, List.getElem_cons_succ, List.getElem_cons_zero, List.setIfInBounds_toArray, List.set_cons_succ, List.set_cons_zero]
              refine wpAnyH_take (i := 15) (v := ?_) rfl (by kernel_rfl) (by kernel_rfl) (by kernel_rfl) (fun _ _ _ h => h) (Or.inl ⟨by kernel_rfl, ?_⟩) (by assumption) ?_
              rotate_left
              · intro w' hSw; (try dsimp only at hSw); go_simp; with_reducible rfl
              try simp only [Act.put, List.getElem_toArray, List.getElem_cons_succ, List.getElem_cons_zero, List.setIfInBounds_toArray, List.set_cons_succ, List.set_cons_zero]
              refine wpAnyH_take (i := 16) (v := ?_) rfl (by kernel_rfl) (by kernel_rfl) (by kernel_rfl) (fun _ _ _ h => h) (Or.inl ⟨by kernel_rfl, ?_⟩) (by assumption) ?_
              rotate_left
              · intro w' hSw; (try dsimp only at hSw); go_simp; with_reducible rfl
              try simp only [Act.put, List.getElem_toArray, List.getElem_cons_succ, List.getElem_cons_zero, List.setIfInBounds_toArray, List.set_cons_succ, List.set_cons_zero]
              refine wpAnyH_take (i := 17) (v := ?_) rfl (by kernel_rfl) (by kernel_rfl) (by kernel_rfl) (fun _ _ _ h => h) (Or.inl ⟨by kernel_rfl, ?_⟩) (by assumption) ?_
              rotate_left
              · intro w' hSw; (try dsimp only at hSw); go_simp; with_reducible rfl
              try simp only [Act.put, List.getElem_toArray, List.getElem_cons_succ, List.getElem_cons_zero, List.setIfInBounds_toArray, List.set_cons_succ, List.set_cons_zero]
              refine wpAnyH_take (i := 18) (v := ?_) rfl (by kernel_rfl) (by kernel_rfl) (by kernel_rfl) (fun _ _ _ h => h) (Or.inl ⟨by kernel_rfl, ?_⟩) (by assumption) ?_
              rotate_left
              · intro w' hSw; (try dsimp only at hSw); go_simp; with_reducible rfl
              try simp only [Act.put, List.getElem_toArray, List.getElem_cons_succ, List.getElem_cons_zero, List.setIfInBounds_toArray, List.set_cons_succ, List.set_cons_zero]
              refine wpAnyH_take (i := 19) (v := ?_) rfl (by kernel_rfl) (by kernel_rfl) (by kernel_rfl) (fun _ _ _ h => h) (Or.inl ⟨by kernel_rfl, ?_⟩) (by assumption) ?_
              rotate_left
              · intro w' hSw; (try dsimp only at hSw); go_simp; with_reducible rfl
              try simp only [Act.put, List.getElem_toArray, List.getElem_cons_succ, List.getElem_cons_zero, List.setIfInBounds_toArray, List.set_cons_succ, List.set_cons_zero]
              refine wpAnyH_ready (rs := [20]) (by kernel_rfl) (by simp) ?_
              refine AllReadyH.cons rfl (fun K hK => ?_) AllReadyH.nil
              have hth := Se.there2 HM.out 11 (by decide)
              refine exec_if_store_mid (by kernel_rfl) 28 (.tmp 104) (.tmp 101) rfl g (k * 15 + 11) ([.bool (firO x.yo x.yv t.n3).1.1, .int .i64 (firO x.yo x.yv t.n3).1.2] : List Value).toArray (by kernel_rfl) (by kernel_rfl) hth (by kernel_rfl) (by kernel_rfl) ?_
              have Sf := Se.put (y := (fD t x)) HM.out 11 [.bool (firO x.yo x.yv t.n3).1.1, .int .i64 (firO x.yo x.yv t.n3).1.2] (by simp) rfl
              obtain ⟨w3, hw3⟩ : ∃ y, w2.setCells g (k * 15 + 11) [.bool (firO x.yo x.yv t.n3).1.1, .int .i64 (firO x.yo x.yv t.n3).1.2] = y := ⟨_, rfl⟩
              rw [hw3] at Sf
              rw [show w2.setCells g (k * 15 + 11) ([.bool (firO x.yo x.yv t.n3).1.1, .int .i64 (firO x.yo x.yv t.n3).1.2] : List Value).toArray.toList = w3 from hw3]
              clear hw3 Se hth
              refine hK.out _ _ ((Sf.hs.1 4 _ _ _ rfl).1) (fun hHeld => ?_)
              clear hK K
              try simp only [Act.put, List.getElem_toArray, List.getElem_cons_succ, List.getElem_cons_zero, List.setIfInBounds_toArray, List.set_cons_succ, List.set_cons_zero]
              refine wpAnyH_take (i := 21) (v := ?_) rfl (by kernel_rfl) (by kernel_rfl) (by kernel_rfl) (fun _ _ _ h => h) (Or.inl ⟨by kernel_rfl, ?_⟩) (by assumption) ?_
              rotate_left
              · intro w' hSw; (try dsimp only at hSw); go_simp; with_reducible rfl
              try simp only [Act.put, List.getElem_toArray, List.getElem_cons_succ, List.getElem_cons_zero, List.setIfInBounds_toArray, List.set_cons_succ, List.set_cons_zero]
              refine wpAnyH_ready (rs := [22]) (by kernel_rfl) (by simp) ?_
              refine AllReadyH.cons rfl (fun K hK => ?_) AllReadyH.nil
              have qa0 := Sf.hs.cell 2 k rfl (lI_at (flL_at HX.out))
              have qb0 := Sf.hs.thaw 2 k rfl
              unfold fI at qa0
              go_simp
              have Sg := Sf.set 2 rfl k (fI ((delB t) x))
              rw [lI_set, flL_step HX.out] at Sg
              have T1 : TS w [(g3, 3, lI (flL holB L k)), (g2, 3, lI (flL (agB t) L k)), (g1, 3, lI (flL (delB t) L (k + 1))), (Y, 31, [.int .u64 0, .int .u64 0, .int .u32 0, .int .i64 0, .int .i64 0, .int .i64 0, .int .i64 0, .int .i64 0, .int .i64 0, .int .i64 0, .bool false, .bool false, .bool false, .int .i64 0, .bool false, .int .i64 0, .bool false, .int .i64 0, .slice none 0 0]), (X, 31, lT (tkT t) (some ⟨g, 0, none⟩) n c')] (some ⟨g, 0, none⟩) ((mixL (fun _ p => tkP t p) k L).set k (fD t x)) (w3.setCell ⟨g1, k, none⟩ (.int .i64 (if (firO x.yo x.yv t.n3).2 = true then 1 else 0))) := Sg
              obtain ⟨x1, hx1⟩ : ∃ y, w3.setCell ⟨g1, k, none⟩ (.int .i64 (if (firO x.yo x.yv t.n3).2 = true then 1 else 0)) = y := ⟨_, rfl⟩
              rw [hx1] at T1 ⊢
              clear hx1 Sf Sg qa0 qb0
              refine hK.out _ _ ((T1.hs.1 4 _ _ _ rfl).1) (fun hHeld => ?_)
              clear hK K hHeld
              try simp only [Act.put, List.getElem_toArray, List.getElem_cons_succ, List.getElem_cons_zero, List.setIfInBounds_toArray, List.set_cons_succ, List.set_cons_zero]
              refine wpAnyH_done (by kernel_rfl) ?_ _
              have HM1 := Lib.hid (show ((mixL (fun _ p => tkP t p) k L).set k (fD t x))[k]? = some (fD t x) from List.getElem?_set_self HML.out)
              have HF := fun W => Lib.hid (rfire16_is x.ao x.av t.n1 HTX.out.2.1 (by have := hT.out; unfold TkF at this; omega) (by have := hT.out; unfold TkF at this; omega) W)
              go_upto_region 12 with fail
              refine wp_region_held_drew (S := (fun w' => Bk w' X 31 (lT (tkT t) (some ⟨g, 0, none⟩) n c'))) (by kernel_rfl) ((T1.hs.1 4 _ _ _ rfl).1) (fun hHeld => ?_)
              have Sd := T1.below ((Below.refl _ _).drew)
              obtain ⟨vd, hvd⟩ : ∃ y, x1.drew = y := ⟨_, rfl⟩
              rw [hvd] at Sd hHeld ⊢
              clear hvd T1
              refine wpAnyH_take (i := 0) (v := ?_) rfl (by kernel_rfl) (by kernel_rfl) (by kernel_rfl) (fun _ _ _ h => h) (Or.inl ⟨by kernel_rfl, ?_⟩) (by assumption) ?_
              rotate_left
              · intro w' hSw; (try dsimp only at hSw); go_simp; with_reducible rfl
              try simp only [Act.put, List.getElem_toArray, List.getElem_cons_succ, List.getElem_cons_zero, List.setIfInBounds_toArray, List.set_cons_succ, List.set_cons_zero]
              refine wpAnyH_take (i := 1) (v := ?_) rfl (by kernel_rfl) (by kernel_rfl) (by kernel_rfl) (fun _ _ _ h => h) (Or.inl ⟨by kernel_rfl, ?_⟩) (by assumption) ?_
              rotate_left
              · intro w' hSw; (try dsimp only at hSw); have c0 : w'.cell? ⟨X, 18, none⟩ = some (.slice (some ⟨g, 0, none⟩) n c') := Bk.cell hSw 18; go_simp; with_reducible rfl
              try simp only [Act.put, List.getElem_toArray, List.getElem_cons_succ, List.getElem_cons_zero, List.setIfInBounds_toArray, List.set_cons_succ, List.set_cons_zero]
              refine wpAnyH_take (i := 2) (v := ?_) rfl (by kernel_rfl) (by kernel_rfl) (by kernel_rfl) (fun _ _ _ h => h) (Or.inl ⟨by kernel_rfl, ?_⟩) (by assumption) ?_
              rotate_left
              · intro w' hSw; (try dsimp only at hSw); go_simp; with_reducible rfl
              try simp only [Act.put, List.getElem_toArray, List.getElem_cons_succ, List.getElem_cons_zero, List.setIfInBounds_toArray, List.set_cons_succ, List.set_cons_zero]
              refine wpAnyH_take (i := 3) (v := ?_) rfl (by kernel_rfl) (by kernel_rfl) (by kernel_rfl) (fun _ _ _ h => h) (Or.inl ⟨by kernel_rfl, ?_⟩) (by assumption) ?_
              rotate_left
              · intro w' hSw; (try dsimp only at hSw); go_simp; with_reducible rfl
              try simp only [Act.put, List.getElem_toArray, List.getElem_cons_succ, List.getElem_cons_zero, List.setIfInBounds_toArray, List.set_cons_succ, List.set_cons_zero]
              refine wpAnyH_take (i := 4) (v := ?_) rfl (by kernel_rfl) (by kernel_rfl) (by kernel_rfl) (fun _ _ _ h => h) (Or.inl ⟨by kernel_rfl, ?_⟩) (by assumption) ?_
              rotate_left
              · intro w' hSw; (try dsimp only at hSw); go_simp; with_reducible rfl
              try simp only [Act.put, List.getElem_toArray, List.getElem_cons_succ, List.getElem_cons_zero, List.setIfInBounds_toArray, List.set_cons_succ, List.set_cons_zero]
              refine wpAnyH_take (i := 5) (v := ?_) rfl (by kernel_rfl) (by kernel_rfl) (by kernel_rfl) (fun _ _ _ h => h) (Or.inl ⟨by kernel_rfl, ?_⟩) (by assumption) ?_
              rotate_left
              · intro w' hSw; (try dsimp only at hSw); go_simp; with_reducible rfl
              try simp only [Act.put, List.getElem_toArray, List.getElem_cons_succ, List.getElem_cons_zero, List.setIfInBounds_toArray, List.set_cons_succ, List.set_cons_zero]
              refine wpAnyH_take (i := 6) (v := ?_) rfl (by kernel_rfl) (by kernel_rfl) (by kernel_rfl) (fun _ _ _ h => h) (Or.inl ⟨by kernel_rfl, ?_⟩) (by assumption) ?_
              rotate_left
              · intro w' hSw; (try dsimp only at hSw); have c0 : w'.cell? ⟨X, 18, none⟩ = some (.slice (some ⟨g, 0, none⟩) n c') := Bk.cell hSw 18; go_simp; with_reducible rfl
              try simp only [Act.put, List.getElem_toArray, List.getElem_cons_succ, List.getElem_cons_zero, List.setIfInBounds_toArray, List.set_cons_succ, List.set_cons_zero]
              refine wpAnyH_take (i := 7) (v := ?_) rfl (by kernel_rfl) (by kernel_rfl) (by kernel_rfl) (fun _ _ _ h => h) (Or.inl ⟨by kernel_rfl, ?_⟩) (by assumption) ?_
              rotate_left
              · intro w' hSw; (try dsimp only at hSw); go_simp; with_reducible rfl
              try simp only [Act.put, List.getElem_toArray, List.getElem_cons_succ, List.getElem_cons_zero, List.setIfInBounds_toArray, List.set_cons_succ, List.set_cons_zero]
              refine wpAnyH_take (i := 8) (v := ?_) rfl (by kernel_rfl) (by kernel_rfl) (by kernel_rfl) (fun _ _ _ h => h) (Or.inl ⟨by kernel_rfl, ?_⟩) (by assumption) ?_
              rotate_left
              · intro w' hSw; (try dsimp only at hSw); go_simp; with_reducible rfl
              try simp only [Act.put, List.getElem_toArray, List.getElem_cons_succ, List.getElem_cons_zero, List.setIfInBounds_toArray, List.set_cons_succ, List.set_cons_zero]
              refine wpAnyH_take (i := 9) (v := ?_) rfl (by kernel_rfl) (by kernel_rfl) (by kernel_rfl) (fun _ _ _ h => h) (Or.inl ⟨by kernel_rfl, ?_⟩) (by assumption) ?_
              rotate_left
              · intro w' hSw; (try dsimp only at hSw); go_simp; with_reducible rfl
              try simp only [Act.put, List.getElem_toArray, List.getElem_cons_succ, List.getElem_cons_zero, List.setIfInBounds_toArray, List.set_cons_succ, List.set_cons_zero]
              refine wpAnyH_take (i := 11) (v := ?_) rfl (by kernel_rfl) (by kernel_rfl) (by kernel_rfl) (fun _ _ _ h => h) (Or.inl ⟨by kernel_rfl, ?_⟩) (by assumption) ?_
              rotate_left
              · intro w' hSw; (try dsimp only at hSw); go_simp; with_reducible rfl
              try simp only [Act.put, List.getElem_toArray, List.getElem_cons_succ, List.getElem_cons_zero, List.setIfInBounds_toArray, List.set_cons_succ, List.set_cons_zero]
              refine wpAnyH_take (i := 12) (v := ?_) rfl (by kernel_rfl) (by kernel_rfl) (by kernel_rfl) (fun _ _ _ h => h) (Or.inl ⟨by kernel_rfl, ?_⟩) (by assumption) ?_
              rotate_left
              · intro w' hSw; (try dsimp only at hSw); go_simp; with_reducible rfl
              try simp only [Act.put, List.getElem_toArray, List.getElem_cons_succ, List.getElem_cons_zero, List.setIfInBounds_toArray, List.set_cons_succ, List.set_cons_zero]
              refine wpAnyH_take (i := 13) (v := ?_) rfl (by kernel_rfl) (by kernel_rfl) (by kernel_rfl) (fun _ _ _ h => h) (Or.inl ⟨by kernel_rfl, ?_⟩) (by assumption) ?_
              rotate_left
              · intro w' hSw; (try dsimp only at hSw); have c0 : w'.cell? ⟨X, 4, none⟩ = some (.int .i64 t.n1) := Bk.cell hSw 4; go_simp; with_reducible rfl
              try simp only [Act.put, List.getElem_toArray, List.getElem_cons_succ, List.getElem_cons_zero, List.setIfInBounds_toArray, List.set_cons_succ, List.set_cons_zero]
              refine wpAnyH_ready (rs := [10]) (by kernel_rfl) (by simp) ?_
              refine AllReadyH.cons rfl (fun K hK => ?_) AllReadyH.nil
              have pa : vd.cell? ⟨g, k * 15 + 9, none⟩ = some (.bool x.ao) := Sd.port_cell HM1.out 9 rfl
              have pb : vd.cell? ⟨g, k * 15 + 10, none⟩ = some (.int .i64 x.av) := Sd.port_cell HM1.out 10 rfl
              go_simp
              refine hK.out _ _ ((Sd.hs.1 4 _ _ _ rfl).1) (fun hHeld => ?_)
              clear hK K pa pb
              try simp only [Act.put, List.getElem_toArray, List.getElem_cons_succ, List.getElem_cons_zero, List.setIfInBounds_toArray, List.set_cons_succ, List.set_cons_zero]
              refine wpAnyH_ready (rs := [14]) (by kernel_rfl) (by simp) ?_
              refine AllReadyH.cons rfl (fun K hK => ?_) AllReadyH.nil
              go_simp
              (with_reducible refine (HF _).out.mono ?_); rintro e w2 ⟨rfl, b2⟩
              have Se := Sd.below b2
              clear Sd b2 HF
              refine hK.out _ _ ((Se.hs.1 4 _ _ _ rfl).1) (fun hHeld => ?_)
              clear hK K
              try simp only [Act.put, List.getElem_toArray, List.getElem_cons_succ, List.getElem_cons_zero, List.setIfInBounds_toArray, List.set_cons_succ, List.set_cons_zero]
              refine wpAnyH_take (i := 15) (v := ?_) rfl (by kernel_rfl) (by kernel_rfl) (by kernel_rfl) (fun _ _ _ h => h) (Or.inl ⟨by kernel_rfl, ?_⟩) (by assumption) ?_
              rotate_left
              · intro w' hSw; (try dsimp only at hSw); go_simp; with_reducible rfl
              try simp only [Act.put, List.getElem_toArray, List.getElem_cons_succ, List.getElem_cons_zero, List.setIfInBounds_toArray, List.set_cons_succ, List.set_cons_zero]
              refine wpAnyH_take (i := 16) (v := ?_) rfl (by kernel_rfl) (by kernel_rfl) (by kernel_rfl) (fun _ _ _ h => h) (Or.inl ⟨by kernel_rfl, ?_⟩) (by assumption) ?_
              rotate_left
              · intro w' hSw; (try dsimp only at hSw); go_simp; with_reducible rfl
              try simp only [Act.put, List.getElem_toArray, List.getElem_cons_succ, List.getElem_cons_zero, List.setIfInBounds_toArray, List.set_cons_succ, List.set_cons_zero]
              refine wpAnyH_take (i := 17) (v := ?_) rfl (by kernel_rfl) (by kernel_rfl) (by kernel_rfl) (fun _ _ _ h => h) (Or.inl ⟨by kernel_rfl, ?_⟩) (by assumption) ?_
              rotate_left
              · intro w' hSw; (try dsimp only at hSw); go_simp; with_reducible rfl
              try simp only [Act.put, List.getElem_toArray, List.getElem_cons_succ, List.getElem_cons_zero, List.setIfInBounds_toArray, List.set_cons_succ, List.set_cons_zero]
              refine wpAnyH_take (i := 18) (v := ?_) rfl (by kernel_rfl) (by kernel_rfl) (by kernel_rfl) (fun _ _ _ h => h) (Or.inl ⟨by kernel_rfl, ?_⟩) (by assumption) ?_
              rotate_left
              · intro w' hSw; (try dsimp only at hSw); go_simp; with_reducible rfl
              try simp only [Act.put, List.getElem_toArray, List.getElem_cons_succ, List.getElem_cons_zero, List.setIfInBounds_toArray, List.set_cons_succ, List.set_cons_zero]
              refine wpAnyH_take (i := 19) (v := ?_) rfl (by kernel_rfl) (by kernel_rfl) (by kernel_rfl) (fun _ _ _ h => h) (Or.inl ⟨by kernel_rfl, ?_⟩) (by assumption) ?_
              rotate_left
              · intro w' hSw; (try dsimp only at hSw); go_simp; with_reducible rfl
              try simp only [Act.put, List.getElem_toArray, List.getElem_cons_succ, List.getElem_cons_zero, List.setIfInBounds_toArray, List.set_cons_succ, List.set_cons_zero]
              refine wpAnyH_ready (rs := [20]) (by kernel_rfl) (by simp) ?_
              refine AllReadyH.cons rfl (fun K hK => ?_) AllReadyH.nil
              have hth := Se.there2 HM1.out 9 (by decide)
              refine exec_if_store_mid (by kernel_rfl) 28 (.tmp 125) (.tmp 122) rfl g (k * 15 + 9) ([.bool (firO x.ao x.av t.n1).1.1, .int .i64 (firO x.ao x.av t.n1).1.2] : List Value).toArray (by kernel_rfl) (by kernel_rfl) hth (by kernel_rfl) (by kernel_rfl) ?_
              have Sf := Se.put (y := (fA t (fD t x))) HM1.out 9 [.bool (firO x.ao x.av t.n1).1.1, .int .i64 (firO x.ao x.av t.n1).1.2] (by simp) rfl
              rw [List.set_set] at Sf
              obtain ⟨w3, hw3⟩ : ∃ y, w2.setCells g (k * 15 + 9) [.bool (firO x.ao x.av t.n1).1.1, .int .i64 (firO x.ao x.av t.n1).1.2] = y := ⟨_, rfl⟩
              rw [hw3] at Sf
              rw [show w2.setCells g (k * 15 + 9) ([.bool (firO x.ao x.av t.n1).1.1, .int .i64 (firO x.ao x.av t.n1).1.2] : List Value).toArray.toList = w3 from hw3]
              clear hw3 Se hth
              refine hK.out _ _ ((Sf.hs.1 4 _ _ _ rfl).1) (fun hHeld => ?_)
              clear hK K
              try simp only [Act.put, List.getElem_toArray, List.getElem_cons_succ, List.getElem_cons_zero, List.setIfInBounds_toArray, List.set_cons_succ, List.set_cons_zero]
              refine wpAnyH_take (i := 21) (v := ?_) rfl (by kernel_rfl) (by kernel_rfl) (by kernel_rfl) (fun _ _ _ h => h) (Or.inl ⟨by kernel_rfl, ?_⟩) (by assumption) ?_
              rotate_left
              · intro w' hSw; (try dsimp only at hSw); go_simp; with_reducible rfl
              try simp only [Act.put, List.getElem_toArray, List.getElem_cons_succ, List.getElem_cons_zero, List.setIfInBounds_toArray, List.set_cons_succ, List.set_cons_zero]
              refine wpAnyH_ready (rs := [22]) (by kernel_rfl) (by simp) ?_
              refine AllReadyH.cons rfl (fun K hK => ?_) AllReadyH.nil
              have qa0 := Sf.hs.cell 1 k rfl (lI_at (flL_at HX.out))
              have qb0 := Sf.hs.thaw 1 k rfl
              unfold fI at qa0
              go_simp
              have Sg := Sf.set 1 rfl k (fI ((agB t) x))
              rw [lI_set, flL_step HX.out] at Sg
              have T2 : TS w [(g3, 3, lI (flL holB L k)), (g2, 3, lI (flL (agB t) L (k + 1))), (g1, 3, lI (flL (delB t) L (k + 1))), (Y, 31, [.int .u64 0, .int .u64 0, .int .u32 0, .int .i64 0, .int .i64 0, .int .i64 0, .int .i64 0, .int .i64 0, .int .i64 0, .int .i64 0, .bool false, .bool false, .bool false, .int .i64 0, .bool false, .int .i64 0, .bool false, .int .i64 0, .slice none 0 0]), (X, 31, lT (tkT t) (some ⟨g, 0, none⟩) n c')] (some ⟨g, 0, none⟩) ((mixL (fun _ p => tkP t p) k L).set k (fA t (fD t x))) (w3.setCell ⟨g2, k, none⟩ (.int .i64 (if (firO x.ao x.av t.n1).2 = true then 1 else 0))) := Sg
              obtain ⟨x2, hx2⟩ : ∃ y, w3.setCell ⟨g2, k, none⟩ (.int .i64 (if (firO x.ao x.av t.n1).2 = true then 1 else 0)) = y := ⟨_, rfl⟩
              rw [hx2] at T2 ⊢
              clear hx2 Sf Sg qa0 qb0
              refine hK.out _ _ ((T2.hs.1 4 _ _ _ rfl).1) (fun hHeld => ?_)
              clear hK K hHeld
              try simp only [Act.put, List.getElem_toArray, List.getElem_cons_succ, List.getElem_cons_zero, List.setIfInBounds_toArray, List.set_cons_succ, List.set_cons_zero]
              refine wpAnyH_done (by kernel_rfl) ?_ _
              have HM2 := Lib.hid (show ((mixL (fun _ p => tkP t p) k L).set k (fA t (fD t x)))[k]? = some (fA t (fD t x)) from List.getElem?_set_self HML.out)
              have HF := fun W => Lib.hid (rfire16_is x.ho x.hv 256 HTX.out.2.2 (by decide) (by decide) W)
              go_upto_region 13 with fail
              refine wp_region_held_drew (S := (fun w' => Bk w' X 31 (lT (tkT t) (some ⟨g, 0, none⟩) n c'))) (by kernel_rfl) ((T2.hs.1 4 _ _ _ rfl).1) (fun hHeld => ?_)
              have Sd := T2.below ((Below.refl _ _).drew)
              obtain ⟨vd, hvd⟩ : ∃ y, x2.drew = y := ⟨_, rfl⟩
              rw [hvd] at Sd hHeld ⊢
              clear hvd T2
              refine wpAnyH_take (i := 0) (v := ?_) rfl (by kernel_rfl) (by kernel_rfl) (by kernel_rfl) (fun _ _ _ h => h) (Or.inl ⟨by kernel_rfl, ?_⟩) (by assumption) ?_
              rotate_left
              · intro w' hSw; (try dsimp only at hSw); go_simp; with_reducible rfl
              try simp only [Act.put, List.getElem_toArray, List.getElem_cons_succ, List.getElem_cons_zero, List.setIfInBounds_toArray, List.set_cons_succ, List.set_cons_zero]
              refine wpAnyH_take (i := 1) (v := ?_) rfl (by kernel_rfl) (by kernel_rfl) (by kernel_rfl) (fun _ _ _ h => h) (Or.inl ⟨by kernel_rfl, ?_⟩) (by assumption) ?_
              rotate_left
              · intro w' hSw; (try dsimp only at hSw); have c0 : w'.cell? ⟨X, 18, none⟩ = some (.slice (some ⟨g, 0, none⟩) n c') := Bk.cell hSw 18; go_simp; with_reducible rfl
              try simp only [Act.put, List.getElem_toArray, List.getElem_cons_succ, List.getElem_cons_zero, List.setIfInBounds_toArray, List.set_cons_succ, List.set_cons_zero]
              refine wpAnyH_take (i := 2) (v := ?_) rfl (by kernel_rfl) (by kernel_rfl) (by kernel_rfl) (fun _ _ _ h => h) (Or.inl ⟨by kernel_rfl, ?_⟩) (by assumption) ?_
              rotate_left
              · intro w' hSw; (try dsimp only at hSw); go_simp; with_reducible rfl
              try simp only [Act.put, List.getElem_toArray, List.getElem_cons_succ, List.getElem_cons_zero, List.setIfInBounds_toArray, List.set_cons_succ, List.set_cons_zero]
              refine wpAnyH_take (i := 3) (v := ?_) rfl (by kernel_rfl) (by kernel_rfl) (by kernel_rfl) (fun _ _ _ h => h) (Or.inl ⟨by kernel_rfl, ?_⟩) (by assumption) ?_
              rotate_left
              · intro w' hSw; (try dsimp only at hSw); go_simp; with_reducible rfl
              try simp only [Act.put, List.getElem_toArray, List.getElem_cons_succ, List.getElem_cons_zero, List.setIfInBounds_toArray, List.set_cons_succ, List.set_cons_zero]
              refine wpAnyH_take (i := 4) (v := ?_) rfl (by kernel_rfl) (by kernel_rfl) (by kernel_rfl) (fun _ _ _ h => h) (Or.inl ⟨by kernel_rfl, ?_⟩) (by assumption) ?_
              rotate_left
              · intro w' hSw; (try dsimp only at hSw); go_simp; with_reducible rfl
              try simp only [Act.put, List.getElem_toArray, List.getElem_cons_succ, List.getElem_cons_zero, List.setIfInBounds_toArray, List.set_cons_succ, List.set_cons_zero]
              refine wpAnyH_take (i := 5) (v := ?_) rfl (by kernel_rfl) (by kernel_rfl) (by kernel_rfl) (fun _ _ _ h => h) (Or.inl ⟨by kernel_rfl, ?_⟩) (by assumption) ?_
              rotate_left
              · intro w' hSw; (try dsimp only at hSw); go_simp; with_reducible rfl
              try simp only [Act.put, List.getElem_toArray, List.getElem_cons_succ, List.getElem_cons_zero, List.setIfInBounds_toArray, List.set_cons_succ, List.set_cons_zero]
              refine wpAnyH_take (i := 6) (v := ?_) rfl (by kernel_rfl) (by kernel_rfl) (by kernel_rfl) (fun _ _ _ h => h) (Or.inl ⟨by kernel_rfl, ?_⟩) (by assumption) ?_
              rotate_left
              · intro w' hSw; (try dsimp only at hSw); have c0 : w'.cell? ⟨X, 18, none⟩ = some (.slice (some ⟨g, 0, none⟩) n c') := Bk.cell hSw 18; go_simp; with_reducible rfl
              try simp only [Act.put, List.getElem_toArray, List.getElem_cons_succ, List.getElem_cons_zero, List.setIfInBounds_toArray, List.set_cons_succ, List.set_cons_zero]
              refine wpAnyH_take (i := 7) (v := ?_) rfl (by kernel_rfl) (by kernel_rfl) (by kernel_rfl) (fun _ _ _ h => h) (Or.inl ⟨by kernel_rfl, ?_⟩) (by assumption) ?_
              rotate_left
              · intro w' hSw; (try dsimp only at hSw); go_simp; with_reducible rfl
              try simp only [Act.put, List.getElem_toArray, List.getElem_cons_succ, List.getElem_cons_zero, List.setIfInBounds_toArray, List.set_cons_succ, List.set_cons_zero]
              refine wpAnyH_take (i := 8) (v := ?_) rfl (by kernel_rfl) (by kernel_rfl) (by kernel_rfl) (fun _ _ _ h => h) (Or.inl ⟨by kernel_rfl, ?_⟩) (by assumption) ?_
              rotate_left
              · intro w' hSw; (try dsimp only at hSw); go_simp; with_reducible rfl
              try simp only [Act.put, List.getElem_toArray, List.getElem_cons_succ, List.getElem_cons_zero, List.setIfInBounds_toArray, List.set_cons_succ, List.set_cons_zero]
              refine wpAnyH_take (i := 9) (v := ?_) rfl (by kernel_rfl) (by kernel_rfl) (by kernel_rfl) (fun _ _ _ h => h) (Or.inl ⟨by kernel_rfl, ?_⟩) (by assumption) ?_
              rotate_left
              · intro w' hSw; (try dsimp only at hSw); go_simp; with_reducible rfl
              try simp only [Act.put, List.getElem_toArray, List.getElem_cons_succ, List.getElem_cons_zero, List.setIfInBounds_toArray, List.set_cons_succ, List.set_cons_zero]
              refine wpAnyH_ready (rs := [10]) (by kernel_rfl) (by simp) ?_
              refine AllReadyH.cons rfl (fun K hK => ?_) AllReadyH.nil
              have pa : vd.cell? ⟨g, k * 15 + 13, none⟩ = some (.bool x.ho) := Sd.port_cell HM2.out 13 rfl
              have pb : vd.cell? ⟨g, k * 15 + 14, none⟩ = some (.int .i64 x.hv) := Sd.port_cell HM2.out 14 rfl
              go_simp
              refine hK.out _ _ ((Sd.hs.1 4 _ _ _ rfl).1) (fun hHeld => ?_)
              clear hK K pa pb
              try simp only [Act.put, List.getElem_toArray, List.getElem_cons_succ, List.getElem_cons_zero, List.setIfInBounds_toArray, List.set_cons_succ, List.set_cons_zero]
              refine wpAnyH_ready (rs := [11]) (by kernel_rfl) (by simp) ?_
              refine AllReadyH.cons rfl (fun K hK => ?_) AllReadyH.nil
              go_simp
              (with_reducible refine (HF _).out.mono ?_); rintro e w2 ⟨rfl, b2⟩
              have Se := Sd.below b2
              clear Sd b2 HF
              refine hK.out _ _ ((Se.hs.1 4 _ _ _ rfl).1) (fun hHeld => ?_)
              clear hK K
              try simp only [Act.put, List.getElem_toArray, List.getElem_cons_succ, List.getElem_cons_zero, List.setIfInBounds_toArray, List.set_cons_succ, List.set_cons_zero]
              refine wpAnyH_take (i := 12) (v := ?_) rfl (by kernel_rfl) (by kernel_rfl) (by kernel_rfl) (fun _ _ _ h => h) (Or.inl ⟨by kernel_rfl, ?_⟩) (by assumption) ?_
              rotate_left
              · intro w' hSw; (try dsimp only at hSw); go_simp; with_reducible rfl
              try simp only [Act.put, List.getElem_toArray, List.getElem_cons_succ, List.getElem_cons_zero, List.setIfInBounds_toArray, List.set_cons_succ, List.set_cons_zero]
              refine wpAnyH_take (i := 13) (v := ?_) rfl (by kernel_rfl) (by kernel_rfl) (by kernel_rfl) (fun _ _ _ h => h) (Or.inl ⟨by kernel_rfl, ?_⟩) (by assumption) ?_
              rotate_left
              · intro w' hSw; (try dsimp only at hSw); go_simp; with_reducible rfl
              try simp only [Act.put, List.getElem_toArray, List.getElem_cons_succ, List.getElem_cons_zero, List.setIfInBounds_toArray, List.set_cons_succ, List.set_cons_zero]
              refine wpAnyH_take (i := 14) (v := ?_) rfl (by kernel_rfl) (by kernel_rfl) (by kernel_rfl) (fun _ _ _ h => h) (Or.inl ⟨by kernel_rfl, ?_⟩) (by assumption) ?_
              rotate_left
              · intro w' hSw; (try dsimp only at hSw); go_simp; with_reducible rfl
              try simp only [Act.put, List.getElem_toArray, List.getElem_cons_succ, List.getElem_cons_zero, List.setIfInBounds_toArray, List.set_cons_succ, List.set_cons_zero]
              refine wpAnyH_take (i := 15) (v := ?_) rfl (by kernel_rfl) (by kernel_rfl) (by kernel_rfl) (fun _ _ _ h => h) (Or.inl ⟨by kernel_rfl, ?_⟩) (by assumption) ?_
              rotate_left
              · intro w' hSw; (try dsimp only at hSw); go_simp; with_reducible rfl
              try simp only [Act.put, List.getElem_toArray, List.getElem_cons_succ, List.getElem_cons_zero, List.setIfInBounds_toArray, List.set_cons_succ, List.set_cons_zero]
              refine wpAnyH_take (i := 16) (v := ?_) rfl (by kernel_rfl) (by kernel_rfl) (by kernel_rfl) (fun _ _ _ h => h) (Or.inl ⟨by kernel_rfl, ?_⟩) (by assumption) ?_
              rotate_left
              · intro w' hSw; (try dsimp only at hSw); go_simp; with_reducible rfl
              try simp only [Act.put, List.getElem_toArray, List.getElem_cons_succ, List.getElem_cons_zero, List.setIfInBounds_toArray, List.set_cons_succ, List.set_cons_zero]
              refine wpAnyH_ready (rs := [17]) (by kernel_rfl) (by simp) ?_
              refine AllReadyH.cons rfl (fun K hK => ?_) AllReadyH.nil
              have hth := Se.there2 HM2.out 13 (by decide)
              refine exec_if_store_mid (by kernel_rfl) 28 (.tmp 143) (.tmp 140) rfl g (k * 15 + 13) ([.bool (firO x.ho x.hv 256).1.1, .int .i64 (firO x.ho x.hv 256).1.2] : List Value).toArray (by kernel_rfl) (by kernel_rfl) hth (by kernel_rfl) (by kernel_rfl) ?_
              have Sf := Se.put (y := (tkP t x)) HM2.out 13 [.bool (firO x.ho x.hv 256).1.1, .int .i64 (firO x.ho x.hv 256).1.2] (by simp) rfl
              rw [List.set_set] at Sf
              obtain ⟨w3, hw3⟩ : ∃ y, w2.setCells g (k * 15 + 13) [.bool (firO x.ho x.hv 256).1.1, .int .i64 (firO x.ho x.hv 256).1.2] = y := ⟨_, rfl⟩
              rw [hw3] at Sf
              rw [show w2.setCells g (k * 15 + 13) ([.bool (firO x.ho x.hv 256).1.1, .int .i64 (firO x.ho x.hv 256).1.2] : List Value).toArray.toList = w3 from hw3]
              clear hw3 Se hth
              refine hK.out _ _ ((Sf.hs.1 4 _ _ _ rfl).1) (fun hHeld => ?_)
              clear hK K
              try simp only [Act.put, List.getElem_toArray, List.getElem_cons_succ, List.getElem_cons_zero, List.setIfInBounds_toArray, List.set_cons_succ, List.set_cons_zero]
              refine wpAnyH_take (i := 18) (v := ?_) rfl (by kernel_rfl) (by kernel_rfl) (by kernel_rfl) (fun _ _ _ h => h) (Or.inl ⟨by kernel_rfl, ?_⟩) (by assumption) ?_
              rotate_left
              · intro w' hSw; (try dsimp only at hSw); go_simp; with_reducible rfl
              try simp only [Act.put, List.getElem_toArray, List.getElem_cons_succ, List.getElem_cons_zero, List.setIfInBounds_toArray, List.set_cons_succ, List.set_cons_zero]
              refine wpAnyH_ready (rs := [19]) (by kernel_rfl) (by simp) ?_
              refine AllReadyH.cons rfl (fun K hK => ?_) AllReadyH.nil
              have qa0 := Sf.hs.cell 0 k rfl (lI_at (flL_at HX.out))
              have qb0 := Sf.hs.thaw 0 k rfl
              unfold fI at qa0
              go_simp
              have Sg := Sf.set 0 rfl k (fI (holB x))
              rw [lI_set, flL_step HX.out] at Sg
              have T3 : TS w [(g3, 3, lI (flL holB L (k + 1))), (g2, 3, lI (flL (agB t) L (k + 1))), (g1, 3, lI (flL (delB t) L (k + 1))), (Y, 31, [.int .u64 0, .int .u64 0, .int .u32 0, .int .i64 0, .int .i64 0, .int .i64 0, .int .i64 0, .int .i64 0, .int .i64 0, .int .i64 0, .bool false, .bool false, .bool false, .int .i64 0, .bool false, .int .i64 0, .bool false, .int .i64 0, .slice none 0 0]), (X, 31, lT (tkT t) (some ⟨g, 0, none⟩) n c')] (some ⟨g, 0, none⟩) ((mixL (fun _ p => tkP t p) k L).set k (tkP t x)) (w3.setCell ⟨g3, k, none⟩ (.int .i64 (if (firO x.ho x.hv 256).2 = true then 1 else 0))) := Sg
              obtain ⟨x3, hx3⟩ : ∃ y, w3.setCell ⟨g3, k, none⟩ (.int .i64 (if (firO x.ho x.hv 256).2 = true then 1 else 0)) = y := ⟨_, rfl⟩
              rw [hx3] at T3 ⊢
              clear hx3 Sf Sg qa0 qb0
              refine hK.out _ _ ((T3.hs.1 4 _ _ _ rfl).1) (fun hHeld => ?_)
              clear hK K hHeld
              try simp only [Act.put, List.getElem_toArray, List.getElem_cons_succ, List.getElem_cons_zero, List.setIfInBounds_toArray, List.set_cons_succ, List.set_cons_zero]
              refine wpAnyH_done (by kernel_rfl) ?_ _
              rw [mixL_set (f := fun _ p => tkP t p) HX.out] at T3
              go_wp2
              go_roundw
              case rel => exact ⟨k + 1, hkn, by go_num, T3⟩
              case measure => simp [intOf]; omega
          · have hke : k = n := by omega
            rw [hke] at S ⊢
            rw [mixL_all (by rw [hL.out]; exact Nat.le_refl _), all_map] at S
            have S' := S.hs
            have RT := S.toR
            clear S hke hk hkn
            clear k
            have hkz : ¬ (n : Int) < (n : Int) := by omega
            have hz0 := HZ
            have HZD := HZ
            have hb1 : (ea == 1) = qa := by rw [← HEA.out]; exact bit_is qa
            go_upto_if 146 with fail
            go_cut [12] (fun q wx => ∃ D1 c1, (D1 = none → c1 = 0) ∧ Hs w [(g3, 3, lI (flL holB L n)), (g2, 3, lI (flL (agB t) L n)), (g1, 3, lI (flL (delB t) L n)), (Y, 31, [.int .u64 0, .int .u64 0, .int .u32 0, .int .i64 0, .int .i64 0, .int .i64 0, .int .i64 0, .int .i64 0, .int .i64 0, .int .i64 0, .bool false, .bool false, .bool false, .int .i64 0, .bool false, .int .i64 0, .bool false, .int .i64 0, .slice none 0 0]), (X, 31, lT (helloS qa (tkT t, L.map (tkP t))).1.1 D1 n c1)] wx ∧ RowT wx D1 (helloS qa (tkT t, L.map (tkP t))).1.2 ∧ OutsR wx w.heap.size q (helloS qa (tkT t, L.map (tkP t))).2)
            case first =>
              as_aux_lemma =>
                cases qa with
                | false =>
                  go_wp2_with fail
                  go_meet
                  exact ⟨D', c', HZ.out, S', RT, OutsR.nil _ _⟩
                | true =>
                  obtain ⟨A1, hA1⟩ : ∃ q, allR (tkT t) (L.map (tkP t)) n = q := ⟨_, rfl⟩
                  have HA1 := Lib.hid hA1
                  have hfew : A1.2.length ≤ n := by rw [← hA1]; exact (allR_bd (t := tkT t) HKF.out.2.2.1 n).2.1
                  clear hA1
                  have hlen : ([] : List Ou).length + A1.2.length ≤ 100000 := by simp only [List.length_nil]; omega
                  have hO0 : OutsR wr w.heap.size (.slice none 0 0) [] := OutsR.nil _ _
                  go_upto_region 16 with fail
                  have HC := Lib.hid (show Calls Tryz.prog 22 #[.agg (lT (tkT t) D' n c').toArray] wr (AllEnd2 wr (tkT t) D' n (L.map (tkP t)) A1) from by rw [← HA1.out]; exact rall2_is (tkT t) D' n c' (L.map (tkP t)) (Lib.hid HKF.out.2.2.2.1) hf2 (Lib.hid HKF.out.1) (Lib.hid (nb_of2 HKF.out.2.1)) (Lib.hid HKF.out.2.2.1) HZ wr (Lib.hid RT.ports))
                  have hx := S'.bk 4 rfl
                  go_wp2_with (with_reducible refine wpList_load_row rfl 31 (.tmp 1) rfl X (by kernel_rfl) _ _ (0, 0) _ hx Tryz.underlying31 rfl (by kernel_rfl) ?_)
                  (with_reducible refine HC.out.mono ?_); rintro e ha ⟨D2, c2, v3, rfl, hza, hPa, hQa, ba⟩
                  have RTa : RowT ha D2 A1.1 := hPa.elim (fun ⟨e1, e2⟩ => by rw [e1, e2]; exact RT.below ba) id
                  clear hPa
                  have Sa := S'.below ba
                  have hOa := hO0.below ba
                  have HZa := Lib.hid hza
                  have HWQ := Lib.hid (show w.heap.size ≤ wr.heap.size from S'.old.size)
                  clear S' hO0 RT hx HC hza ba
                  go_upto_region 17 with (with_reducible refine wpList_store_row rfl 31 (.tmp 13) (.tmp 150) rfl ha.heap.size (lT (tkT t) D2 n c2).toArray (by kernel_rfl) (by kernel_rfl) _ _ (heap_alloc_new _ _) (by kernel_rfl) (by kernel_rfl) (by kernel_rfl) ?_)
                  rw [alloc_row]
                  have bN := new_below ha (.cells (lT (tkT t) D2 n c2).toArray 31)
                  have Sb := Sa.al rfl 31 (lT (tkT t) D2 n c2)
                  have hOb := hOa.below bN
                  have hQb := hQa.below bN
                  have RTb := RTa.below bN
                  obtain ⟨V, hV⟩ : ∃ q, ha.heap.size = q := ⟨_, rfl⟩
                  rw [hV] at Sb ⊢
                  obtain ⟨hb, hwv⟩ : ∃ y, ha.alloc (.cells (lT (tkT t) D2 n c2).toArray 31) = y := ⟨_, rfl⟩
                  rw [hwv] at Sb hOb hQb RTb ⊢
                  clear hwv hV bN Sa hOa hQa RTa
                  have hx := Sb.bk 0 rfl
                  have hy := Sb.bk 5 rfl
                  go_upto_region 18 with (first | (with_reducible refine wpList_load_row rfl 31 (.tmp 13) rfl V (by kernel_rfl) _ _ (0, 0) _ hx Tryz.underlying31 rfl (by kernel_rfl) ?_) | (with_reducible refine wpList_store_row rfl 31 (.tmp 1) (.tmp 152) rfl X (lT (tkT t) D2 n c2).toArray (by kernel_rfl) (by kernel_rfl) _ _ hy (by kernel_rfl) (by kernel_rfl) (by kernel_rfl) ?_))
                  have Sc : Hs w [(g3, 3, lI (flL holB L n)), (g2, 3, lI (flL (agB t) L n)), (g1, 3, lI (flL (delB t) L n)), (Y, 31, [.int .u64 0, .int .u64 0, .int .u32 0, .int .i64 0, .int .i64 0, .int .i64 0, .int .i64 0, .int .i64 0, .int .i64 0, .int .i64 0, .bool false, .bool false, .bool false, .int .i64 0, .bool false, .int .i64 0, .bool false, .int .i64 0, .slice none 0 0]), (X, 31, lT (tkT t) D2 n c2)] (hb.setRow X (lT (tkT t) D2 n c2).toArray) := (Sb.row 5 rfl (lT (tkT t) D2 n c2)).tail
                  have hOc := hOb.store Sb 5 rfl (lT (tkT t) D2 n c2).toArray
                  have hQc := hQb.store Sb 5 rfl (lT (tkT t) D2 n c2).toArray
                  have RTc := RTb.row (cs := lT (tkT t) D2 n c2) (Sb.1 5 _ _ _ rfl).1
                  generalize hb.setRow X (lT (tkT t) D2 n c2).toArray = hc at Sc hOc hQc RTc ⊢
                  clear Sb hOb hQb RTb hx hy
                  have hbd : w.heap.size ≤ hc.heap.size := Sc.old.size
                  have hwq := HWQ.out
                  obtain ⟨_, _, hown⟩ := hOc.own
                  go_upto_region 19 with (at_builtin; refine append_outs _ rfl (.tmp 153) (.tmp 154) rfl w.heap.size wr.heap.size (.slice none 0 0) v3 [] A1.2 (by kernel_rfl) (by kernel_rfl) hOc hQc hwq hlen hbd hc (Below.refl _ _) ?_; intro v4 hd hOd hbz gr; have Sd := Sc.grownT hown gr (by intro y hy; simp only [List.mem_cons, List.not_mem_nil, or_false] at hy; rcases hy with rfl | rfl | rfl | rfl | rfl <;> (dsimp only; decide)); have RTd := RTc.grownO hown gr; clear Sc RTc hOc hQc hown gr hbz hbd hwq)
                  have c12 := Sd.cell 4 12 rfl rfl
                  have f12 := Sd.thaw 4 12 rfl
                  have c13 := Sd.cell 4 13 rfl rfl
                  have f13 := Sd.thaw 4 13 rfl
                  go_wp2_with fail
                  have Se : Hs w [(g3, 3, lI (flL holB L n)), (g2, 3, lI (flL (agB t) L n)), (g1, 3, lI (flL (delB t) L n)), (Y, 31, [.int .u64 0, .int .u64 0, .int .u32 0, .int .i64 0, .int .i64 0, .int .i64 0, .int .i64 0, .int .i64 0, .int .i64 0, .int .i64 0, .bool false, .bool false, .bool false, .int .i64 0, .bool false, .int .i64 0, .bool false, .int .i64 0, .slice none 0 0]), (X, 31, lT ({ tkT t with ho := true, hv := 0 }) D2 n c2)] ((hd.setCell ⟨X, 12, none⟩ (.bool true)).setCell ⟨X, 13, none⟩ (.int .i64 0)) := ((Sd).set 4 rfl 12 (.bool true)).set 4 rfl 13 (.int .i64 0)
                  have hOe := hOd.but (w' := (hd.setCell ⟨X, 12, none⟩ (.bool true)).setCell ⟨X, 13, none⟩ (.int .i64 0)) (Sd.1 4 _ _ _ rfl).1 (by decide) (by decide) (fun b hb => (Below.heap_setCell _ ⟨X, 13, none⟩ _ b hb).trans (Below.heap_setCell _ ⟨X, 12, none⟩ _ b hb))
                  have RTe := RTd.but (w' := (hd.setCell ⟨X, 12, none⟩ (.bool true)).setCell ⟨X, 13, none⟩ (.int .i64 0)) (Sd.1 4 _ _ _ rfl).1 (by decide) (fun b hb => (Below.heap_setCell _ ⟨X, 13, none⟩ _ b hb).trans (Below.heap_setCell _ ⟨X, 12, none⟩ _ b hb))
                  generalize (hd.setCell ⟨X, 12, none⟩ (.bool true)).setCell ⟨X, 13, none⟩ (.int .i64 0) = he at Se hOe RTe ⊢
                  clear Sd hOd RTd c12 f12 c13 f13
                  go_meet
                  have HLL := Lib.hid (show (L.map (tkP t)).length = n from HKF.out.2.2.2.1)
                  refine ⟨D2, c2, HZa.out, ?_, ?_, ?_⟩
                  · exact Se
                  · unfold helloS; dsimp only; rw [HLL.out, HA1.out]; exact RTe
                  · unfold helloS; dsimp only; rw [HLL.out, HA1.out]; exact hOe
            case rest =>
              as_aux_lemma =>
                obtain ⟨D1, c1, hz1, S1, RT1, hO1⟩ := hcut
                rename World => wc
                clear S' RT hb1 HZD
                have HZ1 := Lib.hid hz1
                clear hz1
                obtain ⟨h1, hh1⟩ : ∃ q, helloS qa (tkT t, L.map (tkP t)) = q := ⟨_, rfl⟩
                rw [hh1] at S1 RT1 hO1
                have HH1 := Lib.hid hh1
                have HB1 := Lib.hid (show ThB h1.1.1 by rw [← hh1]; unfold helloS; split; exact HKF.out.1; exact HKF.out.1)
                have HPL := Lib.hid (show h1.1.2.length = n by rw [← hh1]; unfold helloS; split; exact (allR_bd (t := tkT t) HKF.out.2.2.1 _).1.trans HKF.out.2.2.2.1; exact HKF.out.2.2.2.1)
                have HOL := Lib.hid (show h1.2.length ≤ n by rw [← hh1]; unfold helloS; split; rw [show (L.map (tkP t)).length = n from HKF.out.2.2.2.1]; exact (allR_bd (t := tkT t) HKF.out.2.2.1 _).2.1; exact Nat.zero_le _)
                clear hh1
                have hb1 : (eb == 1) = qb := by rw [← HEB.out]; exact bit_is qb
                go_upto_if 159 with fail
                go_cut [12] (fun q wx => Hs w [(g3, 3, lI (flL holB L n)), (g2, 3, lI (flL (agB t) L n)), (g1, 3, lI (flL (delB t) L n)), (Y, 31, [.int .u64 0, .int .u64 0, .int .u32 0, .int .i64 0, .int .i64 0, .int .i64 0, .int .i64 0, .int .i64 0, .int .i64 0, .int .i64 0, .bool false, .bool false, .bool false, .int .i64 0, .bool false, .int .i64 0, .bool false, .int .i64 0, .slice none 0 0]), (X, 31, lT (tcnS qb h1).1.1 D1 n c1)] wx ∧ RowT wx D1 h1.1.2 ∧ OutsR wx w.heap.size q (tcnS qb h1).2)
                case first =>
                  as_aux_lemma =>
                    cases qb with
                    | false =>
                      go_wp2_with fail
                      go_meet
                      exact ⟨S1, RT1, hO1⟩
                    | true =>
                      obtain ⟨A2, hA2⟩ : ∃ q, tcnR h1.1.1 n = q := ⟨_, rfl⟩
                      have HC := Lib.hid (rtcn_is h1.1.1 D1 n c1 HB1 wc)
                      rw [hA2] at HC
                      have HA2 := Lib.hid hA2
                      have hfew : A2.length ≤ 1 := by rw [← hA2]; exact tcn_few _ _
                      clear hA2
                      have hlen : h1.2.length + A2.length ≤ 100000 := by have := HOL.out; omega
                      have hx := S1.bk 4 rfl
                      go_wp2_with (with_reducible refine wpList_load_row rfl 31 (.tmp 1) rfl X (by kernel_rfl) _ _ (0, 0) _ hx Tryz.underlying31 rfl (by kernel_rfl) ?_)
                      (with_reducible refine HC.out.mono ?_); rintro e wa ⟨v3, rfl, hQ, ba⟩
                      have Sa := S1.below ba
                      have hOa := hO1.below ba
                      have RTa := RT1.below ba
                      have hwq : w.heap.size ≤ wc.heap.size := S1.old.size
                      have hbd : w.heap.size ≤ wa.heap.size := Sa.old.size
                      obtain ⟨_, _, hown⟩ := hOa.own
                      clear S1 hO1 RT1 hx HC ba
                      go_wp2_with (at_builtin; refine append_outs _ rfl (.tmp 160) (.tmp 162) rfl w.heap.size wc.heap.size u12 v3 h1.2 A2 rfl rfl hOa hQ hwq hlen hbd wa (Below.refl _ _) ?_; intro v4 wb2 hOb hbz gr; have Sb := Sa.grownT hown gr (by intro y hy; simp only [List.mem_cons, List.not_mem_nil, or_false] at hy; rcases hy with rfl | rfl | rfl | rfl | rfl <;> (dsimp only; decide)); have RTb := RTa.grownO hown gr; clear Sa RTa hOa hQ hown gr hbz hbd hwq; have c14 := Sb.cell 4 14 rfl rfl; have f14 := Sb.thaw 4 14 rfl; have c15 := Sb.cell 4 15 rfl rfl; have f15 := Sb.thaw 4 15 rfl)
                      go_meet
                      have Sc : Hs w [(g3, 3, lI (flL holB L n)), (g2, 3, lI (flL (agB t) L n)), (g1, 3, lI (flL (delB t) L n)), (Y, 31, [.int .u64 0, .int .u64 0, .int .u32 0, .int .i64 0, .int .i64 0, .int .i64 0, .int .i64 0, .int .i64 0, .int .i64 0, .int .i64 0, .bool false, .bool false, .bool false, .int .i64 0, .bool false, .int .i64 0, .bool false, .int .i64 0, .slice none 0 0]), (X, 31, lT { h1.1.1 with xo := true, xv := 0 } D1 n c1)] ((wb2.setCell ⟨X, 14, none⟩ (.bool true)).setCell ⟨X, 15, none⟩ (.int .i64 0)) := (Sb.set 4 rfl 14 (.bool true)).set 4 rfl 15 (.int .i64 0)
                      have hOc := hOb.but (w' := (wb2.setCell ⟨X, 14, none⟩ (.bool true)).setCell ⟨X, 15, none⟩ (.int .i64 0)) (Sb.1 4 _ _ _ rfl).1 (by decide) (by decide) (fun b hb => (Below.heap_setCell _ ⟨X, 15, none⟩ _ b hb).trans (Below.heap_setCell _ ⟨X, 14, none⟩ _ b hb))
                      have RTc := RTb.but (w' := (wb2.setCell ⟨X, 14, none⟩ (.bool true)).setCell ⟨X, 15, none⟩ (.int .i64 0)) (Sb.1 4 _ _ _ rfl).1 (by decide) (fun b hb => (Below.heap_setCell _ ⟨X, 15, none⟩ _ b hb).trans (Below.heap_setCell _ ⟨X, 14, none⟩ _ b hb))
                      refine ⟨Sc, RTc, ?_⟩
                      unfold tcnS
                      dsimp only
                      rw [HPL.out, HA2.out]
                      exact hOc
                case rest =>
                  as_aux_lemma =>
                    obtain ⟨S2, RT2, hO2⟩ := hcut
                    rename World => wd
                    clear S1 RT1 hO1 hb1
                    obtain ⟨h2, hh2⟩ : ∃ q, tcnS qb h1 = q := ⟨_, rfl⟩
                    have e12 : h1.1.2 = h2.1.2 := by rw [← hh2]; unfold tcnS; split <;> rfl
                    rw [hh2] at S2 hO2
                    rw [e12] at RT2
                    have hs0 := HS0.out
                    rw [HH1.out, hh2] at hs0
                    have HS0' := Lib.hid hs0
                    clear hh2 e12 hs0 HS0
                    have hb1 : (ec == 1) = qc := by rw [← HEC.out]; exact bit_is qc
                    go_upto_if 167 with fail
                    go_cut [12] (fun q wx => Hs w [(g3, 3, lI (flL holB L n)), (g2, 3, lI (flL (agB t) L n)), (g1, 3, lI (flL (delB t) L n)), (Y, 31, [.int .u64 0, .int .u64 0, .int .u32 0, .int .i64 0, .int .i64 0, .int .i64 0, .int .i64 0, .int .i64 0, .int .i64 0, .int .i64 0, .bool false, .bool false, .bool false, .int .i64 0, .bool false, .int .i64 0, .bool false, .int .i64 0, .slice none 0 0]), (X, 31, lT s0.1.1 D1 n c1)] wx ∧ RowT wx D1 s0.1.2 ∧ OutsR wx w.heap.size q s0.2)
                    case first =>
                      as_aux_lemma =>
                        have hs0 := HS0'.out
                        cases qc with
                        | false =>
                          obtain rfl : s0 = h2 := hs0
                          go_wp2_with fail
                          go_meet
                          exact ⟨S2, RT2, hO2⟩
                        | true =>
                          subst hs0
                          have c10 := S2.cell 4 10 rfl rfl
                          have f10 := S2.thaw 4 10 rfl
                          have c11 := S2.cell 4 11 rfl rfl
                          have f11 := S2.thaw 4 11 rfl
                          go_wp2_with fail
                          have Se : Hs w [(g3, 3, lI (flL holB L n)), (g2, 3, lI (flL (agB t) L n)), (g1, 3, lI (flL (delB t) L n)), (Y, 31, [.int .u64 0, .int .u64 0, .int .u32 0, .int .i64 0, .int .i64 0, .int .i64 0, .int .i64 0, .int .i64 0, .int .i64 0, .int .i64 0, .bool false, .bool false, .bool false, .int .i64 0, .bool false, .int .i64 0, .bool false, .int .i64 0, .slice none 0 0]), (X, 31, lT ({ h2.1.1 with de := false, ch := false }) D1 n c1)] ((wd.setCell ⟨X, 10, none⟩ (.bool false)).setCell ⟨X, 11, none⟩ (.bool false)) := ((S2).set 4 rfl 10 (.bool false)).set 4 rfl 11 (.bool false)
                          have hOe := hO2.but (w' := (wd.setCell ⟨X, 10, none⟩ (.bool false)).setCell ⟨X, 11, none⟩ (.bool false)) (S2.1 4 _ _ _ rfl).1 (by decide) (by decide) (fun b hb => (Below.heap_setCell _ ⟨X, 11, none⟩ _ b hb).trans (Below.heap_setCell _ ⟨X, 10, none⟩ _ b hb))
                          have RTe := RT2.but (w' := (wd.setCell ⟨X, 10, none⟩ (.bool false)).setCell ⟨X, 11, none⟩ (.bool false)) (S2.1 4 _ _ _ rfl).1 (by decide) (fun b hb => (Below.heap_setCell _ ⟨X, 11, none⟩ _ b hb).trans (Below.heap_setCell _ ⟨X, 10, none⟩ _ b hb))
                          generalize (wd.setCell ⟨X, 10, none⟩ (.bool false)).setCell ⟨X, 11, none⟩ (.bool false) = we at Se hOe RTe ⊢
                          clear S2 hO2 RT2 c10 f10 c11 f11
                          go_meet
                          exact ⟨Se, RTe, hOe⟩
                    case rest =>
                      as_aux_lemma =>
                        obtain ⟨S3, RT3, hO3⟩ := hcut
                        rename World => we
                        clear S2 RT2 hO2 hb1 HS0'
                        go_upto_region 26 with fail
                        go_wp2
                        go_loopw [12, 15] (fun o i wr => ∃ k : Nat, k ≤ n ∧ i = .int .i64 k ∧ ∃ D c, (D = none → c = 0) ∧ Hs w [(g3, 3, lI (flL holB L n)), (g2, 3, lI (flL (agB t) L n)), (g1, 3, lI (flL (delB t) L n)), (Y, 31, [.int .u64 0, .int .u64 0, .int .u32 0, .int .i64 0, .int .i64 0, .int .i64 0, .int .i64 0, .int .i64 0, .int .i64 0, .int .i64 0, .bool false, .bool false, .bool false, .int .i64 0, .bool false, .int .i64 0, .bool false, .int .i64 0, .slice none 0 0]), (X, 31, lT (foldS delayS (flagB (delB t) L) k s0).1.1 D n c)] wr ∧ RowT wr D (foldS delayS (flagB (delB t) L) k s0).1.2 ∧ OutsR wr w.heap.size o (foldS delayS (flagB (delB t) L) k s0).2) (fun _ i _ => n - (intOf i).toNat)
                        case atStart => exact ⟨0, Nat.zero_le _, rfl, D1, c1, HZ1.out, S3, RT3, hO3⟩
                        case round =>
                          as_aux_lemma =>
                            clear S3 RT3 hO3
                            obtain ⟨k, hk, rfl, D, c, hz, S, RT, hO⟩ := hrel
                            by_cases hkn : k < n
                            · obtain ⟨x, hx⟩ := po_at hL.out hkn
                              have hki : (k : Int) < (n : Int) := by omega
                              have hkz : ¬ (n : Int) ≤ (k : Int) := by omega
                              have HX := Lib.hid hx
                              have HFL := Lib.hid (show flagB (delB t) L k = (delB t) x from flag_at hx)
                              clear hx
                              have HKB := Lib.hid (HK1.out k)
                              have hfew := HF1.out k
                              have hstY := fold_yes (f := delayS) (fl := flagB (delB t) L) (s := s0) (k := k)
                              have hstN := fold_no (f := delayS) (fl := flagB (delB t) L) (s := s0) (k := k)
                              obtain ⟨s, hs⟩ : ∃ s, foldS delayS (flagB (delB t) L) k s0 = s := ⟨_, rfl⟩
                              rw [hs] at HKB hfew hstY hstN S RT hO
                              clear hs
                              have hlen0 : s.2.length ≤ 90000 := by
                                have h1 := hfew.1
                                have h2 : k * (n + 2) ≤ 100 * 102 := Nat.mul_le_mul (by omega) (by omega)
                                have h3 : n * (n + 2) ≤ 100 * 102 := Nat.mul_le_mul hf (by omega)
                                omega
                              clear hfew
                              have HSY := Lib.hid hstY
                              have HSN := Lib.hid hstN
                              clear hstY hstN
                              obtain ⟨p, hp2⟩ := po_at HKB.out.2.2.2.1 hkn
                              have HP2 := Lib.hid hp2
                              obtain ⟨g, e⟩ := RT.some hp2
                              subst e
                              clear hp2
                              have HKN := Lib.hid hkn
                              have fl0 := S.cell 2 k rfl (lI_at (flL_atn HX.out hL.out))
                              obtain ⟨fb, hfb⟩ : ∃ b, (delB t) x = b := ⟨_, rfl⟩
                              rw [hfb] at fl0
                              rw [hfb] at HFL
                              clear hfb
                              unfold fI at fl0
                              cases fb with
                              | false =>
                                have HST := Lib.hid (HSN.out HFL.out)
                                as_aux_lemma =>
                                  go_wp2
                                  go_roundw
                                  case rel => exact ⟨k + 1, hkn, by go_num, _, c, hz, by rw [HST.out]; exact ⟨S, RT, hO⟩⟩
                                  case measure => simp [intOf]; omega
                              | true =>
                                have HST := Lib.hid ((HSY.out HFL.out).trans (delay_is HP2.out))
                                obtain ⟨na, nb, nd, hnx⟩ : ∃ a b d, rnextI p.st = (a, b, d) := ⟨_, _, _, rfl⟩
                                have HNX := fun W => Lib.hid (rnext_is p.st na nb nd (Lib.hid hnx) W)
                                have hdoc := next_doc p
                                rw [hnx] at hdoc
                                dsimp only at hdoc
                                have HDOC := Lib.hid hdoc
                                clear hnx hdoc
                                go_upto_region 30 with fail
                                clear fl0
                                have c18 := S.cell 4 18 rfl rfl
                                have p1 := RT.cellq HP2.out 1 rfl
                                go_wp2_with fail
                                (with_reducible refine (HNX _).out.mono ?_); rintro e wz ⟨rfl, rfl⟩
                                clear c18 p1 HNX
                                go_upto_region 31 with fail
                                have SA := S.al rfl 63 []
                                have c18 := SA.cell 5 18 rfl rfl
                                have hp1 := Lib.hid (show PoAt (wr.alloc (.cells #[] 63)) (some ⟨g, 0, none⟩) wr.heap.size s.1.2 from RT.ports.below ((Below.refl wr.heap.size wr).alloc (Nat.le_refl _) (.cells #[] 63)) (Nat.le_refl _))
                                go_upto_region 32 with (at_builtin; refine append_po _ rfl (.tmp 191) (.tmp 193) rfl (.slice (some ⟨wr.heap.size, 0, none⟩) 0 0) rfl wr.heap.size ⟨rfl, .inr ⟨wr.heap.size, 0, #[], rfl, Nat.le_refl _, (MapKept.heap_alloc wr _).1, Nat.le_refl _, Nat.zero_le _, rfl, rfl⟩⟩ (some ⟨g, 0, none⟩) n c s.1.2 rfl _ hp1.out (Lib.hid HKB.out.2.2.2.1) (Lib.hid hz) hf2 (by simp) wr ((Below.refl _ _).alloc (Nat.le_refl _) _) ?_; intro D3 c3 w2 hown hb5 hz3; have SB := TS.take S (own_ts hb5 (Nat.le_refl _) hown); have hOB := hO.below hb5; clear c18 hown; have c18 := SB.hs.cell 4 18 rfl rfl; have f18 := SB.hs.thaw 4 18 rfl)
                                have SC : TS w [(g3, 3, lI (flL holB L n)), (g2, 3, lI (flL (agB t) L n)), (g1, 3, lI (flL (delB t) L n)), (Y, 31, [.int .u64 0, .int .u64 0, .int .u32 0, .int .i64 0, .int .i64 0, .int .i64 0, .int .i64 0, .int .i64 0, .int .i64 0, .int .i64 0, .bool false, .bool false, .bool false, .int .i64 0, .bool false, .int .i64 0, .bool false, .int .i64 0, .slice none 0 0]), (X, 31, lT s.1.1 D3 n c3)] D3 s.1.2 (w2.setCell ⟨X, 18, none⟩ (.slice D3 n c3)) := SB.set 4 rfl 18 (.slice D3 n c3)
                                have hOC := hOB.but (w' := w2.setCell ⟨X, 18, none⟩ (.slice D3 n c3)) (SB.hs.1 4 _ _ _ rfl).1 (by decide) (by decide) (fun b hb => Below.heap_setCell _ ⟨X, 18, none⟩ _ b hb)
                                generalize w2.setCell ⟨X, 18, none⟩ (.slice D3 n c3) = w3 at SC hOC ⊢
                                have HZ3 := Lib.hid hz3
                                clear S SA SB c18 f18 hp1 hb5 hz3 hO hOB RT
                                obtain ⟨g4, e, -⟩ := SC.at HP2.out
                                subst e
                                have c18 := SC.hs.cell 4 18 rfl rfl
                                have p1 := SC.port_cell HP2.out 1 rfl
                                obtain ⟨_, e', _, _, hfz⟩ := SC.at HP2.out
                                cases e'
                                have f1 := hfz (k * 15 + 1)
                                clear hfz
                                go_upto_region 33 with fail
                                have SD : TS w [(g3, 3, lI (flL holB L n)), (g2, 3, lI (flL (agB t) L n)), (g1, 3, lI (flL (delB t) L n)), (Y, 31, [.int .u64 0, .int .u64 0, .int .u32 0, .int .i64 0, .int .i64 0, .int .i64 0, .int .i64 0, .int .i64 0, .int .i64 0, .int .i64 0, .bool false, .bool false, .bool false, .int .i64 0, .bool false, .int .i64 0, .bool false, .int .i64 0, .slice none 0 0]), (X, 31, lT s.1.1 (some ⟨g4, 0, none⟩) n c3)] (some ⟨g4, 0, none⟩) (s.1.2.set k { p with st := na }) (w3.setCell ⟨g4, k * 15 + 1, none⟩ (.int .i64 na)) := SC.put (y := { p with st := na }) HP2.out 1 [.int .i64 na] (by simp) rfl
                                have hOD := hOC.port SC HP2.out (w' := w3.setCell ⟨g4, k * 15 + 1, none⟩ (.int .i64 na)) (fun b hb => Below.heap_setCell _ ⟨g4, k * 15 + 1, none⟩ _ b hb)
                                generalize w3.setCell ⟨g4, k * 15 + 1, none⟩ (.int .i64 na) = w4 at SD hOD ⊢
                                clear SC hOC c18 p1 f1
                                have HPD := Lib.hid (show (s.1.2.set k { p with st := na })[k]? = some { p with st := na } from List.getElem?_set_self (po_lt HP2.out))
                                obtain ⟨qn, hqn⟩ : ∃ q, (nextP p).1 = q := ⟨_, rfl⟩
                                have HQN := Lib.hid hqn
                                go_upto_if 203 with fail
                                try simp only [Act.put]
                                go_cut [] (fun wx => TS w [(g3, 3, lI (flL holB L n)), (g2, 3, lI (flL (agB t) L n)), (g1, 3, lI (flL (delB t) L n)), (Y, 31, [.int .u64 0, .int .u64 0, .int .u32 0, .int .i64 0, .int .i64 0, .int .i64 0, .int .i64 0, .int .i64 0, .int .i64 0, .int .i64 0, .bool false, .bool false, .bool false, .int .i64 0, .bool false, .int .i64 0, .bool false, .int .i64 0, .slice none 0 0]), (X, 31, lT s.1.1 (some ⟨g4, 0, none⟩) n c3)] (some ⟨g4, 0, none⟩) (s.1.2.set k qn) wx ∧ OutsR wx w.heap.size u12 s.2)
                                case first =>
                                  as_aux_lemma =>
                                    by_cases hnb : nb = 1
                                    · subst hnb
                                      have hdoc := HDOC.out
                                      rw [if_pos rfl] at hdoc
                                      have c18 := SD.hs.cell 4 18 rfl rfl
                                      have hth : w4.there g4 (k * 15 + 11) ([.bool true, .int .i64 0] : List Value).toArray.size := SD.there2 HPD.out 11 (by decide)
                                      go_wp2_with (with_reducible refine wpList_store_mid rfl 28 (.tmp 209) _ rfl g4 (k * 15 + 11) ([.bool true, .int .i64 0] : List Value).toArray (by kernel_rfl) (by kernel_rfl) hth (by kernel_rfl) (by kernel_rfl) ?_)
                                      go_meet
                                      have SE := SD.put (y := qn) HPD.out 11 [.bool true, .int .i64 0] (by simp) (by rw [← HQN.out, hdoc]; rfl)
                                      rw [List.set_set] at SE
                                      have hOE := hOD.port SD HPD.out (w' := w4.setCells g4 (k * 15 + 11) [.bool true, .int .i64 0]) (fun b hb => setCells_other _ _ _ b hb)
                                      exact ⟨SE, hOE⟩
                                    · have hnb2 : (nb == 1) = false := by simpa using hnb
                                      have hdoc := HDOC.out
                                      rw [if_neg hnb] at hdoc
                                      go_wp2_with fail
                                      go_meet
                                      have e : ({ p with st := na } : Po) = qn := by rw [← HQN.out, hdoc]
                                      rw [e] at SD
                                      exact ⟨SD, hOD⟩
                                case rest =>
                                  as_aux_lemma =>
                                    obtain ⟨SE, hOE⟩ := hcut
                                    rename World => w5
                                    clear SD hOD HPD hqn
                                    have HQ2 := Lib.hid (show (nextP p).2 = decide (nd = 1) by rw [HDOC.out])
                                    have HPE := Lib.hid (show (s.1.2.set k qn)[k]? = some qn from List.getElem?_set_self (po_lt HP2.out))
                                    have HLE := Lib.hid (show (s.1.2.set k qn).length = n from set_len HKB.out.2.2.2.1)
                                    clear HDOC
                                    have SEh := SE.hs
                                    have RTE := SE.toR
                                    clear SE
                                    go_upto_region 36 with fail
                                    go_wp2
                                    go_loopw [19, 20] (fun b i wr => ∃ j : Nat, j ≤ n ∧ i = .int .i64 j ∧ b = .bool (tellsL s.1.1.ow j (s.1.2.set k qn)) ∧ Hs w [(g3, 3, lI (flL holB L n)), (g2, 3, lI (flL (agB t) L n)), (g1, 3, lI (flL (delB t) L n)), (Y, 31, [.int .u64 0, .int .u64 0, .int .u32 0, .int .i64 0, .int .i64 0, .int .i64 0, .int .i64 0, .int .i64 0, .int .i64 0, .int .i64 0, .bool false, .bool false, .bool false, .int .i64 0, .bool false, .int .i64 0, .bool false, .int .i64 0, .slice none 0 0]), (X, 31, lT s.1.1 (some ⟨g4, 0, none⟩) n c3)] wr ∧ RowT wr (some ⟨g4, 0, none⟩) (s.1.2.set k qn) ∧ OutsR wr w.heap.size u12 s.2) (fun _ i _ => n - (intOf i).toNat)
                                    case atStart => exact ⟨0, Nat.zero_le _, rfl, rfl, SEh, RTE, hOE⟩
                                    case round =>
                                      as_aux_lemma =>
                                        clear SEh RTE hOE
                                        obtain ⟨j, hj, rfl, rfl, S, RT, hO⟩ := hrel
                                        by_cases hjn : j < n
                                        · as_aux_lemma =>
                                            obtain ⟨z, hz2⟩ := po_at HLE.out hjn
                                            have hji : (j : Int) < (n : Int) := by omega
                                            have hjz : ¬ (n : Int) ≤ (j : Int) := by omega
                                            have hst : tellsL s.1.1.ow (j + 1) (s.1.2.set k qn) = (tellsL s.1.1.ow j (s.1.2.set k qn) || decide (z.hb = s.1.1.ow)) := by show (tellsL s.1.1.ow j (s.1.2.set k qn) || _) = _; rw [hz2]
                                            have c18 := S.cell 4 18 rfl rfl
                                            have c0 := S.cell 4 0 rfl rfl
                                            have p5 := RT.cellq hz2 5 rfl
                                            obtain ⟨tb, htb⟩ : ∃ b, tellsL s.1.1.ow j (s.1.2.set k qn) = b := ⟨_, rfl⟩
                                            rw [htb] at hst ⊢
                                            have HST2 := Lib.hid hst
                                            obtain ⟨eb, heb⟩ : ∃ b, (z.hb == s.1.1.ow) = b := ⟨_, rfl⟩
                                            have HEB := Lib.hid (show decide (z.hb = s.1.1.ow) = eb by rw [← heb]; rw [Bool.eq_iff_iff]; simp)
                                            clear hst htb hz2
                                            have hfin : ∀ b : Bool, tellsL s.1.1.ow (j + 1) (s.1.2.set k qn) = b → True := fun _ _ => trivial
                                            clear hfin
                                            cases tb with
                                            | true =>
                                              go_upto_region 39 with fail
                                              go_quiet (fail)
                                              have B5 : Below wr.heap.size wr (wr.drewN nq) := ⟨rfl, rfl, rfl, Nat.le_refl _, fun _ _ => rfl⟩
                                              have S' := S.below B5
                                              have RT' := RT.below B5
                                              have hO' := hO.below B5
                                              generalize wr.drewN nq = w6 at S' RT' hO' ⊢
                                              clear S RT hO B5 c18 c0 p5 heb
                                              go_wp2
                                              go_roundw
                                              case rel => exact ⟨j + 1, hjn, by go_num, by rw [HST2.out, HEB.out]; rfl, S', RT', hO'⟩
                                              case measure => simp [intOf]; omega
                                            | false =>
                                              cases eb with
                                              | true =>
                                                go_upto_region 39 with fail
                                                go_quiet (fail)
                                                have B5 : Below wr.heap.size wr (wr.drewN nq) := ⟨rfl, rfl, rfl, Nat.le_refl _, fun _ _ => rfl⟩
                                                have S' := S.below B5
                                                have RT' := RT.below B5
                                                have hO' := hO.below B5
                                                generalize wr.drewN nq = w6 at S' RT' hO' ⊢
                                                clear S RT hO B5 c18 c0 p5 heb
                                                go_wp2
                                                go_roundw
                                                case rel => exact ⟨j + 1, hjn, by go_num, by rw [HST2.out, HEB.out]; rfl, S', RT', hO'⟩
                                                case measure => simp [intOf]; omega
                                              | false =>
                                                go_upto_region 39 with fail
                                                go_quiet (fail)
                                                have B5 : Below wr.heap.size wr (wr.drewN nq) := ⟨rfl, rfl, rfl, Nat.le_refl _, fun _ _ => rfl⟩
                                                have S' := S.below B5
                                                have RT' := RT.below B5
                                                have hO' := hO.below B5
                                                generalize wr.drewN nq = w6 at S' RT' hO' ⊢
                                                clear S RT hO B5 c18 c0 p5 heb
                                                go_wp2
                                                go_roundw
                                                case rel => exact ⟨j + 1, hjn, by go_num, by rw [HST2.out, HEB.out]; rfl, S', RT', hO'⟩
                                                case measure => simp [intOf]; omega
                                        · have hje : j = n := by omega
                                          rw [hje]
                                          clear hje hjn hj
                                          clear j
                                          have hjz : ¬ (n : Int) < (n : Int) := by omega
                                          obtain ⟨tb, htb⟩ : ∃ b, tellsL s.1.1.ow n (s.1.2.set k qn) = b := ⟨_, rfl⟩
                                          rw [htb]
                                          have HTB2 := Lib.hid htb
                                          clear htb
                                          obtain ⟨db, hdb⟩ : ∃ b, (nd == 1) = b := ⟨_, rfl⟩
                                          have HDB := Lib.hid (show decide (nd = 1) = db by rw [← hdb]; rw [Bool.eq_iff_iff]; simp)
                                          have hkn := HKN.out
                                          have HGO := Lib.hid (show goR s.1.1 s.1.2 k p = if db = true ∧ tb = true then ((detT s.1.1, s.1.2.set k qn), detO s.1.1 n) else ((s.1.1, s.1.2.set k qn), []) by unfold goR; rw [HQN.out, HQ2.out, HDB.out, HLE.out, HTB2.out, show s.1.2.length = n from HKB.out.2.2.2.1])
                                          by_cases hgo : db = true ∧ tb = true
                                          · as_aux_lemma =>
                                              obtain ⟨rfl, rfl⟩ := hgo
                                              have hg := HGO.out
                                              rw [if_pos ⟨rfl, rfl⟩] at hg
                                              have HST2 := Lib.hid (show foldS delayS (flagB (delB t) L) (k + 1) s0 = ((detT s.1.1, s.1.2.set k qn), s.2 ++ detO s.1.1 n) by rw [HST.out, hg])
                                              clear hg
                                              have hfew := det_few s.1.1 n
                                              have hlen : s.2.length + (detO s.1.1 n).length ≤ 100000 := by omega
                                              clear hfew
                                              go_upto_region 41 with fail
                                              clear hdb
                                              have RTk := RT
                                              have HC := Lib.hid (rdetect_is s.1.1 (some ⟨g4, 0, none⟩) n c3 (Lib.hid HKB.out.1) wr)
                                              have hx := S.bk 4 rfl
                                              go_wp2_with (with_reducible refine wpList_load_row rfl 31 (.tmp 1) rfl X (by kernel_rfl) _ _ (0, 0) _ hx Tryz.underlying31 rfl (by kernel_rfl) ?_)
                                              (with_reducible refine HC.out.mono ?_); rintro e ha ⟨v3, rfl, hQa, ba⟩
                                              have RTa := RTk.below ba
                                              have hza : (some (⟨g4, 0, none⟩ : Addr)) = none → c3 = 0 := fun e => by cases e
                                              have Sa := S.below ba
                                              have hOa := hO.below ba
                                              have HZa := Lib.hid hza
                                              have HWQ := Lib.hid (show w.heap.size ≤ wr.heap.size from S.old.size)
                                              clear S hO RT RTk hx HC hza ba
                                              go_upto_region 42 with (with_reducible refine wpList_store_row rfl 31 (.tmp 21) (.tmp 236) rfl ha.heap.size (lT (detT s.1.1) (some ⟨g4, 0, none⟩) n c3).toArray (by kernel_rfl) (by kernel_rfl) _ _ (heap_alloc_new _ _) (by kernel_rfl) (by kernel_rfl) (by kernel_rfl) ?_)
                                              rw [alloc_row]
                                              have bN := new_below ha (.cells (lT (detT s.1.1) (some ⟨g4, 0, none⟩) n c3).toArray 31)
                                              have Sb := Sa.al rfl 31 (lT (detT s.1.1) (some ⟨g4, 0, none⟩) n c3)
                                              have hOb := hOa.below bN
                                              have hQb := hQa.below bN
                                              have RTb := RTa.below bN
                                              obtain ⟨V, hV⟩ : ∃ q, ha.heap.size = q := ⟨_, rfl⟩
                                              rw [hV] at Sb ⊢
                                              obtain ⟨hb, hwv⟩ : ∃ y, ha.alloc (.cells (lT (detT s.1.1) (some ⟨g4, 0, none⟩) n c3).toArray 31) = y := ⟨_, rfl⟩
                                              rw [hwv] at Sb hOb hQb RTb ⊢
                                              clear hwv hV bN Sa hOa hQa RTa
                                              have hx := Sb.bk 0 rfl
                                              have hy := Sb.bk 5 rfl
                                              go_upto_region 43 with (first | (with_reducible refine wpList_load_row rfl 31 (.tmp 21) rfl V (by kernel_rfl) _ _ (0, 0) _ hx Tryz.underlying31 rfl (by kernel_rfl) ?_) | (with_reducible refine wpList_store_row rfl 31 (.tmp 1) (.tmp 238) rfl X (lT (detT s.1.1) (some ⟨g4, 0, none⟩) n c3).toArray (by kernel_rfl) (by kernel_rfl) _ _ hy (by kernel_rfl) (by kernel_rfl) (by kernel_rfl) ?_))
                                              have Sc : Hs w [(g3, 3, lI (flL holB L n)), (g2, 3, lI (flL (agB t) L n)), (g1, 3, lI (flL (delB t) L n)), (Y, 31, [.int .u64 0, .int .u64 0, .int .u32 0, .int .i64 0, .int .i64 0, .int .i64 0, .int .i64 0, .int .i64 0, .int .i64 0, .int .i64 0, .bool false, .bool false, .bool false, .int .i64 0, .bool false, .int .i64 0, .bool false, .int .i64 0, .slice none 0 0]), (X, 31, lT (detT s.1.1) (some ⟨g4, 0, none⟩) n c3)] (hb.setRow X (lT (detT s.1.1) (some ⟨g4, 0, none⟩) n c3).toArray) := (Sb.row 5 rfl (lT (detT s.1.1) (some ⟨g4, 0, none⟩) n c3)).tail
                                              have hOc := hOb.store Sb 5 rfl (lT (detT s.1.1) (some ⟨g4, 0, none⟩) n c3).toArray
                                              have hQc := hQb.store Sb 5 rfl (lT (detT s.1.1) (some ⟨g4, 0, none⟩) n c3).toArray
                                              have RTc := RTb.row (cs := lT (detT s.1.1) (some ⟨g4, 0, none⟩) n c3) (Sb.1 5 _ _ _ rfl).1
                                              generalize hb.setRow X (lT (detT s.1.1) (some ⟨g4, 0, none⟩) n c3).toArray = hc at Sc hOc hQc RTc ⊢
                                              clear Sb hOb hQb RTb hx hy
                                              have hbd : w.heap.size ≤ hc.heap.size := Sc.old.size
                                              have hwq := HWQ.out
                                              obtain ⟨_, _, hown⟩ := hOc.own
                                              go_wp2_with (at_builtin; refine append_outs _ rfl (.tmp 239) (.tmp 240) rfl w.heap.size wr.heap.size u12 v3 s.2 (detO s.1.1 n) (by kernel_rfl) (by kernel_rfl) hOc hQc hwq hlen hbd hc (Below.refl _ _) ?_; intro v4 hd hOd hbz gr; have Sd := Sc.grownT hown gr (by intro y hy; simp only [List.mem_cons, List.not_mem_nil, or_false] at hy; rcases hy with rfl | rfl | rfl | rfl | rfl <;> (dsimp only; decide)); have RTd := RTc.grownO hown gr; clear Sc RTc hOc hQc hown gr hbz hbd hwq)
                                              exact ⟨⟨k + 1, hkn, by go_num, _, c3, HZa.out, by rw [HST2.out]; exact ⟨Sd, RTd, hOd⟩⟩, by simp [intOf]; omega⟩
                                          · as_aux_lemma =>
                                              have hg := HGO.out
                                              rw [if_neg hgo] at hg
                                              have HST := Lib.hid (show foldS delayS (flagB (delB t) L) (k + 1) s0 = ((s.1.1, s.1.2.set k qn), s.2) by rw [HST.out, hg, List.append_nil])
                                              clear hg
                                              have hpk : ∀ W : World, True := fun _ => trivial
                                              clear hpk
                                              cases db with
                                              | false =>
                                                go_wp2
                                                go_roundw
                                                case rel => exact ⟨k + 1, hkn, by go_num, (some ⟨g4, 0, none⟩), c3, (fun e => by cases e), by rw [HST.out]; exact ⟨S, RT, hO⟩⟩
                                                case measure => simp [intOf]; omega
                                              | true =>
                                                cases tb with
                                                | true => exact absurd ⟨rfl, rfl⟩ hgo
                                                | false =>
                                                  go_wp2
                                                  go_roundw
                                                  case rel => exact ⟨k + 1, hkn, by go_num, (some ⟨g4, 0, none⟩), c3, (fun e => by cases e), by rw [HST.out]; exact ⟨S, RT, hO⟩⟩
                                                  case measure => simp [intOf]; omega
                            · have hke : k = n := by omega
                              rw [hke] at S RT hO ⊢
                              rw [HS1.out] at S RT hO
                              clear hke hk hkn
                              clear k
                              have hkz : ¬ (n : Int) < (n : Int) := by omega
                              have HZ4 := Lib.hid hz
                              go_upto_region 44 with fail
                              clear hkz
                              go_wp2
                              go_loopw [12, 23] (fun o i wr => ∃ k : Nat, k ≤ n ∧ i = .int .i64 k ∧ ∃ D c, (D = none → c = 0) ∧ Hs w [(g3, 3, lI (flL holB L n)), (g2, 3, lI (flL (agB t) L n)), (g1, 3, lI (flL (delB t) L n)), (Y, 31, [.int .u64 0, .int .u64 0, .int .u32 0, .int .i64 0, .int .i64 0, .int .i64 0, .int .i64 0, .int .i64 0, .int .i64 0, .int .i64 0, .bool false, .bool false, .bool false, .int .i64 0, .bool false, .int .i64 0, .bool false, .int .i64 0, .slice none 0 0]), (X, 31, lT (foldS ageS (flagB (agB t) L) k s1).1.1 D n c)] wr ∧ RowT wr D (foldS ageS (flagB (agB t) L) k s1).1.2 ∧ OutsR wr w.heap.size o (foldS ageS (flagB (agB t) L) k s1).2) (fun _ i _ => n - (intOf i).toNat)
                              case atStart => exact ⟨0, Nat.zero_le _, rfl, _, _, HZ4.out, S, RT, hO⟩
                              case round =>
                                as_aux_lemma =>
                                  clear S RT hO hz HZ4
                                  obtain ⟨k, hk, rfl, D, c, hz, S, RT, hO⟩ := hrel
                                  by_cases hkn : k < n
                                  · obtain ⟨x, hx⟩ := po_at hL.out hkn
                                    have hki : (k : Int) < (n : Int) := by omega
                                    have hkz : ¬ (n : Int) ≤ (k : Int) := by omega
                                    have HX := Lib.hid hx
                                    have HFL := Lib.hid (show flagB (agB t) L k = (agB t) x from flag_at hx)
                                    clear hx
                                    have HKB := Lib.hid (HK2.out k)
                                    have hfew := HF2.out k
                                    have hstY := fold_yes (f := ageS) (fl := flagB (agB t) L) (s := s1) (k := k)
                                    have hstN := fold_no (f := ageS) (fl := flagB (agB t) L) (s := s1) (k := k)
                                    obtain ⟨s, hs⟩ : ∃ s, foldS ageS (flagB (agB t) L) k s1 = s := ⟨_, rfl⟩
                                    rw [hs] at HKB hfew hstY hstN S RT hO
                                    clear hs
                                    have hlen0 : s.2.length ≤ 90000 := by
                                      have h1 := hfew.1
                                      have h2 : k * (n + 2) ≤ 100 * 102 := Nat.mul_le_mul (by omega) (by omega)
                                      have h3 : n * (n + 2) ≤ 100 * 102 := Nat.mul_le_mul hf (by omega)
                                      omega
                                    clear hfew
                                    have HSY := Lib.hid hstY
                                    have HSN := Lib.hid hstN
                                    clear hstY hstN
                                    obtain ⟨p, hp2⟩ := po_at HKB.out.2.2.2.1 hkn
                                    have HP2 := Lib.hid hp2
                                    obtain ⟨g, e⟩ := RT.some hp2
                                    subst e
                                    clear hp2
                                    have HKN := Lib.hid hkn
                                    have fl0 := S.cell 1 k rfl (lI_at (flL_atn HX.out hL.out))
                                    obtain ⟨fb, hfb⟩ : ∃ b, (agB t) x = b := ⟨_, rfl⟩
                                    rw [hfb] at fl0
                                    rw [hfb] at HFL
                                    clear hfb
                                    unfold fI at fl0
                                    cases fb with
                                    | false =>
                                      have HST := Lib.hid (HSN.out HFL.out)
                                      as_aux_lemma =>
                                        go_wp2
                                        go_roundw
                                        case rel => exact ⟨k + 1, hkn, by go_num, _, c, hz, by rw [HST.out]; exact ⟨S, RT, hO⟩⟩
                                        case measure => simp [intOf]; omega
                                    | true =>
                                      as_aux_lemma =>
                                        have HST := Lib.hid ((HSY.out HFL.out).trans (age_is16 HP2.out))
                                        obtain ⟨rb, hrb⟩ : ∃ b, (s.1.1.ro == s.1.1.ow) = b := ⟨_, rfl⟩
                                        have HRB := Lib.hid hrb
                                        have k1 := S.cell 4 1 rfl rfl
                                        have k0 := S.cell 4 0 rfl rfl
                                        go_upto_region 49 with fail
                                        clear fl0 k1 k0 hrb
                                        have SA := S.al rfl 63 []
                                        have c18 := SA.cell 5 18 rfl rfl
                                        have hp1 := Lib.hid (show PoAt (wr.alloc (.cells #[] 63)) (some ⟨g, 0, none⟩) wr.heap.size s.1.2 from RT.ports.below ((Below.refl wr.heap.size wr).alloc (Nat.le_refl _) (.cells #[] 63)) (Nat.le_refl _))
                                        go_upto_region 50 with (at_builtin; refine append_po _ rfl (.tmp 257) (.tmp 259) rfl (.slice (some ⟨wr.heap.size, 0, none⟩) 0 0) rfl wr.heap.size ⟨rfl, .inr ⟨wr.heap.size, 0, #[], rfl, Nat.le_refl _, (MapKept.heap_alloc wr _).1, Nat.le_refl _, Nat.zero_le _, rfl, rfl⟩⟩ (some ⟨g, 0, none⟩) n c s.1.2 rfl _ hp1.out (Lib.hid HKB.out.2.2.2.1) (Lib.hid hz) hf2 (by simp) wr ((Below.refl _ _).alloc (Nat.le_refl _) _) ?_; intro D3 c3 w2 hown hb5 hz3; have SB := TS.take S (own_ts hb5 (Nat.le_refl _) hown); have hOB := hO.below hb5; clear c18 hown; have c18 := SB.hs.cell 4 18 rfl rfl; have f18 := SB.hs.thaw 4 18 rfl)
                                        have SC : TS w [(g3, 3, lI (flL holB L n)), (g2, 3, lI (flL (agB t) L n)), (g1, 3, lI (flL (delB t) L n)), (Y, 31, [.int .u64 0, .int .u64 0, .int .u32 0, .int .i64 0, .int .i64 0, .int .i64 0, .int .i64 0, .int .i64 0, .int .i64 0, .int .i64 0, .bool false, .bool false, .bool false, .int .i64 0, .bool false, .int .i64 0, .bool false, .int .i64 0, .slice none 0 0]), (X, 31, lT s.1.1 D3 n c3)] D3 s.1.2 (w2.setCell ⟨X, 18, none⟩ (.slice D3 n c3)) := SB.set 4 rfl 18 (.slice D3 n c3)
                                        have hOC := hOB.but (w' := w2.setCell ⟨X, 18, none⟩ (.slice D3 n c3)) (SB.hs.1 4 _ _ _ rfl).1 (by decide) (by decide) (fun b hb => Below.heap_setCell _ ⟨X, 18, none⟩ _ b hb)
                                        generalize w2.setCell ⟨X, 18, none⟩ (.slice D3 n c3) = w3 at SC hOC ⊢
                                        have HZ3 := Lib.hid hz3
                                        clear S SA SB c18 f18 hp1 hb5 hz3 hO hOB RT
                                        obtain ⟨g4, e, -⟩ := SC.at HP2.out
                                        subst e
                                        obtain ⟨z, hz9⟩ : ∃ z, becomeP s.1.1 p = z := ⟨_, rfl⟩
                                        have HZ9 := Lib.hid hz9
                                        try simp only [Act.put]
                                        go_cut [] (fun wx => TS w [(g3, 3, lI (flL holB L n)), (g2, 3, lI (flL (agB t) L n)), (g1, 3, lI (flL (delB t) L n)), (Y, 31, [.int .u64 0, .int .u64 0, .int .u32 0, .int .i64 0, .int .i64 0, .int .i64 0, .int .i64 0, .int .i64 0, .int .i64 0, .int .i64 0, .bool false, .bool false, .bool false, .int .i64 0, .bool false, .int .i64 0, .bool false, .int .i64 0, .slice none 0 0]), (X, 31, lT s.1.1 (some ⟨g4, 0, none⟩) n c3)] (some ⟨g4, 0, none⟩) (s.1.2.set k z) wx ∧ OutsR wx w.heap.size u12 s.2)
                                        case first =>
                                          as_aux_lemma =>
                                            refine wp_region_held_drew (S := (fun w' => Bk w' X 31 (lT s.1.1 (some ⟨g4, 0, none⟩) n c3))) (by kernel_rfl) ((SC.hs.1 4 _ _ _ rfl).1) (fun hHeld => ?_)
                                            have Sd := SC.below ((Below.refl _ _).drew)
                                            have hOd := hOC.below ((Below.refl _ _).drew)
                                            obtain ⟨vd, hvd⟩ : ∃ y, w3.drew = y := ⟨_, rfl⟩
                                            rw [hvd] at Sd hOd hHeld ⊢
                                            clear hvd SC hOC
                                            refine wpAnyH_take (i := 0) (v := ?_) rfl (by kernel_rfl) (by kernel_rfl) (by kernel_rfl) (fun _ _ _ h => h) (Or.inl ⟨by kernel_rfl, ?_⟩) (by assumption) ?_
                                            rotate_left
                                            · intro w' hSw; (try dsimp only at hSw); go_simp; with_reducible rfl
                                            try simp only [Act.put, List.getElem_toArray, List.getElem_cons_succ, List.getElem_cons_zero, List.setIfInBounds_toArray, List.set_cons_succ, List.set_cons_zero]
                                            refine wpAnyH_take (i := 1) (v := ?_) rfl (by kernel_rfl) (by kernel_rfl) (by kernel_rfl) (fun _ _ _ h => h) (Or.inl ⟨by kernel_rfl, ?_⟩) (by assumption) ?_
                                            rotate_left
                                            · intro w' hSw; (try dsimp only at hSw); have c0 : w'.cell? ⟨X, 18, none⟩ = some (.slice (some ⟨g4, 0, none⟩) n c3) := Bk.cell hSw 18; go_simp; with_reducible rfl
                                            try simp only [Act.put, List.getElem_toArray, List.getElem_cons_succ, List.getElem_cons_zero, List.setIfInBounds_toArray, List.set_cons_succ, List.set_cons_zero]
                                            refine wpAnyH_take (i := 2) (v := ?_) rfl (by kernel_rfl) (by kernel_rfl) (by kernel_rfl) (fun _ _ _ h => h) (Or.inl ⟨by kernel_rfl, ?_⟩) (by assumption) ?_
                                            rotate_left
                                            · intro w' hSw; (try dsimp only at hSw); go_simp; with_reducible rfl
                                            try simp only [Act.put, List.getElem_toArray, List.getElem_cons_succ, List.getElem_cons_zero, List.setIfInBounds_toArray, List.set_cons_succ, List.set_cons_zero]
                                            refine wpAnyH_take (i := 3) (v := ?_) rfl (by kernel_rfl) (by kernel_rfl) (by kernel_rfl) (fun _ _ _ h => h) (Or.inl ⟨by kernel_rfl, ?_⟩) (by assumption) ?_
                                            rotate_left
                                            · intro w' hSw; (try dsimp only at hSw); go_simp; with_reducible rfl
                                            try simp only [Act.put, List.getElem_toArray, List.getElem_cons_succ, List.getElem_cons_zero, List.setIfInBounds_toArray, List.set_cons_succ, List.set_cons_zero]
                                            refine wpAnyH_take (i := 4) (v := ?_) rfl (by kernel_rfl) (by kernel_rfl) (by kernel_rfl) (fun _ _ _ h => h) (Or.inl ⟨by kernel_rfl, ?_⟩) (by assumption) ?_
                                            rotate_left
                                            · intro w' hSw; (try dsimp only at hSw); have c0 : w'.cell? ⟨X, 1, none⟩ = some (.int .u64 s.1.1.ro) := Bk.cell hSw 1; go_simp; with_reducible rfl
                                            try simp only [Act.put, List.getElem_toArray, List.getElem_cons_succ, List.getElem_cons_zero, List.setIfInBounds_toArray, List.set_cons_succ, List.set_cons_zero]
                                            refine wpAnyH_take (i := 5) (v := ?_) rfl (by kernel_rfl) (by kernel_rfl) (by kernel_rfl) (fun _ _ _ h => h) (Or.inl ⟨by kernel_rfl, ?_⟩) (by assumption) ?_
                                            rotate_left
                                            · intro w' hSw; (try dsimp only at hSw); go_simp; with_reducible rfl
                                            try simp only [Act.put, List.getElem_toArray, List.getElem_cons_succ, List.getElem_cons_zero, List.setIfInBounds_toArray, List.set_cons_succ, List.set_cons_zero]
                                            refine wpAnyH_take (i := 6) (v := ?_) rfl (by kernel_rfl) (by kernel_rfl) (by kernel_rfl) (fun _ _ _ h => h) (Or.inl ⟨by kernel_rfl, ?_⟩) (by assumption) ?_
                                            rotate_left
                                            · intro w' hSw; (try dsimp only at hSw); have c0 : w'.cell? ⟨X, 2, none⟩ = some (.int .u32 s.1.1.co) := Bk.cell hSw 2; go_simp; with_reducible rfl
                                            try simp only [Act.put, List.getElem_toArray, List.getElem_cons_succ, List.getElem_cons_zero, List.setIfInBounds_toArray, List.set_cons_succ, List.set_cons_zero]
                                            refine wpAnyH_take (i := 7) (v := ?_) rfl (by kernel_rfl) (by kernel_rfl) (by kernel_rfl) (fun _ _ _ h => h) (Or.inl ⟨by kernel_rfl, ?_⟩) (by assumption) ?_
                                            rotate_left
                                            · intro w' hSw; (try dsimp only at hSw); go_simp; with_reducible rfl
                                            try simp only [Act.put, List.getElem_toArray, List.getElem_cons_succ, List.getElem_cons_zero, List.setIfInBounds_toArray, List.set_cons_succ, List.set_cons_zero]
                                            refine wpAnyH_take (i := 8) (v := ?_) rfl (by kernel_rfl) (by kernel_rfl) (by kernel_rfl) (fun _ _ _ h => h) (Or.inl ⟨by kernel_rfl, ?_⟩) (by assumption) ?_
                                            rotate_left
                                            · intro w' hSw; (try dsimp only at hSw); have c0 : w'.cell? ⟨X, 0, none⟩ = some (.int .u64 s.1.1.ow) := Bk.cell hSw 0; go_simp; with_reducible rfl
                                            try simp only [Act.put, List.getElem_toArray, List.getElem_cons_succ, List.getElem_cons_zero, List.setIfInBounds_toArray, List.set_cons_succ, List.set_cons_zero]
                                            refine wpAnyH_take (i := 9) (v := ?_) rfl (by kernel_rfl) (by kernel_rfl) (by kernel_rfl) (fun _ _ _ h => h) (Or.inl ⟨by kernel_rfl, ?_⟩) (by assumption) ?_
                                            rotate_left
                                            · intro w' hSw; (try dsimp only at hSw); go_simp; with_reducible rfl
                                            try simp only [Act.put, List.getElem_toArray, List.getElem_cons_succ, List.getElem_cons_zero, List.setIfInBounds_toArray, List.set_cons_succ, List.set_cons_zero]
                                            refine wpAnyH_take (i := 10) (v := ?_) rfl (by kernel_rfl) (by kernel_rfl) (by kernel_rfl) (fun _ _ _ h => h) (Or.inl ⟨by kernel_rfl, ?_⟩) (by assumption) ?_
                                            rotate_left
                                            · intro w' hSw; (try dsimp only at hSw); have c0 : w'.cell? ⟨X, 18, none⟩ = some (.slice (some ⟨g4, 0, none⟩) n c3) := Bk.cell hSw 18; go_simp; with_reducible rfl
                                            try simp only [Act.put, List.getElem_toArray, List.getElem_cons_succ, List.getElem_cons_zero, List.setIfInBounds_toArray, List.set_cons_succ, List.set_cons_zero]
                                            refine wpAnyH_take (i := 11) (v := ?_) rfl (by kernel_rfl) (by kernel_rfl) (by kernel_rfl) (fun _ _ _ h => h) (Or.inl ⟨by kernel_rfl, ?_⟩) (by assumption) ?_
                                            rotate_left
                                            · intro w' hSw; (try dsimp only at hSw); go_simp; with_reducible rfl
                                            try simp only [Act.put, List.getElem_toArray, List.getElem_cons_succ, List.getElem_cons_zero, List.setIfInBounds_toArray, List.set_cons_succ, List.set_cons_zero]
                                            refine wpAnyH_take (i := 12) (v := ?_) rfl (by kernel_rfl) (by kernel_rfl) (by kernel_rfl) (fun _ _ _ h => h) (Or.inl ⟨by kernel_rfl, ?_⟩) (by assumption) ?_
                                            rotate_left
                                            · intro w' hSw; (try dsimp only at hSw); go_simp; with_reducible rfl
                                            try simp only [Act.put, List.getElem_toArray, List.getElem_cons_succ, List.getElem_cons_zero, List.setIfInBounds_toArray, List.set_cons_succ, List.set_cons_zero]
                                            refine wpAnyH_take (i := 13) (v := ?_) rfl (by kernel_rfl) (by kernel_rfl) (by kernel_rfl) (fun _ _ _ h => h) (Or.inl ⟨by kernel_rfl, ?_⟩) (by assumption) ?_
                                            rotate_left
                                            · intro w' hSw; (try dsimp only at hSw); go_simp; with_reducible rfl
                                            try simp only [Act.put, List.getElem_toArray, List.getElem_cons_succ, List.getElem_cons_zero, List.setIfInBounds_toArray, List.set_cons_succ, List.set_cons_zero]
                                            refine wpAnyH_ready (rs := [14]) (by kernel_rfl) (by simp) ?_
                                            refine AllReadyH.cons rfl (fun K hK => ?_) AllReadyH.nil
                                            have p0 : vd.cell? ⟨g4, k * 15, none⟩ = some (.int .u16 p.id) := Sd.port_cell HP2.out 0 rfl
                                            go_simp
                                            refine hK.out _ _ ((Sd.hs.1 4 _ _ _ rfl).1) (fun hHeld => ?_)
                                            clear hK K p0
                                            try simp only [Act.put, List.getElem_toArray, List.getElem_cons_succ, List.getElem_cons_zero, List.setIfInBounds_toArray, List.set_cons_succ, List.set_cons_zero]
                                            refine wpAnyH_take (i := 15) (v := ?_) rfl (by kernel_rfl) (by kernel_rfl) (by kernel_rfl) (fun _ _ _ h => h) (Or.inl ⟨by kernel_rfl, ?_⟩) (by assumption) ?_
                                            rotate_left
                                            · intro w' hSw; (try dsimp only at hSw); go_simp; with_reducible rfl
                                            try simp only [Act.put, List.getElem_toArray, List.getElem_cons_succ, List.getElem_cons_zero, List.setIfInBounds_toArray, List.set_cons_succ, List.set_cons_zero]
                                            refine wpAnyH_take (i := 16) (v := ?_) rfl (by kernel_rfl) (by kernel_rfl) (by kernel_rfl) (fun _ _ _ h => h) (Or.inl ⟨by kernel_rfl, ?_⟩) (by assumption) ?_
                                            rotate_left
                                            · intro w' hSw; (try dsimp only at hSw); go_simp; with_reducible rfl
                                            try simp only [Act.put, List.getElem_toArray, List.getElem_cons_succ, List.getElem_cons_zero, List.setIfInBounds_toArray, List.set_cons_succ, List.set_cons_zero]
                                            refine wpAnyH_take (i := 17) (v := ?_) rfl (by kernel_rfl) (by kernel_rfl) (by kernel_rfl) (fun _ _ _ h => h) (Or.inl ⟨by kernel_rfl, ?_⟩) (by assumption) ?_
                                            rotate_left
                                            · intro w' hSw; (try dsimp only at hSw); go_simp; with_reducible rfl
                                            try simp only [Act.put, List.getElem_toArray, List.getElem_cons_succ, List.getElem_cons_zero, List.setIfInBounds_toArray, List.set_cons_succ, List.set_cons_zero]
                                            refine wpAnyH_ready (rs := [18]) (by kernel_rfl) (by simp) ?_
                                            refine AllReadyH.cons rfl (fun K hK => ?_) AllReadyH.nil
                                            have hth := Sd.there4h HP2.out
                                            refine exec_if_store_mid (by kernel_rfl) 61 (.tmp 279) (.tmp 277) rfl g4 (k * 15 + 3) ([.int .u64 s.1.1.ro, .int .u32 s.1.1.co, .int .u64 s.1.1.ow, .int .u16 p.id] : List Value).toArray (by kernel_rfl) (by kernel_rfl) hth (by kernel_rfl) (by kernel_rfl) ?_
                                            have Sf := Sd.put (y := z) HP2.out 3 [.int .u64 s.1.1.ro, .int .u32 s.1.1.co, .int .u64 s.1.1.ow, .int .u16 p.id] (by simp) (by rw [← HZ9.out]; rfl)
                                            have hOf := hOd.port Sd HP2.out (w' := vd.setCells g4 (k * 15 + 3) [.int .u64 s.1.1.ro, .int .u32 s.1.1.co, .int .u64 s.1.1.ow, .int .u16 p.id]) (fun b hb => setCells_other _ _ _ b hb)
                                            obtain ⟨w4, hw4⟩ : ∃ y, vd.setCells g4 (k * 15 + 3) [.int .u64 s.1.1.ro, .int .u32 s.1.1.co, .int .u64 s.1.1.ow, .int .u16 p.id] = y := ⟨_, rfl⟩
                                            rw [hw4] at Sf hOf
                                            rw [show vd.setCells g4 (k * 15 + 3) ([.int .u64 s.1.1.ro, .int .u32 s.1.1.co, .int .u64 s.1.1.ow, .int .u16 p.id] : List Value).toArray.toList = w4 from hw4]
                                            clear hw4 Sd hOd hth
                                            refine hK.out _ _ ((Sf.hs.1 4 _ _ _ rfl).1) (fun hHeld => ?_)
                                            clear hK K
                                            try simp only [Act.put, List.getElem_toArray, List.getElem_cons_succ, List.getElem_cons_zero, List.setIfInBounds_toArray, List.set_cons_succ, List.set_cons_zero]
                                            refine wpAnyH_done (by kernel_rfl) ?_ _
                                            go_wp2_with fail
                                            go_meet
                                            exact ⟨Sf, hOf⟩
                                        case rest =>
                                          as_aux_lemma =>
                                            obtain ⟨SE, hOE⟩ := hcut
                                            rename World => w4
                                            clear SC hOC hz9
                                            have HSET := Lib.hid (show TkB (settleR s.1.1 (s.1.2.set k z)).1 n from by rw [← HZ9.out]; exact TkB.settle hf2 (TkB.put (t := s.1.1) (L := s.1.2) HKB.out HP2.out (become_bd HKB.out.1 (HKB.out.2.2.1 p (List.mem_of_getElem? HP2.out))).1 rfl))
                                            have HPUT := Lib.hid (show TkB (s.1.1, s.1.2.set k z) n from by rw [← HZ9.out]; exact TkB.put (t := s.1.1) (L := s.1.2) HKB.out HP2.out (become_bd HKB.out.1 (HKB.out.2.2.1 p (List.mem_of_getElem? HP2.out))).1 rfl)
                                            have HSF := Lib.hid (settle_few s.1.1 (s.1.2.set k z))
                                            have HFG := Lib.hid (show forgR s.1.1 s.1.2 k p = if s.1.1.ro ≠ s.1.1.ow ∧ (settleR s.1.1 (s.1.2.set k z)).1.1.ro = (settleR s.1.1 (s.1.2.set k z)).1.1.ow then leadS (settleR s.1.1 (s.1.2.set k z)) else settleR s.1.1 (s.1.2.set k z) by unfold forgR; rw [HZ9.out])
                                            have HCS := Lib.hid (rsettle_is s.1.1 (some ⟨g4, 0, none⟩) n c3 (s.1.2.set k z) (Lib.hid HPUT.out.2.2.2.1) hf2 (Lib.hid HPUT.out.2.2.2.2) (Lib.hid HPUT.out.1) (Lib.hid HPUT.out.2.2.1) HZ3 w4 (Lib.hid SE.ports))
                                            obtain ⟨sr, hsr⟩ : ∃ r, settleR s.1.1 (s.1.2.set k z) = r := ⟨_, rfl⟩
                                            rw [hsr] at HSET HSF HFG HCS
                                            clear hsr
                                            obtain ⟨⟨u, M⟩, o9⟩ := sr
                                            have hlen : s.2.length + o9.length ≤ 100000 := by have h1 : o9.length ≤ 1 := HSF.out; omega
                                            have SEh := SE.hs
                                            have RTE := SE.toR
                                            clear SE
                                            have HC := Lib.hid (show Calls Tryz.prog 26 #[.agg (lT s.1.1 (some ⟨g4, 0, none⟩) n c3).toArray] w4 (ConfEnd w4 u n (M, o9)) from HCS.out)
                                            have hx := SEh.bk 4 rfl
                                            go_wp2_with (with_reducible refine wpList_load_row rfl 31 (.tmp 1) rfl X (by kernel_rfl) _ _ (0, 0) _ hx Tryz.underlying31 rfl (by kernel_rfl) ?_)
                                            (with_reducible refine HC.out.mono ?_); rintro e ha ⟨D5, c5, v3, rfl, hza, ka, hQa⟩
                                            have ba := ka.old
                                            have RTa : RowT ha D5 M := ka.rowT
                                            clear ka
                                            have Sa := SEh.below ba
                                            have hOa := hOE.below ba
                                            have HZa := Lib.hid hza
                                            have HWQ := Lib.hid (show w.heap.size ≤ w4.heap.size from SEh.old.size)
                                            clear SEh hOE RTE hx HC hza ba
                                            go_upto_region 52 with (with_reducible refine wpList_store_row rfl 31 (.tmp 25) (.tmp 283) rfl ha.heap.size (lT u D5 n c5).toArray (by kernel_rfl) (by kernel_rfl) _ _ (heap_alloc_new _ _) (by kernel_rfl) (by kernel_rfl) (by kernel_rfl) ?_)
                                            rw [alloc_row]
                                            have bN := new_below ha (.cells (lT u D5 n c5).toArray 31)
                                            have Sb := Sa.al rfl 31 (lT u D5 n c5)
                                            have hOb := hOa.below bN
                                            have hQb := hQa.below bN
                                            have RTb := RTa.below bN
                                            obtain ⟨V, hV⟩ : ∃ q, ha.heap.size = q := ⟨_, rfl⟩
                                            rw [hV] at Sb ⊢
                                            obtain ⟨hb, hwv⟩ : ∃ y, ha.alloc (.cells (lT u D5 n c5).toArray 31) = y := ⟨_, rfl⟩
                                            rw [hwv] at Sb hOb hQb RTb ⊢
                                            clear hwv hV bN Sa hOa hQa RTa
                                            have hx := Sb.bk 0 rfl
                                            have hy := Sb.bk 5 rfl
                                            go_upto_region 53 with (first | (with_reducible refine wpList_load_row rfl 31 (.tmp 25) rfl V (by kernel_rfl) _ _ (0, 0) _ hx Tryz.underlying31 rfl (by kernel_rfl) ?_) | (with_reducible refine wpList_store_row rfl 31 (.tmp 1) (.tmp 285) rfl X (lT u D5 n c5).toArray (by kernel_rfl) (by kernel_rfl) _ _ hy (by kernel_rfl) (by kernel_rfl) (by kernel_rfl) ?_))
                                            have Sc : Hs w [(g3, 3, lI (flL holB L n)), (g2, 3, lI (flL (agB t) L n)), (g1, 3, lI (flL (delB t) L n)), (Y, 31, [.int .u64 0, .int .u64 0, .int .u32 0, .int .i64 0, .int .i64 0, .int .i64 0, .int .i64 0, .int .i64 0, .int .i64 0, .int .i64 0, .bool false, .bool false, .bool false, .int .i64 0, .bool false, .int .i64 0, .bool false, .int .i64 0, .slice none 0 0]), (X, 31, lT u D5 n c5)] (hb.setRow X (lT u D5 n c5).toArray) := (Sb.row 5 rfl (lT u D5 n c5)).tail
                                            have hOc := hOb.store Sb 5 rfl (lT u D5 n c5).toArray
                                            have hQc := hQb.store Sb 5 rfl (lT u D5 n c5).toArray
                                            have RTc := RTb.row (cs := lT u D5 n c5) (Sb.1 5 _ _ _ rfl).1
                                            generalize hb.setRow X (lT u D5 n c5).toArray = hc at Sc hOc hQc RTc ⊢
                                            clear Sb hOb hQb RTb hx hy
                                            have hbd : w.heap.size ≤ hc.heap.size := Sc.old.size
                                            have hwq := HWQ.out
                                            obtain ⟨_, _, hown⟩ := hOc.own
                                            go_upto_region 54 with (at_builtin; refine append_outs _ rfl (.tmp 286) (.tmp 287) rfl w.heap.size w4.heap.size u12 v3 s.2 o9 (by kernel_rfl) (by kernel_rfl) hOc hQc hwq hlen hbd hc (Below.refl _ _) ?_; intro v4 hd hOd hbz gr; have Sd := Sc.grownT hown gr (by intro y hy; simp only [List.mem_cons, List.not_mem_nil, or_false] at hy; rcases hy with rfl | rfl | rfl | rfl | rfl <;> (dsimp only; decide)); have RTd := RTc.grownO hown gr; clear Sc RTc hOc hQc hown gr hbz hbd hwq)
                                            have hkn := HKN.out
                                            have k1 := Sd.cell 4 1 rfl rfl
                                            have k0 := Sd.cell 4 0 rfl rfl
                                            have hg := HFG.out
                                            try dsimp only at hg
                                            cases rb with
                                            | true =>
                                              as_aux_lemma =>
                                                rw [if_neg (fun e => e.1 (by simpa using HRB.out))] at hg
                                                have HST := Lib.hid (show foldS ageS (flagB (agB t) L) (k + 1) s1 = ((u, M), s.2 ++ o9) by rw [HST.out, hg])
                                                go_wp2
                                                go_roundw
                                                case rel => exact ⟨k + 1, hkn, by go_num, D5, c5, HZa.out, by rw [HST.out]; exact ⟨Sd, RTd, hOd⟩⟩
                                                case measure => simp [intOf]; omega
                                            | false =>
                                              obtain ⟨ub, hub⟩ : ∃ b, (u.ro == u.ow) = b := ⟨_, rfl⟩
                                              have HUB := Lib.hid hub
                                              cases ub with
                                              | false =>
                                                as_aux_lemma =>
                                                  rw [if_neg (fun e => by have h1 := HUB.out; rw [e.2] at h1; simp at h1)] at hg
                                                  have HST := Lib.hid (show foldS ageS (flagB (agB t) L) (k + 1) s1 = ((u, M), s.2 ++ o9) by rw [HST.out, hg])
                                                  go_wp2
                                                  go_roundw
                                                  case rel => exact ⟨k + 1, hkn, by go_num, D5, c5, HZa.out, by rw [HST.out]; exact ⟨Sd, RTd, hOd⟩⟩
                                                  case measure => simp [intOf]; omega
                                              | true =>
                                                as_aux_lemma =>
                                                  have huo : u.ro = u.ow := by simpa using HUB.out
                                                  rw [if_pos ⟨by have := HRB.out; simpa using this, huo⟩, lead_is16 HSET.out.2.2.2.1 huo, lead_root huo, List.nil_append] at hg
                                                  obtain ⟨A9, hA9⟩ : ∃ q, allR (leadT u) M n = q := ⟨_, rfl⟩
                                                  have hf9 : A9.2.length ≤ n := by rw [← hA9]; exact (allR_bd (t := leadT u) HSET.out.2.2.1 n).2.1
                                                  rw [hA9] at hg
                                                  have HST9 := Lib.hid (show foldS ageS (flagB (agB t) L) (k + 1) s1 = ((leadT2 u, A9.1), s.2 ++ o9 ++ A9.2) by rw [HST.out, hg, List.append_assoc])
                                                  have HA9 := Lib.hid hA9
                                                  have hlen : (s.2 ++ o9).length + A9.2.length ≤ 100000 := by have h1 : o9.length ≤ 1 := HSF.out; rw [List.length_append]; omega
                                                  clear hg hA9
                                                  go_upto_region 55 with fail
                                                  clear k1 k0 hub
                                                  have HC := Lib.hid (show Calls Tryz.prog 27 #[.agg (lT u D5 n c5).toArray] hd (AllEnd2 hd (leadT2 u) D5 n M A9) from by rw [← HA9.out]; exact rlead_is u D5 n c5 M (Lib.hid HSET.out.2.2.2.1) hf2 (Lib.hid HSET.out.1) (Lib.hid (mb_of HSET.out.2.1)) (Lib.hid HSET.out.2.2.1) HZa hd (Lib.hid RTd.ports))
                                                  have hx := Sd.bk 4 rfl
                                                  go_wp2_with (with_reducible refine wpList_load_row rfl 31 (.tmp 1) rfl X (by kernel_rfl) _ _ (0, 0) _ hx Tryz.underlying31 rfl (by kernel_rfl) ?_)
                                                  (with_reducible refine HC.out.mono ?_); rintro e ja ⟨D6, c6, v3, rfl, hza, hPa, hQa, ba⟩
                                                  have RTa : RowT ja D6 A9.1 := hPa.elim (fun ⟨e1, e2⟩ => by rw [e1, e2]; exact RTd.below ba) id
                                                  clear hPa
                                                  have Sa := Sd.below ba
                                                  have hOa := hOd.below ba
                                                  have HZb := Lib.hid hza
                                                  have HWQ := Lib.hid (show w.heap.size ≤ hd.heap.size from Sd.old.size)
                                                  clear Sd hOd RTd hx HC hza ba
                                                  go_upto_region 56 with (with_reducible refine wpList_store_row rfl 31 (.tmp 27) (.tmp 301) rfl ja.heap.size (lT (leadT2 u) D6 n c6).toArray (by kernel_rfl) (by kernel_rfl) _ _ (heap_alloc_new _ _) (by kernel_rfl) (by kernel_rfl) (by kernel_rfl) ?_)
                                                  rw [alloc_row]
                                                  have bN := new_below ja (.cells (lT (leadT2 u) D6 n c6).toArray 31)
                                                  have Sb := Sa.al rfl 31 (lT (leadT2 u) D6 n c6)
                                                  have hOb := hOa.below bN
                                                  have hQb := hQa.below bN
                                                  have RTb := RTa.below bN
                                                  obtain ⟨V, hV⟩ : ∃ q, ja.heap.size = q := ⟨_, rfl⟩
                                                  rw [hV] at Sb ⊢
                                                  obtain ⟨jb, hwv⟩ : ∃ y, ja.alloc (.cells (lT (leadT2 u) D6 n c6).toArray 31) = y := ⟨_, rfl⟩
                                                  rw [hwv] at Sb hOb hQb RTb ⊢
                                                  clear hwv hV bN Sa hOa hQa RTa
                                                  have hx := Sb.bk 0 rfl
                                                  have hy := Sb.bk 5 rfl
                                                  go_upto_region 57 with (first | (with_reducible refine wpList_load_row rfl 31 (.tmp 27) rfl V (by kernel_rfl) _ _ (0, 0) _ hx Tryz.underlying31 rfl (by kernel_rfl) ?_) | (with_reducible refine wpList_store_row rfl 31 (.tmp 1) (.tmp 303) rfl X (lT (leadT2 u) D6 n c6).toArray (by kernel_rfl) (by kernel_rfl) _ _ hy (by kernel_rfl) (by kernel_rfl) (by kernel_rfl) ?_))
                                                  have Sc : Hs w [(g3, 3, lI (flL holB L n)), (g2, 3, lI (flL (agB t) L n)), (g1, 3, lI (flL (delB t) L n)), (Y, 31, [.int .u64 0, .int .u64 0, .int .u32 0, .int .i64 0, .int .i64 0, .int .i64 0, .int .i64 0, .int .i64 0, .int .i64 0, .int .i64 0, .bool false, .bool false, .bool false, .int .i64 0, .bool false, .int .i64 0, .bool false, .int .i64 0, .slice none 0 0]), (X, 31, lT (leadT2 u) D6 n c6)] (jb.setRow X (lT (leadT2 u) D6 n c6).toArray) := (Sb.row 5 rfl (lT (leadT2 u) D6 n c6)).tail
                                                  have hOc := hOb.store Sb 5 rfl (lT (leadT2 u) D6 n c6).toArray
                                                  have hQc := hQb.store Sb 5 rfl (lT (leadT2 u) D6 n c6).toArray
                                                  have RTc := RTb.row (cs := lT (leadT2 u) D6 n c6) (Sb.1 5 _ _ _ rfl).1
                                                  generalize jb.setRow X (lT (leadT2 u) D6 n c6).toArray = jc at Sc hOc hQc RTc ⊢
                                                  clear Sb hOb hQb RTb hx hy
                                                  have hbd : w.heap.size ≤ jc.heap.size := Sc.old.size
                                                  have hwq := HWQ.out
                                                  obtain ⟨_, _, hown⟩ := hOc.own
                                                  go_wp2_with (at_builtin; refine append_outs _ rfl (.tmp 304) (.tmp 305) rfl w.heap.size hd.heap.size v4 v3 (s.2 ++ o9) A9.2 (by kernel_rfl) (by kernel_rfl) hOc hQc hwq hlen hbd jc (Below.refl _ _) ?_; intro v6 jd hOz hbz gr; have Sz := Sc.grownT hown gr (by intro y hy; simp only [List.mem_cons, List.not_mem_nil, or_false] at hy; rcases hy with rfl | rfl | rfl | rfl | rfl <;> (dsimp only; decide)); have RTz := RTc.grownO hown gr; clear Sc RTc hOc hQc hown gr hbz hbd hwq)
                                                  exact ⟨⟨k + 1, hkn, by go_num, D6, c6, HZb.out, by rw [HST9.out]; exact ⟨Sz, RTz, hOz⟩⟩, by simp [intOf]; omega⟩
                                  · have hke : k = n := by omega
                                    rw [hke] at S RT hO ⊢
                                    rw [HS2.out] at S RT hO
                                    clear hke hk hkn
                                    clear k
                                    have hkz : ¬ (n : Int) < (n : Int) := by omega
                                    have HZ4 := Lib.hid hz
                                    go_upto_region 58 with fail
                                    clear hkz
                                    go_wp2
                                    go_loopw [12, 29] (fun o i wr => ∃ k : Nat, k ≤ n ∧ i = .int .i64 k ∧ ∃ D c, (D = none → c = 0) ∧ Hs w [(g3, 3, lI (flL holB L n)), (g2, 3, lI (flL (agB t) L n)), (g1, 3, lI (flL (delB t) L n)), (Y, 31, [.int .u64 0, .int .u64 0, .int .u32 0, .int .i64 0, .int .i64 0, .int .i64 0, .int .i64 0, .int .i64 0, .int .i64 0, .int .i64 0, .bool false, .bool false, .bool false, .int .i64 0, .bool false, .int .i64 0, .bool false, .int .i64 0, .slice none 0 0]), (X, 31, lT (foldS holdS (flagB holB L) k s2).1.1 D n c)] wr ∧ RowT wr D (foldS holdS (flagB holB L) k s2).1.2 ∧ OutsR wr w.heap.size o (foldS holdS (flagB holB L) k s2).2) (fun _ i _ => n - (intOf i).toNat)
                                    case atStart => exact ⟨0, Nat.zero_le _, rfl, _, _, HZ4.out, S, RT, hO⟩
                                    case round =>
                                      as_aux_lemma =>
                                        clear S RT hO hz HZ4
                                        obtain ⟨k, hk, rfl, D, c, hz, S, RT, hO⟩ := hrel
                                        by_cases hkn : k < n
                                        · obtain ⟨x, hx⟩ := po_at hL.out hkn
                                          have hki : (k : Int) < (n : Int) := by omega
                                          have hkz : ¬ (n : Int) ≤ (k : Int) := by omega
                                          have HX := Lib.hid hx
                                          have HFL := Lib.hid (show flagB holB L k = holB x from flag_at hx)
                                          clear hx
                                          have HKB := Lib.hid (HK3.out k)
                                          have hfew := HF3.out k
                                          have hstY := fold_yes (f := holdS) (fl := flagB holB L) (s := s2) (k := k)
                                          have hstN := fold_no (f := holdS) (fl := flagB holB L) (s := s2) (k := k)
                                          obtain ⟨s, hs⟩ : ∃ s, foldS holdS (flagB holB L) k s2 = s := ⟨_, rfl⟩
                                          rw [hs] at HKB hfew hstY hstN S RT hO
                                          clear hs
                                          have hlen0 : s.2.length ≤ 90000 := by
                                            have h1 := hfew.1
                                            have h2 : k * (n + 2) ≤ 100 * 102 := Nat.mul_le_mul (by omega) (by omega)
                                            have h3 : n * (n + 2) ≤ 100 * 102 := Nat.mul_le_mul hf (by omega)
                                            omega
                                          clear hfew
                                          have HSY := Lib.hid hstY
                                          have HSN := Lib.hid hstN
                                          clear hstY hstN
                                          obtain ⟨p, hp2⟩ := po_at HKB.out.2.2.2.1 hkn
                                          have HP2 := Lib.hid hp2
                                          obtain ⟨g, e⟩ := RT.some hp2
                                          subst e
                                          clear hp2
                                          have HKN := Lib.hid hkn
                                          have fl0 := S.cell 0 k rfl (lI_at (flL_atn HX.out hL.out))
                                          obtain ⟨fb, hfb⟩ : ∃ b, holB x = b := ⟨_, rfl⟩
                                          rw [hfb] at fl0
                                          rw [hfb] at HFL
                                          clear hfb
                                          unfold fI at fl0
                                          cases fb with
                                          | false =>
                                            have HST := Lib.hid (HSN.out HFL.out)
                                            as_aux_lemma =>
                                              go_wp2
                                              go_roundw
                                              case rel => exact ⟨k + 1, hkn, by go_num, _, c, hz, by rw [HST.out]; exact ⟨S, RT, hO⟩⟩
                                              case measure => simp [intOf]; omega
                                          | true =>
                                            as_aux_lemma =>
                                              have HST := Lib.hid ((HSY.out HFL.out).trans (hold_is HP2.out))
                                              have c18 := S.cell 4 18 rfl rfl
                                              have p8 := RT.cellq HP2.out 8 rfl
                                              obtain ⟨pb, hpb⟩ : ∃ b, p.pe = b := ⟨_, rfl⟩
                                              rw [hpb] at p8
                                              have HPB := Lib.hid hpb
                                              clear hpb
                                              cases pb with
                                              | false =>
                                                have HST := Lib.hid (show foldS holdS (flagB holB L) (k + 1) s2 = s by rw [HST.out]; unfold owedR; rw [HPB.out, if_neg (by decide), List.append_nil])
                                                go_wp2
                                                go_roundw
                                                case rel => exact ⟨k + 1, hkn, by go_num, _, c, hz, by rw [HST.out]; exact ⟨S, RT, hO⟩⟩
                                                case measure => simp [intOf]; omega
                                              | true =>
                                                obtain ⟨A9, hA9⟩ : ∃ q, confR s.1.1 s.1.2 k = q := ⟨_, rfl⟩
                                                have hf9 : A9.2.length ≤ 1 := by rw [← hA9]; exact confR_few _ _ _
                                                have HST9 := Lib.hid (show foldS holdS (flagB holB L) (k + 1) s2 = ((s.1.1, A9.1), s.2 ++ A9.2) by rw [HST.out]; unfold owedR; rw [HPB.out, if_pos rfl, hA9])
                                                have HA9 := Lib.hid hA9
                                                have hlen : s.2.length + A9.2.length ≤ 100000 := by omega
                                                clear hA9 hf9
                                                go_upto_region 62 with fail
                                                clear c18 p8 fl0
                                                have HC := Lib.hid (show Calls Tryz.prog 28 #[.agg (lT s.1.1 (some ⟨g, 0, none⟩) n c).toArray, .int .i64 (k : Int)] wr (ConfEnd wr s.1.1 n A9) from by rw [← HA9.out]; exact rconf_is s.1.1 (some ⟨g, 0, none⟩) n c s.1.2 k (Lib.hid HKB.out.2.2.2.1) hf2 (Lib.hid HKB.out.1) (Lib.hid (nb_of2 HKB.out.2.1)) (Lib.hid HKB.out.2.2.1) (by omega) (Lib.hid hz) wr (Lib.hid RT.ports))
                                                have hx := S.bk 4 rfl
                                                go_wp2_with (with_reducible refine wpList_load_row rfl 31 (.tmp 1) rfl X (by kernel_rfl) _ _ (0, 0) _ hx Tryz.underlying31 rfl (by kernel_rfl) ?_)
                                                (with_reducible refine HC.out.mono ?_); rintro e ha ⟨D6, c6, v3, rfl, hza, ka, hQa⟩
                                                have ba := ka.old
                                                have RTa : RowT ha D6 A9.1 := ka.rowT
                                                clear ka
                                                have Sa := S.below ba
                                                have hOa := hO.below ba
                                                have HZa := Lib.hid hza
                                                have HWQ := Lib.hid (show w.heap.size ≤ wr.heap.size from S.old.size)
                                                clear S hO RT hx HC hza ba
                                                go_upto_region 63 with (with_reducible refine wpList_store_row rfl 31 (.tmp 30) (.tmp 329) rfl ha.heap.size (lT s.1.1 D6 n c6).toArray (by kernel_rfl) (by kernel_rfl) _ _ (heap_alloc_new _ _) (by kernel_rfl) (by kernel_rfl) (by kernel_rfl) ?_)
                                                rw [alloc_row]
                                                have bN := new_below ha (.cells (lT s.1.1 D6 n c6).toArray 31)
                                                have Sb := Sa.al rfl 31 (lT s.1.1 D6 n c6)
                                                have hOb := hOa.below bN
                                                have hQb := hQa.below bN
                                                have RTb := RTa.below bN
                                                obtain ⟨V, hV⟩ : ∃ q, ha.heap.size = q := ⟨_, rfl⟩
                                                rw [hV] at Sb ⊢
                                                obtain ⟨hb, hwv⟩ : ∃ y, ha.alloc (.cells (lT s.1.1 D6 n c6).toArray 31) = y := ⟨_, rfl⟩
                                                rw [hwv] at Sb hOb hQb RTb ⊢
                                                clear hwv hV bN Sa hOa hQa RTa
                                                have hx := Sb.bk 0 rfl
                                                have hy := Sb.bk 5 rfl
                                                go_upto_region 64 with (first | (with_reducible refine wpList_load_row rfl 31 (.tmp 30) rfl V (by kernel_rfl) _ _ (0, 0) _ hx Tryz.underlying31 rfl (by kernel_rfl) ?_) | (with_reducible refine wpList_store_row rfl 31 (.tmp 1) (.tmp 331) rfl X (lT s.1.1 D6 n c6).toArray (by kernel_rfl) (by kernel_rfl) _ _ hy (by kernel_rfl) (by kernel_rfl) (by kernel_rfl) ?_))
                                                have Sc : Hs w [(g3, 3, lI (flL holB L n)), (g2, 3, lI (flL (agB t) L n)), (g1, 3, lI (flL (delB t) L n)), (Y, 31, [.int .u64 0, .int .u64 0, .int .u32 0, .int .i64 0, .int .i64 0, .int .i64 0, .int .i64 0, .int .i64 0, .int .i64 0, .int .i64 0, .bool false, .bool false, .bool false, .int .i64 0, .bool false, .int .i64 0, .bool false, .int .i64 0, .slice none 0 0]), (X, 31, lT s.1.1 D6 n c6)] (hb.setRow X (lT s.1.1 D6 n c6).toArray) := (Sb.row 5 rfl (lT s.1.1 D6 n c6)).tail
                                                have hOc := hOb.store Sb 5 rfl (lT s.1.1 D6 n c6).toArray
                                                have hQc := hQb.store Sb 5 rfl (lT s.1.1 D6 n c6).toArray
                                                have RTc := RTb.row (cs := lT s.1.1 D6 n c6) (Sb.1 5 _ _ _ rfl).1
                                                generalize hb.setRow X (lT s.1.1 D6 n c6).toArray = hc at Sc hOc hQc RTc ⊢
                                                clear Sb hOb hQb RTb hx hy
                                                have hbd : w.heap.size ≤ hc.heap.size := Sc.old.size
                                                have hwq := HWQ.out
                                                obtain ⟨_, _, hown⟩ := hOc.own
                                                go_wp2_with (at_builtin; refine append_outs _ rfl (.tmp 332) (.tmp 333) rfl w.heap.size wr.heap.size u12 v3 s.2 A9.2 (by kernel_rfl) (by kernel_rfl) hOc hQc hwq hlen hbd hc (Below.refl _ _) ?_; intro v4 hd hOd hbz gr; have Sd := Sc.grownT hown gr (by intro y hy; simp only [List.mem_cons, List.not_mem_nil, or_false] at hy; rcases hy with rfl | rfl | rfl | rfl | rfl <;> (dsimp only; decide)); have RTd := RTc.grownO hown gr; clear Sc RTc hOc hQc hown gr hbz hbd hwq)
                                                exact ⟨⟨k + 1, hkn, by go_num, D6, c6, HZa.out, by rw [HST9.out]; exact ⟨Sd, RTd, hOd⟩⟩, by simp [intOf]; omega⟩
                                        · have hke : k = n := by omega
                                          rw [hke] at S RT hO ⊢
                                          rw [HS3.out] at S RT hO
                                          clear hke hk hkn
                                          clear k
                                          have hkz : ¬ (n : Int) < (n : Int) := by omega
                                          have HZ4 := Lib.hid hz
                                          go_upto_region 65 with fail
                                          clear hkz hz
                                          as_aux_lemma =>
                                            have hx := S.bk 4 rfl
                                            have hy := S.bk 3 rfl
                                            have SF := S.row 3 rfl (lT s3.1.1 D n c)
                                            have hyF := SF.bk 3 rfl
                                            have hOF := hO.store S 3 rfl (lT s3.1.1 D n c).toArray
                                            have RTF := RT.row (cs := lT s3.1.1 D n c) (S.1 3 _ _ _ rfl).1
                                            go_wp2_with (first | (with_reducible refine wpList_load_row rfl 31 (.tmp 1) rfl X (by kernel_rfl) _ _ (0, 0) _ hx Tryz.underlying31 rfl (by kernel_rfl) ?_) | ((with_reducible refine wpList_store_row rfl 31 (.tmp 2) (.tmp 335) rfl Y (lT s3.1.1 D n c).toArray (by kernel_rfl) (by kernel_rfl) _ _ hy (by kernel_rfl) (by kernel_rfl) (by kernel_rfl) ?_); (repeat go_step); exact bodyPost_ret (v := .tuple #[.agg (lT s3.1.1 D n c).toArray, u12]) (results_two rfl _ _ Y _ _ _ _ rfl _ rfl hyF Tryz.underlying31 rfl (by kernel_rfl)) rfl ⟨D, c, _, rfl, HZ4.out, RTF.ports, hOF, SF.old⟩))

end Go.Proofs.YtnmnihlhcokjpaaGreatDoor
