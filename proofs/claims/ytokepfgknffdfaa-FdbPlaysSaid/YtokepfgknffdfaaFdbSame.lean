/- Same of the law: whether a table holds just these entries; its closure, walked. -/
import Derived.Test.YtokepfgknffdfaaFdbPlayC
import Derived.StillTailTactics
import Derived.BigRegion
import Derived.Deep.RegionHeld3
import Derived.Deep.DeepCutAuto
namespace Go.Proofs.Ytokepfgknffdfaa
open Go.ChangeShapes Go.WideShapes Go.ChangeAt Go.RowKit Go.Shelf
set_option linter.unusedVariables false

/-- While one goes through: the slice at block B, how many have come at the next one, whether all were right at the third; nothing that was there in W0 has turned. -/
structure SameC (W0 : World) (A : Option Addr) (n cap m : Nat) (W : World) : Prop where
  box : Bk W W0.heap.size 27 [.slice A n cap]
  cnt : Bk W (W0.heap.size + 1) 3 [.int .i64 m]
  good : Bk W (W0.heap.size + 2) 4 [.bool true]
  old : Below W0.heap.size W0 W

theorem SameC.below {W0 W W' : World} {A : Option Addr} {n cap m : Nat} (h : SameC W0 A n cap m W) (hb : Below W.heap.size W W') : SameC W0 A n cap m W' :=
  ⟨h.box.below hb h.box.lt, h.cnt.below hb h.cnt.lt, h.good.below hb h.good.lt, h.old.trans (hb.mono h.old.size)⟩

/-- What one round leaves. -/
def SameS (W0 W : World) (A : Option Addr) (n cap m : Nat) (e : Ending) (W' : World) : Prop :=
  e = .returned (.bool true) ∧ SameC W0 A n cap m W' ∧ W.heap.size ≤ W'.heap.size ∧ ∀ b, W0.heap.size + 3 ≤ b → b < W.heap.size → W'.heap[b]? = W.heap[b]?

theorem same_step {W0 W W1 : World} {A : Option Addr} {n cap m : Nat} (h : SameC W0 A n cap m W) (hb : Below W.heap.size W W1) (x : Int) (hx : x = ((m + 1 : Nat) : Int)) :
    SameS W0 W A n cap (m + 1) (.returned (.bool true)) ((W1.setCell ⟨W0.heap.size + 2, 0, none⟩ (.bool true)).setCell ⟨W0.heap.size + 1, 0, none⟩ (.int .i64 x)) := by
  subst hx
  have h1 := h.below hb
  refine ⟨rfl, ⟨?_, ?_, ?_, ?_⟩, by simp [World.setCell]; exact hb.size, fun b hb1 hb2 => ?_⟩
  · exact (h1.box.far (p := ⟨W0.heap.size + 2, 0, none⟩) (by show W0.heap.size + 2 ≠ _; omega) _).far (p := ⟨W0.heap.size + 1, 0, none⟩) (by show W0.heap.size + 1 ≠ _; omega) _
  · exact (h1.cnt.far (p := ⟨W0.heap.size + 2, 0, none⟩) (by show W0.heap.size + 2 ≠ _; omega) _).set 0 _
  · exact (h1.good.set 0 (.bool true)).far (p := ⟨W0.heap.size + 1, 0, none⟩) (by show W0.heap.size + 1 ≠ _; omega) _
  · exact (h1.old.setCell (p := ⟨W0.heap.size + 2, 0, none⟩) (by show _ ≤ W0.heap.size + 2; omega) _).setCell (p := ⟨W0.heap.size + 1, 0, none⟩) (by show _ ≤ W0.heap.size + 1; omega) _
  · rw [Below.heap_setCell _ _ _ b (by show b ≠ W0.heap.size + 1; omega), Below.heap_setCell _ _ _ b (by show b ≠ W0.heap.size + 2; omega)]
    exact hb.block b hb2

set_option maxRecDepth 100000 in
set_option maxHeartbeats 4000000 in
theorem same1 {W0 W : World} {A : Option Addr} {n cap m B : Nat} {L : List (Int × (Int × Int))} (hr : RowAt encR 3 W0 B A L) (hl : L.length = n) (hn : n ≤ 64) (h : SameC W0 A n cap m W) (a p q : Int) (hL : L[m]? = some (a, (p, q))) :
    Calls Try.prog 29 #[.int .u64 a, .agg #[.int .i64 p, .int .i64 q], .pointer (some ⟨W0.heap.size + 2, 0, none⟩), .pointer (some ⟨W0.heap.size + 1, 0, none⟩), .pointer (some ⟨W0.heap.size, 0, none⟩)] W (SameS W0 W A n cap (m + 1)) := by
  obtain ⟨g, rfl, hg1, hg2, d0, d1, d2⟩ := ent_cells hr hL
  dsimp only at d0 d1 d2
  have hm : m < L.length := by
    rcases Nat.lt_or_ge m L.length with z | z
    · exact z
    · rw [List.getElem?_eq_none z] at hL; cases hL
  have hmi : (m : Int) < (n : Int) := by omega
  have nb := new_below W (.cells #[.int .i64 p, .int .i64 q] 53)
  have nk : Bk (W.alloc (.cells #[.int .i64 p, .int .i64 q] 53)) W.heap.size 53 [.int .i64 p, .int .i64 q] := heap_alloc_new W _
  have hWz := h.good.lt
  have hWW : (W.alloc (.cells #[.int .i64 p, .int .i64 q] 53)).heap.size = W.heap.size + 1 := by simp
  have h1 := h.below nb
  obtain ⟨wb, hwb⟩ : ∃ wb, W.alloc (.cells #[.int .i64 p, .int .i64 q] 53) = wb := ⟨_, rfl⟩
  rw [hwb] at nb nk h1 hWW
  have HWB := Lib.hid hwb
  have HH := Lib.hid h
  have HNB := Lib.hid nb
  have H1 := Lib.hid h1
  have HNK := Lib.hid nk
  have D0 := Lib.hid ((h1.old.cell (p := ⟨g, m * 3, none⟩) hg2).trans d0)
  have D1 := Lib.hid ((h1.old.cell (p := ⟨g, m * 3 + 1, none⟩) hg2).trans d1)
  have D2 := Lib.hid ((h1.old.cell (p := ⟨g, m * 3 + 2, none⟩) hg2).trans d2)
  clear d0 d1 d2 hL hr hl h nb nk h1 hwb hm
  go_enter Try.func29, Try.ntmps29
  go_upto_region 1 with fail
  rw [HWB.out]
  have c0 : wb.cell? ⟨W0.heap.size, 0, none⟩ = some (.slice (some ⟨g, 0, none⟩) n cap) := H1.out.box.cell 0
  have c1 : wb.cell? ⟨W0.heap.size + 1, 0, none⟩ = some (.int .i64 m) := H1.out.cnt.cell 0
  have c2 : wb.cell? ⟨W0.heap.size + 2, 0, none⟩ = some (.bool true) := H1.out.good.cell 0
  have k0 : wb.cell? ⟨W.heap.size, 0, none⟩ = some (.int .i64 p) := HNK.out.cell 0
  have k1 : wb.cell? ⟨W.heap.size, 1, none⟩ = some (.int .i64 q) := HNK.out.cell 1
  have d0 := D0.out
  have d1 := D1.out
  have d2 := D2.out
  go_still_tail 36, (by kernel_rfl)
  change wpList _ _ _ _ _ wb.drew
  have Bd : Below W.heap.size W wb.drew := HNB.out.drew
  have Hd : SameC W0 (some ⟨g, 0, none⟩) n cap m wb.drew := H1.out.below ((Below.refl _ _).drew)
  generalize wb.drew = wd at Bd Hd ⊢
  clear c0 c1 c2 k0 k1 d0 d1 d2 D0 D1 D2 HNK H1 HNB
  have c1 : wd.cell? ⟨W0.heap.size + 1, 0, none⟩ = some (.int .i64 m) := Hd.cnt.cell 0
  have c2 : wd.cell? ⟨W0.heap.size + 2, 0, none⟩ = some (.bool true) := Hd.good.cell 0
  have z1 := Hd.cnt.thaw 0
  have z2 := Hd.good.thaw 0
  have hne : W0.heap.size + 2 ≠ W0.heap.size + 1 := by omega
  have c1' : (wd.setCell ⟨W0.heap.size + 2, 0, none⟩ (.bool true)).cell? ⟨W0.heap.size + 1, 0, none⟩ = some (.int .i64 m) := by
    rw [World.cell?_setCell_other _ _ _ _ (fun e => hne (by have e5 := congrArg Addr.block e; first | exact e5 | exact e5.symm))]; exact c1
  have HC := Lib.hid (same_step HH.out Bd ((m : Int) + 1) (by omega))
  clear Bd Hd hne HH
  go_wp2
  go_ret
  exact HC.out

theorem same_start (W0 : World) (A : Option Addr) (n cap : Nat) :
    SameC W0 A n cap 0 (((W0.alloc (.cells #[.slice A n cap] 27)).alloc (.cells #[.int .i64 0] 3)).alloc (.cells #[.bool true] 4)) := by
  have b0 := new_below W0 (.cells #[.slice A n cap] 27)
  have k0 : Bk (W0.alloc (.cells #[.slice A n cap] 27)) W0.heap.size 27 [.slice A n cap] := heap_alloc_new W0 _
  have s0 : (W0.alloc (.cells #[.slice A n cap] 27)).heap.size = W0.heap.size + 1 := by simp
  generalize W0.alloc (.cells #[.slice A n cap] 27) = w1 at b0 k0 s0 ⊢
  have b1 := new_below w1 (.cells #[.int .i64 0] 3)
  have k1 : Bk (w1.alloc (.cells #[.int .i64 0] 3)) w1.heap.size 3 [.int .i64 0] := heap_alloc_new w1 _
  have s1 : (w1.alloc (.cells #[.int .i64 0] 3)).heap.size = w1.heap.size + 1 := by simp
  rw [s0] at k1 s1
  generalize w1.alloc (.cells #[.int .i64 0] 3) = w2 at b1 k1 s1 ⊢
  have b2 := new_below w2 (.cells #[.bool true] 4)
  have k2 : Bk (w2.alloc (.cells #[.bool true] 4)) w2.heap.size 4 [.bool true] := heap_alloc_new w2 _
  rw [s1] at k2
  exact ⟨Bk.below (Bk.below k0 b1 k0.lt) b2 (by omega), Bk.below k1 b2 (by omega), k2, b0.trans ((b1.trans (b2.mono b1.size)).mono b0.size)⟩

set_option maxRecDepth 100000 in
set_option maxHeartbeats 4000000 in
theorem same_is {w W0 : World} {f n cap : Nat} {L : List (Int × (Int × Int))} {A : Option Addr} (s : FR w f n L L A W0) (hup : Up L) (m : Nat) (hm : L.length = m) :
    Calls Try.prog 18 #[.pointer (some ⟨f, 0, none⟩), .slice A m cap] W0 fun e W' => e = .returned (.int .i64 1) ∧ FR w f n L L A W' := by
  have hm64 : m ≤ 64 := by have := s.fs.le; omega
  have E0 := same_start W0 A m cap
  have z0 : (((W0.alloc (.cells #[.slice A m cap] 27)).alloc (.cells #[.int .i64 0] 3)).alloc (.cells #[.bool true] 4)).heap.size = W0.heap.size + 3 := by simp
  obtain ⟨w3, hw3⟩ : ∃ w3, ((W0.alloc (.cells #[.slice A m cap] 27)).alloc (.cells #[.int .i64 0] 3)).alloc (.cells #[.bool true] 4) = w3 := ⟨_, rfl⟩
  rw [hw3] at E0 z0
  have HW3 := Lib.hid hw3
  have S := Lib.hid s
  have HM := Lib.hid hm
  have HZ0 := Lib.hid z0
  have E1 := E0.below (new_below _ (.cells #[.pointer (some ⟨f, 0, none⟩)] 25))
  have S1 := s.below E1.old
  obtain ⟨h, g, t, _⟩ := id S1
  have HT := Lib.hid (fthrough 29 #[.pointer (some ⟨W0.heap.size + 2, 0, none⟩), .pointer (some ⟨W0.heap.size + 1, 0, none⟩), .pointer (some ⟨W0.heap.size, 0, none⟩)] _ f h g n L t w3.heap.size (by simp)
    (fun pre W => SameC W0 A m cap pre.length W) (fun _ _ => False)
    (fun pre W W' hj hb => hj.below hb) E1 (enters_of Try.func29 (by kernel_rfl) rfl)
    (fun pre a v post W hS ha0 ha1 hsz hj => by
      have hSL : pre ++ (a, v) :: post = L := up_eq hS.2 hup hS.1
      have hmm : L[pre.length]? = some (a, v) := by rw [← hSL]; simp
      refine (same1 s.row hm hm64 hj a v.1 v.2 hmm).mono fun e W' ⟨he, hc2, hsz2, hk2⟩ => ⟨⟨hsz2, fun b hb1 hb2 => hk2 b (by simp at hb1; omega) hb2⟩, .inl ⟨he, ?_⟩⟩
      have hlen : (pre ++ [(a, v)]).length = pre.length + 1 := by simp
      rw [hlen]; exact hc2))
  have hsl : ∀ S' : List (Int × (Int × Int)), SrtE L S' → S'.length = m := fun S' h => by rw [h.1.length_eq, hm]
  have HSL := Lib.hid hsl
  clear E0 E1 s S1 t hw3 hm hsl z0
  go_enter Try.func18, Try.ntmps18
  go_wp2_with fail
  rw [HW3.out]
  (with_reducible refine (fall_is _ _).mono ?_); rintro e w6 ⟨rfl, rfl⟩
  go_wp2_with fail
  rw [show W0.heap.size + 1 + 1 = W0.heap.size + 2 from rfl]
  (with_reducible refine HT.out.mono ?_); rintro e w7 ⟨rfl, S', hS, (hg | ⟨_, _, _, _, hf⟩)⟩
  rotate_right
  · exact hf.elim
  have hl := HSL.out S' hS
  rw [hl] at hg
  have S7 := S.out.below hg.old
  have c0 : w7.cell? ⟨W0.heap.size, 0, none⟩ = some (.slice A m cap) := hg.box.cell 0
  have c1 : w7.cell? ⟨W0.heap.size + 1, 0, none⟩ = some (.int .i64 m) := hg.cnt.cell 0
  have c2 : w7.cell? ⟨W0.heap.size + 2, 0, none⟩ = some (.bool true) := hg.good.cell 0
  have l0 := hg.box.lt
  have l1 := hg.cnt.lt
  have l2 := hg.good.lt
  obtain ⟨h', g', t7, _⟩ := id S7
  have HF := flen_is t7.drew
  rw [HM.out] at HF
  have HFL := Lib.hid HF
  have HS7 := Lib.hid S7
  clear hg hS HT hl t7 HF S7 HSL
  go_wp2
  go_cut [23] (fun r wx => r = .bool true ∧ FR w f n L L A wx)
  case first =>
    go_region_held3 (fun w' => w'.cell? ⟨W0.heap.size, 0, none⟩ = some (.slice A m cap) ∧ w'.cell? ⟨W0.heap.size + 1, 0, none⟩ = some (.int .i64 m) ∧ w'.cell? ⟨W0.heap.size + 2, 0, none⟩ = some (.bool true)) (first | exact ⟨c0, c1, c2⟩ | exact ⟨(b8.cell (p := ⟨W0.heap.size, 0, none⟩) l0).trans c0, (b8.cell (p := ⟨W0.heap.size + 1, 0, none⟩) l1).trans c1, (b8.cell (p := ⟨W0.heap.size + 2, 0, none⟩) l2).trans c2⟩ | assumption) (first
      | (go_at_call 19; (with_reducible refine HFL.out.mono ?_); rintro e w8 ⟨rfl, b8⟩))
    all_goals go_wp2_with fail
    all_goals go_meet
    all_goals exact ⟨rfl, HS7.out.drew.below b8⟩
  case rest =>
    obtain ⟨rfl, hF⟩ := hcut
    have HFF := Lib.hid hF
    clear hF HFL HS7 c0 c1 c2
    go_wp2
    go_ret
    exact ⟨rfl, HFF.out⟩

end Go.Proofs.Ytokepfgknffdfaa
