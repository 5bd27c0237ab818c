/- Several texts in one, one behind the other: TickMain. -/
import Derived.Test.YtnmnihlhcokjpaaGreatDoorPk13
import Derived.Test.YtnmnihlhcokjpaaGreatDoorPk14
import Derived.Test.YtnmnihlhcokjpaaGreatDoorPk15
import Derived.Test.YtnmnihlhcokjpaaGreatDoorPk04
import Derived.Test.YtnmnihlhcokjpaaGreatDoorPk05
import Derived.Test.YtnmnihlhcokjpaaGreatDoorPk09
import Derived.LoopTactic
import Derived.Deep.DeepCutAuto

/- Tick: contract. -/
namespace Go.Proofs.YtnmnihlhcokjpaaGreatDoor
set_option maxRecDepth 100000
open Go.ChangeShapes Go.WideShapes Go.ChangeAt Go.RowKit
set_option linter.unusedVariables false
set_option linter.unusedSimpArgs false

theorem TS.more {w wx wy : World} {l : List (Nat × TypeId × List Value)} {D : Option Addr} {L : List Po} {g : Nat} {T : TypeId} {cs : List Value} (h : TS w l D L wx) (k : Hs wx [(g, T, cs)] wy) : TS w ((g, T, cs) :: l) D L wy :=
  ⟨h.1.join k, h.2.imp id fun ⟨g', r, e, q⟩ => ⟨g', r, e, q.join k⟩⟩
theorem IntsR.but {w w' : World} {base g : Nat} {v : Value} {I : List Nat} {T : TypeId} {cs : List Value} (h : IntsR w base v I) (hb : Bk w g T cs) (hT : 3 ≠ T) (hh : ∀ k, k ≠ g → w'.heap[k]? = w.heap[k]?) : IntsR w' base v I := by
  refine ⟨h.1, h.2.imp id ?_⟩
  rintro ⟨g', cap, cur, hv, hg, hh2, r⟩
  have hne : g' ≠ g := by
    rintro rfl
    unfold Bk at hb
    rw [hb] at hh2
    injection hh2 with q
    injection q with _ q
    exact hT q.symm
  exact ⟨g', cap, cur, hv, hg, (hh g' hne).trans hh2, r⟩
theorem IntsR.grown {w w' : World} {base base2 n : Nat} {v u : Value} {I : List Nat} {xs : List Value} (h : IntsR w base v I) (hown : w.ownsRow base2 83 5 u n xs) (gr : w.grownBy w' u.ownBlock) : IntsR w' base v I := by
  refine ⟨h.1, h.2.imp id ?_⟩
  rintro ⟨g', cap, cur, hv, hg, hh2, r⟩
  have hne : some g' ≠ u.ownBlock := by
    intro e
    rcases hown.2 with ⟨rfl, _⟩ | ⟨g2, cap2, cur2, rfl, _, hh, _⟩
    · cases e
    · have e' : g' = g2 := Option.some.inj e
      subst e'
      rw [hh2] at hh
      injection hh with q
      injection q with _ q
      revert q
      decide
  have hlt : g' < w.heap.size := by
    rcases Nat.lt_or_ge g' w.heap.size with q | q
    · exact q
    · rw [Array.getElem?_eq_none q] at hh2; cases hh2
  exact ⟨g', cap, cur, hv, hg, (gr.block g' hlt hne).trans hh2, r⟩
/-- Three rows of places. -/
def I3 (w : World) (B : Nat) (r0 r1 r2 : Value) (I0 I1 I2 : List Nat) : Prop := IntsR w B r0 I0 ∧ IntsR w B r1 I1 ∧ IntsR w B r2 I2
section
variable {w w' : World} {B : Nat} {r0 r1 r2 : Value} {I0 I1 I2 : List Nat}
theorem I3.below (h : I3 w B r0 r1 r2 I0 I1 I2) (b : Below w.heap.size w w') : I3 w' B r0 r1 r2 I0 I1 I2 := ⟨h.1.below b, h.2.1.below b, h.2.2.below b⟩
theorem I3.fr {C : Nat} (h : I3 w B r0 r1 r2 I0 I1 I2) (f : Fr C w w') (hC : w.heap.size ≤ C) : I3 w' B r0 r1 r2 I0 I1 I2 := ⟨h.1.fr f hC, h.2.1.fr f hC, h.2.2.fr f hC⟩
theorem I3.but {g : Nat} {T : TypeId} {cs : List Value} (h : I3 w B r0 r1 r2 I0 I1 I2) (hb : Bk w g T cs) (hT : 3 ≠ T) (hh : ∀ k, k ≠ g → w'.heap[k]? = w.heap[k]?) : I3 w' B r0 r1 r2 I0 I1 I2 := ⟨h.1.but hb hT hh, h.2.1.but hb hT hh, h.2.2.but hb hT hh⟩
theorem I3.grown {base2 n : Nat} {u : Value} {xs : List Value} (h : I3 w B r0 r1 r2 I0 I1 I2) (hown : w.ownsRow base2 83 5 u n xs) (gr : w.grownBy w' u.ownBlock) : I3 w' B r0 r1 r2 I0 I1 I2 := ⟨h.1.grown hown gr, h.2.1.grown hown gr, h.2.2.grown hown gr⟩
end
def selI (j k : Nat) (I : List Nat) : List Nat := if j < k then I else []
def ranK (t : Th) (L : List Po) : Nat → List Po
  | 0 => L
  | 1 => ran1 t L
  | 2 => ran2 t L
  | _ => ran3 t L
def phK (a b c d : Tk) : Nat → Tk
  | 0 => a
  | 1 => b
  | 2 => c
  | _ => d
theorem Tryz.infoRowT : (Tryz.prog.info? 72).map (fun i => (i.zero, i.size, i.bytes)) = some (some (.slice none 0 0), 1, 24) := by kernel_rfl
theorem made_rows (n : Nat) : madeCells (Value.cells (.slice none 0 0)) (n * 1) = (List.replicate n (Value.slice none 0 0)).toArray := by
  rw [Nat.mul_one]
  unfold madeCells
  apply Array.ext
  · simp
  · intro i h1 h2
    simp [Value.cells, Nat.mod_one]
theorem make_rows (w : World) : (Instr.makeSlice 68 (.int .i64 3) (.int .i64 3)).run Tryz.prog w = .ok (.slice (some ⟨w.heap.size, 0, none⟩) 3 3) (w.alloc (.cells ([.slice none 0 0, .slice none 0 0, .slice none 0 0] : List Value).toArray 72)) := by
  obtain ⟨i0, hi, hz0, hz1, hz2⟩ := info_parts Tryz.infoRowT
  have hr := run_make (P := Tryz.prog) w 68 72 i0 _ Tryz.underlying68 hi hz0 .i64 .i64 3 3 (by omega) (by omega) (by rw [hz2]; decide) (by omega)
  rw [hz1] at hr
  rw [hr]
  have := made_rows 3
  rw [show (Int.toNat 3 * 1) = 3 * 1 from rfl, this]
  rfl
theorem nb_of {t : Th} (h : TkF t) : (-9223372036854775808 ≤ t.n1 ∧ t.n1 ≤ 9223372036854775807 ∧ -9223372036854775808 ≤ t.n2 ∧ t.n2 ≤ 9223372036854775807 ∧ -9223372036854775808 ≤ t.n3 ∧ t.n3 ≤ 9223372036854775807) := h.nb
set_option maxHeartbeats 16000000 in
theorem tick_is (t : Th) (A : Option Addr) (n cap : Nat) (L : List Po) (hT : Hid (TkF t)) (hM : Hid (ThTm t)) (hPT : Hid (∀ x ∈ L, PoTm x)) (hU : Hid (Unlike L)) (hL : Hid (L.length = n)) (hf : n ≤ 100) (ht : Hid (ThB t)) (hb : Hid (∀ x ∈ L, PoB x)) (hc : Hid (A = none → cap = 0)) (w : World) (hd : Hd w) (hp : Hid (PoAt w A w.heap.size L)) :
    Calls Tryz.prog 7 #[.agg (lT t A n cap).toArray] w (ConfEnd w (tickR t L).1.1 n ((tickR t L).1.2, (tickR t L).2)) := by
  have HD := Lib.hid hd
  clear hd
  have hf2 : n ≤ 200 := by omega
  have HNB := Lib.hid (nb_of hT.out)
  have HK0 := Lib.hid (show TkB (tick1 t L).1 n from TkB.tick1 ⟨ht.out, hT.out, hb.out, hL.out, hU.out⟩ hPT.out)
  have HF0 := Lib.hid (few_first (t := t) hL.out)
  have HTR := Lib.hid (show tickR t L = foldS holdS (flagB holB L) n (foldS ageS (flagB (agB t) L) n (foldS delayS (flagB (delB t) L) n (tick1 t L))) by rw [← hL.out]; rfl)
  obtain ⟨s0, hs0⟩ : ∃ s, tick1 t L = s := ⟨_, rfl⟩
  rw [hs0] at HK0 HF0 HTR
  have HS0 := Lib.hid hs0
  clear hs0
  have HK1 := Lib.hid (show TkB (foldS delayS (flagB (delB t) L) n s0).1 n from TkB.fold (fun s i h => h.delay i) HK0.out n)
  have HF1 := Lib.hid (fold_few1 (delB t) L HF0.out hL.out (fun s i m h => few_delay h i))
  obtain ⟨s1, hs1⟩ : ∃ s, foldS delayS (flagB (delB t) L) n s0 = s := ⟨_, rfl⟩
  rw [hs1] at HK1 HF1 HTR
  have HS1 := Lib.hid hs1
  clear hs1
  have HK2 := Lib.hid (show TkB (foldS ageS (flagB (agB t) L) n s1).1 n from TkB.fold (fun s i h => h.age hf2 i) HK1.out n)
  have HF2 := Lib.hid (fold_few1 (agB t) L HF1.out hL.out (fun s i m h => few_age h i))
  obtain ⟨s2, hs2⟩ : ∃ s, foldS ageS (flagB (agB t) L) n s1 = s := ⟨_, rfl⟩
  rw [hs2] at HK2 HF2 HTR
  have HS2 := Lib.hid hs2
  clear hs2
  obtain ⟨s3, hs3⟩ : ∃ s, foldS holdS (flagB holB L) n s2 = s := ⟨_, rfl⟩
  rw [hs3] at HTR
  have HS3 := Lib.hid hs3
  clear hs3
  rw [HTR.out]
  clear HTR
  obtain ⟨I0, hI0⟩ : ∃ I, idxF (delB t) L n = I := ⟨_, rfl⟩
  obtain ⟨I1, hI1⟩ : ∃ I, idxF (agB t) L n = I := ⟨_, rfl⟩
  obtain ⟨I2, hI2⟩ : ∃ I, idxF holB L n = I := ⟨_, rfl⟩
  have HI0 := Lib.hid hI0
  have HI1 := Lib.hid hI1
  have HI2 := Lib.hid hI2
  clear hI0 hI1 hI2
  obtain ⟨wb, hwb, S⟩ := hs_two w 31 31 (lT t A n cap) [.int .u64 0, .int .u64 0, .int .u32 0, .int .i64 0, .int .i64 0, .int .i64 0, .int .i64 0, .int .i64 0, .int .i64 0, .int .i64 0, .bool false, .bool false, .bool false, .int .i64 0, .bool false, .int .i64 0, .bool false, .int .i64 0, .slice none 0 0]
  go_enter Tryz.func7, Tryz.ntmps7
  go_upto_region 1 with fail
  clear hwb
  obtain ⟨X, hX⟩ : ∃ q, w.heap.size = q := ⟨_, rfl⟩
  rw [hX] at S
  obtain ⟨Y, hY⟩ : ∃ q, X + 1 = q := ⟨_, rfl⟩
  rw [hY] at S
  rw [hX]
  rw [hY]
  clear hX hY
  have HC := Lib.hid (tcopy_is t A n cap L hL hf2 hc wb (Lib.hid ((hp.out.below S.old (Nat.le_refl _)).wide S.old.size)))
  have hx := S.bk 1 rfl
  go_wp2_with (with_reducible refine wpList_load_row rfl 31 (.tmp 1) rfl X (by kernel_rfl) _ _ (0, 0) _ hx Tryz.underlying31 rfl (by kernel_rfl) ?_)
  (with_reducible refine HC.out.mono ?_); rintro e w1 ⟨D, c, rfl, hz, k1⟩
  have S1 := TS.take S k1
  have HZ := Lib.hid hz
  clear S hx HC k1 hz
  have hx := S1.hs.bk 1 rfl
  go_upto_region 2 with (refine wpList_store_row rfl 31 _ _ rfl X _ rfl rfl _ _ hx (by kernel_rfl) (by kernel_rfl) (by kernel_rfl) ?_)
  have S2 : TS w [(Y, 31, [.int .u64 0, .int .u64 0, .int .u32 0, .int .i64 0, .int .i64 0, .int .i64 0, .int .i64 0, .int .i64 0, .int .i64 0, .int .i64 0, .bool false, .bool false, .bool false, .int .i64 0, .bool false, .int .i64 0, .bool false, .int .i64 0, .slice none 0 0]), (X, 31, lT t D n c)] D L _ := S1.row 1 rfl (lT t D n c)
  generalize w1.setRow X (lT t D n c).toArray = w2 at S2 ⊢
  clear S1 hx
  have k4 := S2.hs.cell 1 4 rfl rfl
  have k5 := S2.hs.cell 1 5 rfl rfl
  have k6 := S2.hs.cell 1 6 rfl rfl
  go_wp2_with fail
  (with_reducible refine (tasks_is _ _ _ _).mono ?_); rintro e w3 ⟨gk, rfl, hbk, hgk, b3⟩
  have S3 := S2.more (hs_box b3 hbk hgk)
  clear S2 k4 k5 k6 hbk hgk b3
  have hmk := make_rows w3
  go_upto_region 4 with fail
  have S4 := S3.al rfl 72 [.slice none 0 0, .slice none 0 0, .slice none 0 0]
  obtain ⟨PB, hPB⟩ : ∃ q, w3.heap.size = q := ⟨_, rfl⟩
  rw [hPB] at S4 hmk ⊢
  obtain ⟨w4, hw4⟩ : ∃ q, w3.alloc (.cells ([.slice none 0 0, .slice none 0 0, .slice none 0 0] : List Value).toArray 72) = q := ⟨_, rfl⟩
  first | rw [hw4] at S4 ⊢ | (rw [show w3.alloc (.cells #[.slice none 0 0, .slice none 0 0, .slice none 0 0] 72) = w4 from hw4]; rw [hw4] at S4)
  clear hw4 hPB hmk S3
  go_wp2
  go_loopw [25] (fun i wr => ∃ k : Nat, k ≤ 3 ∧ i = .int .i64 k ∧ ∃ r0 r1 r2, TS w [(PB, 72, [r0, r1, r2]), (gk, 71, lK t.n1 t.n3), (Y, 31, [.int .u64 0, .int .u64 0, .int .u32 0, .int .i64 0, .int .i64 0, .int .i64 0, .int .i64 0, .int .i64 0, .int .i64 0, .int .i64 0, .bool false, .bool false, .bool false, .int .i64 0, .bool false, .int .i64 0, .bool false, .int .i64 0, .slice none 0 0]), (X, 31, lT t D n c)] D (ranK t L k) wr ∧ I3 wr w.heap.size r0 r1 r2 (selI 0 k I0) (selI 1 k I1) (selI 2 k I2)) (fun i _ => 3 - (intOf i).toNat)
  case atStart => exact ⟨0, Nat.zero_le _, rfl, _, _, _, S4, OwnL.nil _ _ _, OwnL.nil _ _ _, OwnL.nil _ _ _⟩
  case round =>
    clear S4
    obtain ⟨k, hk, rfl, r0, r1, r2, S, hI⟩ := hrel
    match k, hk with
    | 0, _ =>
      have d0 := S.hs.cell 1 0 rfl rfl
      have d1 := S.hs.cell 1 1 rfl rfl
      have d2 := S.hs.cell 1 2 rfl rfl
      go_upto_region 7 with (refine wpList_store_row rfl 71 _ _ rfl _ _ rfl rfl _ _ (heap_alloc_new _ _) (by kernel_rfl) (by kernel_rfl) (by kernel_rfl) ?_)
      rw [alloc_row]
      clear d0 d1 d2
      have S2 := S.al rfl 71 [.func (.func 46) #[] #[], .int .i64 t.n3, .func (.func 47) #[] #[]]
      have hI2 := hI.below (new_below wr (.cells ([.func (.func 46) #[] #[], .int .i64 t.n3, .func (.func 47) #[] #[]] : List Value).toArray 71))
      obtain ⟨KX, hKX⟩ : ∃ q, wr.heap.size = q := ⟨_, rfl⟩
      rw [hKX] at S2 ⊢
      obtain ⟨w2, hw2⟩ : ∃ q, wr.alloc (.cells ([.func (.func 46) #[] #[], .int .i64 t.n3, .func (.func 47) #[] #[]] : List Value).toArray 71) = q := ⟨_, rfl⟩
      rw [hw2] at S2 hI2 ⊢
      clear hw2 hKX S hI
      have HC := Lib.hid (ranout_is kdelay (.func (.func 47) #[] #[]) t.n3 (by have := hT.out; unfold TkF at this; omega) (by have := hT.out; unfold TkF at this; omega) D n c L (fD t) (delB t) (Lib.hid (fun _ => rfl)) (Lib.hid (fun _ => rfl)) (Lib.hid (fun p hp => ⟨(hPT.out p hp).1.1, (hPT.out p hp).1.2.1⟩)) (Lib.hid (by intro y hy; simp only [List.mem_cons, List.not_mem_nil, or_false] at hy; rcases hy with rfl | rfl | rfl | rfl | rfl <;> (dsimp only; decide))) hL hf2 S2)
      rw [HI0.out] at HC
      have c18 := S2.hs.cell 4 18 rfl rfl
      have e0 := S2.hs.cell 0 0 rfl rfl
      have e1 := S2.hs.cell 0 1 rfl rfl
      have e2 := S2.hs.cell 0 2 rfl rfl
      go_wp2_with fail
      (with_reducible refine HC.out.mono ?_); rintro e w3 ⟨v, rfl, S3, hI, fr⟩
      have hI3 := hI2.fr fr (Nat.le_refl _)
      have hIv : IntsR w3 w.heap.size v _ := hI.mono S2.old.size
      clear S2 hI2 HC c18 e0 e1 e2 hI fr
      obtain ⟨Av, qv, rfl⟩ := OwnL.shape hIv
      have pk := S3.hs.cell 1 0 rfl rfl
      have fk := S3.hs.thaw 1 0 rfl
      obtain ⟨v, hv2⟩ : ∃ v, v = Value.slice Av I0.length qv := ⟨_, rfl⟩
      rw [← hv2] at hIv
      have S5 := (S3.set 1 rfl 0 v).tail
      have hI5 := hI3.but (w' := w3.setCell ⟨PB, 0, none⟩ v) (S3.1.1 1 _ _ _ rfl).1 (by decide) (fun b hb => Below.heap_setCell _ ⟨PB, 0, none⟩ _ b hb)
      have hJ5 := hIv.but (w' := w3.setCell ⟨PB, 0, none⟩ v) (S3.1.1 1 _ _ _ rfl).1 (by decide) (fun b hb => Below.heap_setCell _ ⟨PB, 0, none⟩ _ b hb)
      clear S3 hI3 hIv
      subst hv2
      go_wp2
      go_roundw
      case rel => exact ⟨1, by omega, by go_num, _, _, _, S5, ⟨hJ5, hI5.2.1, hI5.2.2⟩⟩
      case measure => simp [intOf]
    | 1, _ =>
      have d0 := S.hs.cell 1 3 rfl rfl
      have d1 := S.hs.cell 1 4 rfl rfl
      have d2 := S.hs.cell 1 5 rfl rfl
      go_upto_region 7 with (refine wpList_store_row rfl 71 _ _ rfl _ _ rfl rfl _ _ (heap_alloc_new _ _) (by kernel_rfl) (by kernel_rfl) (by kernel_rfl) ?_)
      rw [alloc_row]
      clear d0 d1 d2
      have S2 := S.al rfl 71 [.func (.func 48) #[] #[], .int .i64 t.n1, .func (.func 49) #[] #[]]
      have hI2 := hI.below (new_below wr (.cells ([.func (.func 48) #[] #[], .int .i64 t.n1, .func (.func 49) #[] #[]] : List Value).toArray 71))
      obtain ⟨KX, hKX⟩ : ∃ q, wr.heap.size = q := ⟨_, rfl⟩
      rw [hKX] at S2 ⊢
      obtain ⟨w2, hw2⟩ : ∃ q, wr.alloc (.cells ([.func (.func 48) #[] #[], .int .i64 t.n1, .func (.func 49) #[] #[]] : List Value).toArray 71) = q := ⟨_, rfl⟩
      rw [hw2] at S2 hI2 ⊢
      clear hw2 hKX S hI
      have HC := Lib.hid (ranout_is kage (.func (.func 49) #[] #[]) t.n1 (by have := hT.out; unfold TkF at this; omega) (by have := hT.out; unfold TkF at this; omega) D n c (ran1 t L) (fA t) (agB t) (Lib.hid (fun _ => rfl)) (Lib.hid (fun _ => rfl)) (Lib.hid (ran_mem (f := fD t) (Q := fun p => 0 ≤ p.av ∧ p.av ≤ 1073741824) (fun p hp => ⟨(hPT.out p hp).2.1.1, (hPT.out p hp).2.1.2.1⟩))) (Lib.hid (by intro y hy; simp only [List.mem_cons, List.not_mem_nil, or_false] at hy; rcases hy with rfl | rfl | rfl | rfl | rfl <;> (dsimp only; decide))) (Lib.hid ((ran_len t L).1.trans hL.out)) hf2 S2)
      rw [idx_age, HI1.out] at HC
      have c18 := S2.hs.cell 4 18 rfl rfl
      have e0 := S2.hs.cell 0 0 rfl rfl
      have e1 := S2.hs.cell 0 1 rfl rfl
      have e2 := S2.hs.cell 0 2 rfl rfl
      go_wp2_with fail
      (with_reducible refine HC.out.mono ?_); rintro e w3 ⟨v, rfl, S3, hI, fr⟩
      have hI3 := hI2.fr fr (Nat.le_refl _)
      have hIv : IntsR w3 w.heap.size v _ := hI.mono S2.old.size
      clear S2 hI2 HC c18 e0 e1 e2 hI fr
      obtain ⟨Av, qv, rfl⟩ := OwnL.shape hIv
      have pk := S3.hs.cell 1 1 rfl rfl
      have fk := S3.hs.thaw 1 1 rfl
      obtain ⟨v, hv2⟩ : ∃ v, v = Value.slice Av I1.length qv := ⟨_, rfl⟩
      rw [← hv2] at hIv
      have S5 := (S3.set 1 rfl 1 v).tail
      have hI5 := hI3.but (w' := w3.setCell ⟨PB, 1, none⟩ v) (S3.1.1 1 _ _ _ rfl).1 (by decide) (fun b hb => Below.heap_setCell _ ⟨PB, 1, none⟩ _ b hb)
      have hJ5 := hIv.but (w' := w3.setCell ⟨PB, 1, none⟩ v) (S3.1.1 1 _ _ _ rfl).1 (by decide) (fun b hb => Below.heap_setCell _ ⟨PB, 1, none⟩ _ b hb)
      clear S3 hI3 hIv
      subst hv2
      go_wp2
      go_roundw
      case rel => exact ⟨2, by omega, by go_num, _, _, _, S5, ⟨hI5.1, hJ5, hI5.2.2⟩⟩
      case measure => simp [intOf]
    | 2, _ =>
      have d0 := S.hs.cell 1 6 rfl rfl
      have d1 := S.hs.cell 1 7 rfl rfl
      have d2 := S.hs.cell 1 8 rfl rfl
      go_upto_region 7 with (refine wpList_store_row rfl 71 _ _ rfl _ _ rfl rfl _ _ (heap_alloc_new _ _) (by kernel_rfl) (by kernel_rfl) (by kernel_rfl) ?_)
      rw [alloc_row]
      clear d0 d1 d2
      have S2 := S.al rfl 71 [.func (.func 50) #[] #[], .int .i64 256, .func (.func 52) #[] #[]]
      have hI2 := hI.below (new_below wr (.cells ([.func (.func 50) #[] #[], .int .i64 256, .func (.func 52) #[] #[]] : List Value).toArray 71))
      obtain ⟨KX, hKX⟩ : ∃ q, wr.heap.size = q := ⟨_, rfl⟩
      rw [hKX] at S2 ⊢
      obtain ⟨w2, hw2⟩ : ∃ q, wr.alloc (.cells ([.func (.func 50) #[] #[], .int .i64 256, .func (.func 52) #[] #[]] : List Value).toArray 71) = q := ⟨_, rfl⟩
      rw [hw2] at S2 hI2 ⊢
      clear hw2 hKX S hI
      have HC := Lib.hid (ranout_is khold (.func (.func 52) #[] #[]) 256 (by decide) (by decide) D n c (ran2 t L) fH holB (Lib.hid (fun _ => rfl)) (Lib.hid (fun _ => rfl)) (Lib.hid (ran_mem (f := fA t) (Q := fun p => 0 ≤ p.hv ∧ p.hv ≤ 1073741824) (ran_mem (f := fD t) (Q := fun p => 0 ≤ (fA t p).hv ∧ (fA t p).hv ≤ 1073741824) (fun p hp => ⟨(hPT.out p hp).2.2.1, (hPT.out p hp).2.2.2.1⟩)))) (Lib.hid (by intro y hy; simp only [List.mem_cons, List.not_mem_nil, or_false] at hy; rcases hy with rfl | rfl | rfl | rfl | rfl <;> (dsimp only; decide))) (Lib.hid ((ran_len t L).2.1.trans hL.out)) hf2 S2)
      rw [idx_hold, HI2.out] at HC
      have c18 := S2.hs.cell 4 18 rfl rfl
      have e0 := S2.hs.cell 0 0 rfl rfl
      have e1 := S2.hs.cell 0 1 rfl rfl
      have e2 := S2.hs.cell 0 2 rfl rfl
      go_wp2_with fail
      (with_reducible refine HC.out.mono ?_); rintro e w3 ⟨v, rfl, S3, hI, fr⟩
      have hI3 := hI2.fr fr (Nat.le_refl _)
      have hIv : IntsR w3 w.heap.size v _ := hI.mono S2.old.size
      clear S2 hI2 HC c18 e0 e1 e2 hI fr
      obtain ⟨Av, qv, rfl⟩ := OwnL.shape hIv
      have pk := S3.hs.cell 1 2 rfl rfl
      have fk := S3.hs.thaw 1 2 rfl
      obtain ⟨v, hv2⟩ : ∃ v, v = Value.slice Av I2.length qv := ⟨_, rfl⟩
      rw [← hv2] at hIv
      have S5 := (S3.set 1 rfl 2 v).tail
      have hI5 := hI3.but (w' := w3.setCell ⟨PB, 2, none⟩ v) (S3.1.1 1 _ _ _ rfl).1 (by decide) (fun b hb => Below.heap_setCell _ ⟨PB, 2, none⟩ _ b hb)
      have hJ5 := hIv.but (w' := w3.setCell ⟨PB, 2, none⟩ v) (S3.1.1 1 _ _ _ rfl).1 (by decide) (fun b hb => Below.heap_setCell _ ⟨PB, 2, none⟩ _ b hb)
      clear S3 hI3 hIv
      subst hv2
      go_wp2
      go_roundw
      case rel => exact ⟨3, by omega, by go_num, _, _, _, S5, ⟨hI5.1, hI5.2.1, hJ5⟩⟩
      case measure => simp [intOf]
    | 3, _ =>
      have hI' : I3 wr w.heap.size r0 r1 r2 I0 I1 I2 := hI
      clear hI
      have hI := hI'
      clear hI'
      have S' : TS w [(PB, 72, [r0, r1, r2]), (gk, 71, lK t.n1 t.n3), (Y, 31, [.int .u64 0, .int .u64 0, .int .u32 0, .int .i64 0, .int .i64 0, .int .i64 0, .int .i64 0, .int .i64 0, .int .i64 0, .int .i64 0, .bool false, .bool false, .bool false, .int .i64 0, .bool false, .int .i64 0, .bool false, .int .i64 0, .slice none 0 0]), (X, 31, lT t D n c)] D (L.map (tkP t)) wr := by rw [← ran3_is]; exact S
      clear S
      have S := S'
      clear S'
      obtain ⟨A0, q0, rfl⟩ := OwnL.shape hI.1
      obtain ⟨A1, q1, rfl⟩ := OwnL.shape hI.2.1
      obtain ⟨A2, q2, rfl⟩ := OwnL.shape hI.2.2
      have HC := Lib.hid (bridge_is t D n c (L.map (tkP t)) hT hM (Lib.hid (by intro y hy; simp only [List.mem_cons, List.not_mem_nil, or_false] at hy; rcases hy with rfl | rfl | rfl | rfl <;> (dsimp only; decide))) (Lib.hid (by rw [List.length_map]; exact hL.out)) hf2 ht HNB (Lib.hid (TkB.first ⟨ht.out, hT.out, hb.out, hL.out, hU.out⟩ hPT.out).2.2.1) HZ HD.out S)
      rw [← tick1_is, HS0.out] at HC
      have hx := S.hs.bk 3 rfl
      go_wp2_with (with_reducible refine wpList_load_row rfl 31 (.tmp 1) rfl X (by kernel_rfl) _ _ (0, 0) _ hx Tryz.underlying31 rfl (by kernel_rfl) ?_)
      (with_reducible refine HC.out.mono ?_); rintro e w5 ⟨D1, c1, v, rfl, hz1, S5, hO, fr⟩
      have hI5 := hI.fr fr (Nat.le_refl _)
      have hO5 := hO.mono S.old.size
      have HZ1 := Lib.hid hz1
      clear S hx HC hI hO fr hz1
      have hx := S5.hs.bk 3 rfl
      go_upto_region 10 with (refine wpList_store_row rfl 31 _ _ rfl X _ rfl rfl _ _ hx (by kernel_rfl) (by kernel_rfl) (by kernel_rfl) ?_)
      have S6 : TS w [(PB, 72, [.slice A0 I0.length q0, .slice A1 I1.length q1, .slice A2 I2.length q2]), (gk, 71, lK t.n1 t.n3), (Y, 31, [.int .u64 0, .int .u64 0, .int .u32 0, .int .i64 0, .int .i64 0, .int .i64 0, .int .i64 0, .int .i64 0, .int .i64 0, .int .i64 0, .bool false, .bool false, .bool false, .int .i64 0, .bool false, .int .i64 0, .bool false, .int .i64 0, .slice none 0 0]), (X, 31, lT s0.1.1 D1 n c1)] D1 s0.1.2 _ := S5.row 3 rfl (lT s0.1.1 D1 n c1)
      have hO6 := hO5.store S5.hs 3 rfl (lT s0.1.1 D1 n c1).toArray
      have hI6 := hI5.but (w' := w5.setRow X (lT s0.1.1 D1 n c1).toArray) (S5.1.1 3 _ _ _ rfl).1 (by decide) (fun b hb => setRow_other w5 X b _ hb)
      generalize w5.setRow X (lT s0.1.1 D1 n c1).toArray = w6 at S6 hO6 hI6 ⊢
      clear S5 hO5 hI5 hx
      go_wp2
      go_loopw [8, 45] (fun o i wr => ∃ k : Nat, k ≤ 3 ∧ i = .int .i64 k ∧ ∃ D c, (D = none → c = 0) ∧ TS w [(PB, 72, [.slice A0 I0.length q0, .slice A1 I1.length q1, .slice A2 I2.length q2]), (gk, 71, lK t.n1 t.n3), (Y, 31, [.int .u64 0, .int .u64 0, .int .u32 0, .int .i64 0, .int .i64 0, .int .i64 0, .int .i64 0, .int .i64 0, .int .i64 0, .int .i64 0, .bool false, .bool false, .bool false, .int .i64 0, .bool false, .int .i64 0, .bool false, .int .i64 0, .slice none 0 0]), (X, 31, lT (phK s0 s1 s2 s3 k).1.1 D n c)] D (phK s0 s1 s2 s3 k).1.2 wr ∧ OutsR wr w.heap.size o (phK s0 s1 s2 s3 k).2 ∧ I3 wr w.heap.size (.slice A0 I0.length q0) (.slice A1 I1.length q1) (.slice A2 I2.length q2) I0 I1 I2) (fun _ i _ => 3 - (intOf i).toNat)
      case atStart => exact ⟨0, Nat.zero_le _, rfl, D1, c1, HZ1.out, S6, hO6, hI6⟩
      case round =>
        clear S6 hO6 hI6 HZ HZ1
        obtain ⟨k, hk, rfl, D2, c2, hz2, S, hO, hI⟩ := hrel
        match k, hk with
        | 0, _ =>
          have S' : TS w [(PB, 72, [.slice A0 I0.length q0, .slice A1 I1.length q1, .slice A2 I2.length q2]), (gk, 71, lK t.n1 t.n3), (Y, 31, [.int .u64 0, .int .u64 0, .int .u32 0, .int .i64 0, .int .i64 0, .int .i64 0, .int .i64 0, .int .i64 0, .int .i64 0, .int .i64 0, .bool false, .bool false, .bool false, .int .i64 0, .bool false, .int .i64 0, .bool false, .int .i64 0, .slice none 0 0]), (X, 31, lT s0.1.1 D2 n c2)] D2 s0.1.2 wr := S
          have hO' : OutsR wr w.heap.size u8 s0.2 := hO
          clear S hO
          have d0 := S'.hs.cell 1 0 rfl rfl
          have d1 := S'.hs.cell 1 1 rfl rfl
          have d2 := S'.hs.cell 1 2 rfl rfl
          go_upto_region 13 with (refine wpList_store_row rfl 71 _ _ rfl _ _ rfl rfl _ _ (heap_alloc_new _ _) (by kernel_rfl) (by kernel_rfl) (by kernel_rfl) ?_)
          rw [alloc_row]
          clear d0 d1 d2
          have S2 := S'.al rfl 71 [.func (.func 46) #[] #[], .int .i64 t.n3, .func (.func 47) #[] #[]]
          have bN := new_below wr (.cells ([.func (.func 46) #[] #[], .int .i64 t.n3, .func (.func 47) #[] #[]] : List Value).toArray 71)
          have hI2 := hI.below bN
          have hO2 := hO'.below bN
          obtain ⟨KX, hKX⟩ : ∃ q, wr.heap.size = q := ⟨_, rfl⟩
          rw [hKX] at S2 ⊢
          obtain ⟨w2, hw2⟩ : ∃ q, wr.alloc (.cells ([.func (.func 46) #[] #[], .int .i64 t.n3, .func (.func 47) #[] #[]] : List Value).toArray 71) = q := ⟨_, rfl⟩
          rw [hw2] at S2 hI2 hO2 ⊢
          clear hw2 hKX S' hI hO' bN
          have pk := S2.hs.cell 1 0 rfl rfl
          go_wp2
          clear pk
          go_loopw [8, 55] (fun o i wr => ∃ kk : Nat, kk ≤ I0.length ∧ i = .int .i64 kk ∧ ∃ D c, (D = none → c = 0) ∧ TS w [(KX, 71, [.func (.func 46) #[] #[], .int .i64 t.n3, .func (.func 47) #[] #[]]), (PB, 72, [.slice A0 I0.length q0, .slice A1 I1.length q1, .slice A2 I2.length q2]), (gk, 71, lK t.n1 t.n3), (Y, 31, [.int .u64 0, .int .u64 0, .int .u32 0, .int .i64 0, .int .i64 0, .int .i64 0, .int .i64 0, .int .i64 0, .int .i64 0, .int .i64 0, .bool false, .bool false, .bool false, .int .i64 0, .bool false, .int .i64 0, .bool false, .int .i64 0, .slice none 0 0]), (X, 31, lT (stK delayS I0 s0 kk).1.1 D n c)] D (stK delayS I0 s0 kk).1.2 wr ∧ OutsR wr w.heap.size o (stK delayS I0 s0 kk).2 ∧ I3 wr w.heap.size (.slice A0 I0.length q0) (.slice A1 I1.length q1) (.slice A2 I2.length q2) I0 I1 I2) (fun _ i _ => I0.length - (intOf i).toNat)
          case atStart => exact ⟨0, Nat.zero_le _, rfl, D2, c2, hz2, S2, hO2, hI2⟩
          case round =>
            clear S2 hO2 hI2 hz2
            obtain ⟨kk, hkk, rfl, D3, c3, hz3, S, hO, hI⟩ := hrel
            have HZ3 := Lib.hid hz3
            clear hz3
            by_cases hkn : kk < I0.length
            · obtain ⟨i, hi⟩ : ∃ i, I0[kk]? = some i := ⟨I0[kk], List.getElem?_eq_getElem hkn⟩
              have hin : i < n := by have := idx_lt (delB t) L n i (by rw [HI0.out]; exact List.mem_of_getElem? hi); rw [hL.out] at this; exact this
              have hst := stK_step (f := delayS) (s := s0) hi
              have HKB := Lib.hid (show TkB (stK delayS I0 s0 kk).1 n from stK_keeps (P := fun s => TkB s.1 n) HK0.out (fun s i h => h.delay i) kk)
              have hfew := stK_few (I := I0) HF0.out (fun s i m h => few_delay h i) kk
              obtain ⟨z, hz⟩ : ∃ z, (stK delayS I0 s0 kk) = z := ⟨_, rfl⟩
              rw [hz] at HKB hfew hst S hO
              clear hz
              have hlen0 : z.2.length ≤ 90000 := by
                have h1 := hfew.1
                have h2 : kk * (n + 2) ≤ 100 * 102 := Nat.mul_le_mul (by have := idx_len (delB t) L n; rw [HI0.out] at this; omega) (by omega)
                have h3 : n * (n + 2) ≤ 100 * 102 := Nat.mul_le_mul hf (by omega)
                omega
              clear hfew
              obtain ⟨p, hp2⟩ := po_at HKB.out.2.2.2.1 hin
              rw [delay_is hp2] at hst
              have HST := Lib.hid hst
              have HP2 := Lib.hid hp2
              clear hst hp2
              obtain ⟨gi, e, -, -, hci⟩ := OwnL.at hI.1 encI_len hi
              subst e
              have ci : wr.cell? ⟨gi, kk, none⟩ = some (.int .i64 i) := by have := hci 0 (by decide); rw [Nat.mul_one] at this; exact this
              clear hci hi
              have hki : (kk : Int) < (I0.length : Int) := by omega
              have hkz : ¬ (I0.length : Int) ≤ (kk : Int) := by omega
              have HKN := Lib.hid hkn
              go_upto_region 16 with fail
              clear ci
              have HR2 := Lib.hid (show (goR z.1.1 z.1.2 i p).2.length ≤ n + 2 from (by have := (few_delay (n := n) (m := 0) (s := (z.1, [])) ⟨Nat.le_refl _, HKB.out.2.2.2.1⟩ i).1; rw [delay_is (s := (z.1, [])) HP2.out] at this; dsimp only at this; rw [List.nil_append] at this; omega))
              have HC := Lib.hid (goon_is z.1.1 D3 n c3 z.1.2 i p HP2  (Lib.hid (by intro y hy; simp only [List.mem_cons, List.not_mem_nil, or_false] at hy; rcases hy with rfl | rfl | rfl | rfl | rfl <;> (dsimp only; decide))) (Lib.hid HKB.out.2.2.2.1) hf2 (Lib.hid HKB.out.1) (Lib.hid (nb_of HKB.out.2.1)) (Lib.hid HKB.out.2.2.1) HZ3 HD.out S)
              obtain ⟨R, hR⟩ : ∃ R, goR z.1.1 z.1.2 i p = R := ⟨_, rfl⟩
              rw [hR] at HC HST HR2
              clear hR
              have x2 := S.hs.cell 0 2 rfl rfl
              have hx := S.hs.bk 4 rfl
              go_wp2_with (with_reducible refine wpList_load_row rfl 31 (.tmp 1) rfl X (by kernel_rfl) _ _ (0, 0) _ hx Tryz.underlying31 rfl (by kernel_rfl) ?_)
              (with_reducible refine HC.out.mono ?_); rintro e w5 ⟨D4, c4, v, rfl, hz4, S5, hQ5, fr⟩
              have hO5 := hO.fr fr (Nat.le_refl _)
              have hI5 := hI.fr fr (Nat.le_refl _)
              have HZ4 := Lib.hid hz4
              have HWQ := Lib.hid S.old.size
              clear S hO hI x2 hx HC fr hz4
              go_upto_region 17 with (refine wpList_store_row rfl 31 _ _ rfl _ _ rfl rfl _ _ (heap_alloc_new _ _) (by kernel_rfl) (by kernel_rfl) (by kernel_rfl) ?_)
              rw [alloc_row]
              have bN := new_below w5 (.cells (lT R.1.1 D4 n c4).toArray 31)
              have S6 := S5.al rfl 31 (lT R.1.1 D4 n c4)
              have hO6 := hO5.below bN
              have hQ6 := hQ5.below bN
              have hI6 := hI5.below bN
              obtain ⟨V, hV⟩ : ∃ q, w5.heap.size = q := ⟨_, rfl⟩
              rw [hV] at S6 ⊢
              obtain ⟨w6, hw6⟩ : ∃ y, w5.alloc (.cells (lT R.1.1 D4 n c4).toArray 31) = y := ⟨_, rfl⟩
              rw [hw6] at S6 hO6 hQ6 hI6 ⊢
              clear hw6 hV bN S5 hO5 hQ5 hI5
              have hlen : z.2.length + R.2.length ≤ 100000 := by have := HR2.out; omega
              refine wp_region_held_drew (S := (fun w' => Bk w' V 31 (lT R.1.1 D4 n c4))) (by kernel_rfl) ((S6.hs.1 0 _ _ _ rfl).1) (fun hHeld => ?_)
              have Sd := S6.below ((Below.refl _ _).drew)
              have hOd := hO6.below ((Below.refl _ _).drew)
              have hQd := hQ6.below ((Below.refl _ _).drew)
              have hId := hI6.below ((Below.refl _ _).drew)
              obtain ⟨vd, hvd⟩ : ∃ y, w6.drew = y := ⟨_, rfl⟩
              rw [hvd] at Sd hOd hQd hId hHeld ⊢
              clear hvd S6 hO6 hQ6 hI6
              have hbd : w.heap.size ≤ vd.heap.size := Sd.old.size
              obtain ⟨_, _, hown⟩ := hOd.own
              refine wpAnyH_take (i := 0) (v := _) rfl (by kernel_rfl) (by kernel_rfl) (by kernel_rfl) (fun _ _ _ h => h) (Or.inl ⟨by kernel_rfl, fun w' hSw => exec_load_row 31 _ rfl V (by kernel_rfl) _ _ (0, 0) _ (hSw) Tryz.underlying31 rfl (by kernel_rfl)⟩) (by assumption) ?_
              try simp only [Act.put, List.getElem_toArray, List.getElem_cons_succ, List.getElem_cons_zero, List.setIfInBounds_toArray, List.set_cons_succ, List.set_cons_zero]
              refine wpAnyH_take (i := 1) (v := ?_) rfl (by kernel_rfl) (by kernel_rfl) (by kernel_rfl) (fun _ _ _ h => h) (Or.inl ⟨by kernel_rfl, ?_⟩) (by assumption) ?_
              rotate_left
              · intro w' hSw; (try dsimp only at hSw); go_simp; with_reducible rfl
              try simp only [Act.put, List.getElem_toArray, List.getElem_cons_succ, List.getElem_cons_zero, List.setIfInBounds_toArray, List.set_cons_succ, List.set_cons_zero]
              refine wpAnyH_take (i := 2) (v := ?_) rfl (by kernel_rfl) (by kernel_rfl) (by kernel_rfl) (fun _ _ _ h => h) (Or.inl ⟨by kernel_rfl, ?_⟩) (by assumption) ?_
              rotate_left
              · intro w' hSw; (try dsimp only at hSw); go_simp; with_reducible rfl
              try simp only [Act.put, List.getElem_toArray, List.getElem_cons_succ, List.getElem_cons_zero, List.setIfInBounds_toArray, List.set_cons_succ, List.set_cons_zero]
              refine wpAnyH_ready (rs := [3]) (by kernel_rfl) (by simp) ?_
              refine AllReadyH.cons rfl (fun K hK => ?_) AllReadyH.nil
              refine step_append_outs rfl (.tmp 68) (.tmp 69) (by kernel_rfl) w.heap.size wr.heap.size _ v z.2 R.2 (by kernel_rfl) (by kernel_rfl) hOd hQd HWQ.out hlen hbd ?_
              intro v' we hOe gr
              have Se := Sd.grownT hown gr (by intro y hy; simp only [List.mem_cons, List.not_mem_nil, or_false] at hy; rcases hy with rfl | rfl | rfl | rfl | rfl | rfl <;> (dsimp only; decide)) (Nat.le_refl _)
              have hIe := hId.grown hown gr
              clear Sd hOd hQd hId gr hown
              refine hK.out _ _ ((Se.hs.1 0 _ _ _ rfl).1) (fun hHeld => ?_)
              clear hK K
              try simp only [Act.put, List.getElem_toArray, List.getElem_cons_succ, List.getElem_cons_zero, List.setIfInBounds_toArray, List.set_cons_succ, List.set_cons_zero]
              have hy := Se.hs.bk 5 rfl
              refine wpAnyH_ready (rs := [4]) (by kernel_rfl) (by simp) ?_
              refine AllReadyH.cons rfl (fun K hK => ?_) AllReadyH.nil
              refine exec_if_store (by kernel_rfl) 31 (.tmp 1) (.tmp 67) rfl X (lT R.1.1 D4 n c4).toArray (by kernel_rfl) (by kernel_rfl) _ _ hy (by kernel_rfl) (by kernel_rfl) (by kernel_rfl) ?_
              have Sf := Se.row 5 rfl (lT R.1.1 D4 n c4)
              refine hK.out _ _ ((Sf.hs.1 0 _ _ _ rfl).1) (fun hHeld => ?_)
              clear hK K
              try simp only [Act.put, List.getElem_toArray, List.getElem_cons_succ, List.getElem_cons_zero, List.setIfInBounds_toArray, List.set_cons_succ, List.set_cons_zero]
              refine wpAnyH_take (i := 5) (v := ?_) rfl (by kernel_rfl) (by kernel_rfl) (by kernel_rfl) (fun _ _ _ h => h) (Or.inl ⟨by kernel_rfl, ?_⟩) (by assumption) ?_
              rotate_left
              · intro w' hSw; (try dsimp only at hSw); go_simp; with_reducible rfl
              try simp only [Act.put, List.getElem_toArray, List.getElem_cons_succ, List.getElem_cons_zero, List.setIfInBounds_toArray, List.set_cons_succ, List.set_cons_zero]
              refine wpAnyH_done (by kernel_rfl) ?_ _
              have hOf := hOe.store Se.hs 5 rfl (lT R.1.1 D4 n c4).toArray
              have hIf := hIe.but (w' := we.setRow X (lT R.1.1 D4 n c4).toArray) (Se.hs.1 5 _ _ _ rfl).1 (by decide) (fun b hb => setRow_other we X b _ hb)
              have S8 := Sf.tail
              clear Se hOe hIe Sf hy hHeld
              have hkn := HKN.out
              have hIn : I0.length ≤ 100 := by have := idx_len (delB t) L n; rw [HI0.out] at this; omega
              go_wp2
              go_roundw
              case rel => exact ⟨kk + 1, hkn, by go_num, D4, c4, HZ4.out, by rw [HST.out]; exact ⟨S8, hOf, hIf⟩⟩
              case measure => simp [intOf]; omega
            · have hkz : ¬ (kk : Int) < (I0.length : Int) := by omega
              have hke : kk = I0.length := by omega
              have hst : (stK delayS I0 s0 kk) = s1 := by rw [← HI0.out] at hke ⊢; rw [stK_end hke]; exact HS1.out
              rw [hst] at S hO
              go_wp2
              go_roundw
              case rel => exact ⟨1, by omega, by go_num, D3, c3, HZ3.out, S.tail, hO, hI⟩
              case measure => simp [intOf]
        | 1, _ =>
          have S' : TS w [(PB, 72, [.slice A0 I0.length q0, .slice A1 I1.length q1, .slice A2 I2.length q2]), (gk, 71, lK t.n1 t.n3), (Y, 31, [.int .u64 0, .int .u64 0, .int .u32 0, .int .i64 0, .int .i64 0, .int .i64 0, .int .i64 0, .int .i64 0, .int .i64 0, .int .i64 0, .bool false, .bool false, .bool false, .int .i64 0, .bool false, .int .i64 0, .bool false, .int .i64 0, .slice none 0 0]), (X, 31, lT s1.1.1 D2 n c2)] D2 s1.1.2 wr := S
          have hO' : OutsR wr w.heap.size u8 s1.2 := hO
          clear S hO
          have d0 := S'.hs.cell 1 3 rfl rfl
          have d1 := S'.hs.cell 1 4 rfl rfl
          have d2 := S'.hs.cell 1 5 rfl rfl
          go_upto_region 13 with (refine wpList_store_row rfl 71 _ _ rfl _ _ rfl rfl _ _ (heap_alloc_new _ _) (by kernel_rfl) (by kernel_rfl) (by kernel_rfl) ?_)
          rw [alloc_row]
          clear d0 d1 d2
          have S2 := S'.al rfl 71 [.func (.func 48) #[] #[], .int .i64 t.n1, .func (.func 49) #[] #[]]
          have bN := new_below wr (.cells ([.func (.func 48) #[] #[], .int .i64 t.n1, .func (.func 49) #[] #[]] : List Value).toArray 71)
          have hI2 := hI.below bN
          have hO2 := hO'.below bN
          obtain ⟨KX, hKX⟩ : ∃ q, wr.heap.size = q := ⟨_, rfl⟩
          rw [hKX] at S2 ⊢
          obtain ⟨w2, hw2⟩ : ∃ q, wr.alloc (.cells ([.func (.func 48) #[] #[], .int .i64 t.n1, .func (.func 49) #[] #[]] : List Value).toArray 71) = q := ⟨_, rfl⟩
          rw [hw2] at S2 hI2 hO2 ⊢
          clear hw2 hKX S' hI hO' bN
          have pk := S2.hs.cell 1 1 rfl rfl
          go_wp2
          clear pk
          go_loopw [8, 55] (fun o i wr => ∃ kk : Nat, kk ≤ I1.length ∧ i = .int .i64 kk ∧ ∃ D c, (D = none → c = 0) ∧ TS w [(KX, 71, [.func (.func 48) #[] #[], .int .i64 t.n1, .func (.func 49) #[] #[]]), (PB, 72, [.slice A0 I0.length q0, .slice A1 I1.length q1, .slice A2 I2.length q2]), (gk, 71, lK t.n1 t.n3), (Y, 31, [.int .u64 0, .int .u64 0, .int .u32 0, .int .i64 0, .int .i64 0, .int .i64 0, .int .i64 0, .int .i64 0, .int .i64 0, .int .i64 0, .bool false, .bool false, .bool false, .int .i64 0, .bool false, .int .i64 0, .bool false, .int .i64 0, .slice none 0 0]), (X, 31, lT (stK ageS I1 s1 kk).1.1 D n c)] D (stK ageS I1 s1 kk).1.2 wr ∧ OutsR wr w.heap.size o (stK ageS I1 s1 kk).2 ∧ I3 wr w.heap.size (.slice A0 I0.length q0) (.slice A1 I1.length q1) (.slice A2 I2.length q2) I0 I1 I2) (fun _ i _ => I1.length - (intOf i).toNat)
          case atStart => exact ⟨0, Nat.zero_le _, rfl, D2, c2, hz2, S2, hO2, hI2⟩
          case round =>
            clear S2 hO2 hI2 hz2
            obtain ⟨kk, hkk, rfl, D3, c3, hz3, S, hO, hI⟩ := hrel
            have HZ3 := Lib.hid hz3
            clear hz3
            by_cases hkn : kk < I1.length
            · obtain ⟨i, hi⟩ : ∃ i, I1[kk]? = some i := ⟨I1[kk], List.getElem?_eq_getElem hkn⟩
              have hin : i < n := by have := idx_lt (agB t) L n i (by rw [HI1.out]; exact List.mem_of_getElem? hi); rw [hL.out] at this; exact this
              have hst := stK_step (f := ageS) (s := s1) hi
              have HKB := Lib.hid (show TkB (stK ageS I1 s1 kk).1 n from stK_keeps (P := fun s => TkB s.1 n) HK1.out (fun s i h => h.age hf2 i) kk)
              have hfew := stK_few (I := I1) HF1.out (fun s i m h => few_age h i) kk
              obtain ⟨z, hz⟩ : ∃ z, (stK ageS I1 s1 kk) = z := ⟨_, rfl⟩
              rw [hz] at HKB hfew hst S hO
              clear hz
              have hlen0 : z.2.length ≤ 90000 := by
                have h1 := hfew.1
                have h2 : kk * (n + 2) ≤ 100 * 102 := Nat.mul_le_mul (by have := idx_len (agB t) L n; rw [HI1.out] at this; omega) (by omega)
                have h3 : n * (n + 2) ≤ 100 * 102 := Nat.mul_le_mul hf (by omega)
                omega
              clear hfew
              obtain ⟨p, hp2⟩ := po_at HKB.out.2.2.2.1 hin
              rw [age_is16 hp2] at hst
              have HST := Lib.hid hst
              have HP2 := Lib.hid hp2
              clear hst hp2
              obtain ⟨gi, e, -, -, hci⟩ := OwnL.at hI.2.1 encI_len hi
              subst e
              have ci : wr.cell? ⟨gi, kk, none⟩ = some (.int .i64 i) := by have := hci 0 (by decide); rw [Nat.mul_one] at this; exact this
              clear hci hi
              have hki : (kk : Int) < (I1.length : Int) := by omega
              have hkz : ¬ (I1.length : Int) ≤ (kk : Int) := by omega
              have HKN := Lib.hid hkn
              go_upto_region 16 with fail
              clear ci
              have HR2 := Lib.hid (show (forgR z.1.1 z.1.2 i p).2.length ≤ n + 2 from (by have := (few_age (n := n) (m := 0) (s := (z.1, [])) ⟨Nat.le_refl _, HKB.out.2.2.2.1⟩ i).1; rw [age_is16 (s := (z.1, [])) HP2.out] at this; dsimp only at this; rw [List.nil_append] at this; omega))
              have HC := Lib.hid (forget_is z.1.1 D3 n c3 z.1.2 i p HP2 (Lib.hid HKB.out.2.1) (Lib.hid (by intro y hy; simp only [List.mem_cons, List.not_mem_nil, or_false] at hy; rcases hy with rfl | rfl | rfl | rfl | rfl <;> (dsimp only; decide))) (Lib.hid HKB.out.2.2.2.1) hf2 (Lib.hid HKB.out.1) (Lib.hid (nb_of HKB.out.2.1)) (Lib.hid HKB.out.2.2.1) HZ3 HD.out S)
              obtain ⟨R, hR⟩ : ∃ R, forgR z.1.1 z.1.2 i p = R := ⟨_, rfl⟩
              rw [hR] at HC HST HR2
              clear hR
              have x2 := S.hs.cell 0 2 rfl rfl
              have hx := S.hs.bk 4 rfl
              go_wp2_with (with_reducible refine wpList_load_row rfl 31 (.tmp 1) rfl X (by kernel_rfl) _ _ (0, 0) _ hx Tryz.underlying31 rfl (by kernel_rfl) ?_)
              (with_reducible refine HC.out.mono ?_); rintro e w5 ⟨D4, c4, v, rfl, hz4, S5, hQ5, fr⟩
              have hO5 := hO.fr fr (Nat.le_refl _)
              have hI5 := hI.fr fr (Nat.le_refl _)
              have HZ4 := Lib.hid hz4
              have HWQ := Lib.hid S.old.size
              clear S hO hI x2 hx HC fr hz4
              go_upto_region 17 with (refine wpList_store_row rfl 31 _ _ rfl _ _ rfl rfl _ _ (heap_alloc_new _ _) (by kernel_rfl) (by kernel_rfl) (by kernel_rfl) ?_)
              rw [alloc_row]
              have bN := new_below w5 (.cells (lT R.1.1 D4 n c4).toArray 31)
              have S6 := S5.al rfl 31 (lT R.1.1 D4 n c4)
              have hO6 := hO5.below bN
              have hQ6 := hQ5.below bN
              have hI6 := hI5.below bN
              obtain ⟨V, hV⟩ : ∃ q, w5.heap.size = q := ⟨_, rfl⟩
              rw [hV] at S6 ⊢
              obtain ⟨w6, hw6⟩ : ∃ y, w5.alloc (.cells (lT R.1.1 D4 n c4).toArray 31) = y := ⟨_, rfl⟩
              rw [hw6] at S6 hO6 hQ6 hI6 ⊢
              clear hw6 hV bN S5 hO5 hQ5 hI5
              have hlen : z.2.length + R.2.length ≤ 100000 := by have := HR2.out; omega
              refine wp_region_held_drew (S := (fun w' => Bk w' V 31 (lT R.1.1 D4 n c4))) (by kernel_rfl) ((S6.hs.1 0 _ _ _ rfl).1) (fun hHeld => ?_)
              have Sd := S6.below ((Below.refl _ _).drew)
              have hOd := hO6.below ((Below.refl _ _).drew)
              have hQd := hQ6.below ((Below.refl _ _).drew)
              have hId := hI6.below ((Below.refl _ _).drew)
              obtain ⟨vd, hvd⟩ : ∃ y, w6.drew = y := ⟨_, rfl⟩
              rw [hvd] at Sd hOd hQd hId hHeld ⊢
              clear hvd S6 hO6 hQ6 hI6
              have hbd : w.heap.size ≤ vd.heap.size := Sd.old.size
              obtain ⟨_, _, hown⟩ := hOd.own
              refine wpAnyH_take (i := 0) (v := _) rfl (by kernel_rfl) (by kernel_rfl) (by kernel_rfl) (fun _ _ _ h => h) (Or.inl ⟨by kernel_rfl, fun w' hSw => exec_load_row 31 _ rfl V (by kernel_rfl) _ _ (0, 0) _ (hSw) Tryz.underlying31 rfl (by kernel_rfl)⟩) (by assumption) ?_
              try simp only [Act.put, List.getElem_toArray, List.getElem_cons_succ, List.getElem_cons_zero, List.setIfInBounds_toArray, List.set_cons_succ, List.set_cons_zero]
              refine wpAnyH_take (i := 1) (v := ?_) rfl (by kernel_rfl) (by kernel_rfl) (by kernel_rfl) (fun _ _ _ h => h) (Or.inl ⟨by kernel_rfl, ?_⟩) (by assumption) ?_
              rotate_left
              · intro w' hSw; (try dsimp only at hSw); go_simp; with_reducible rfl
              try simp only [Act.put, List.getElem_toArray, List.getElem_cons_succ, List.getElem_cons_zero, List.setIfInBounds_toArray, List.set_cons_succ, List.set_cons_zero]
              refine wpAnyH_take (i := 2) (v := ?_) rfl (by kernel_rfl) (by kernel_rfl) (by kernel_rfl) (fun _ _ _ h => h) (Or.inl ⟨by kernel_rfl, ?_⟩) (by assumption) ?_
              rotate_left
              · intro w' hSw; (try dsimp only at hSw); go_simp; with_reducible rfl
              try simp only [Act.put, List.getElem_toArray, List.getElem_cons_succ, List.getElem_cons_zero, List.setIfInBounds_toArray, List.set_cons_succ, List.set_cons_zero]
              refine wpAnyH_ready (rs := [3]) (by kernel_rfl) (by simp) ?_
              refine AllReadyH.cons rfl (fun K hK => ?_) AllReadyH.nil
              refine step_append_outs rfl (.tmp 68) (.tmp 69) (by kernel_rfl) w.heap.size wr.heap.size _ v z.2 R.2 (by kernel_rfl) (by kernel_rfl) hOd hQd HWQ.out hlen hbd ?_
              intro v' we hOe gr
              have Se := Sd.grownT hown gr (by intro y hy; simp only [List.mem_cons, List.not_mem_nil, or_false] at hy; rcases hy with rfl | rfl | rfl | rfl | rfl | rfl <;> (dsimp only; decide)) (Nat.le_refl _)
              have hIe := hId.grown hown gr
              clear Sd hOd hQd hId gr hown
              refine hK.out _ _ ((Se.hs.1 0 _ _ _ rfl).1) (fun hHeld => ?_)
              clear hK K
              try simp only [Act.put, List.getElem_toArray, List.getElem_cons_succ, List.getElem_cons_zero, List.setIfInBounds_toArray, List.set_cons_succ, List.set_cons_zero]
              have hy := Se.hs.bk 5 rfl
              refine wpAnyH_ready (rs := [4]) (by kernel_rfl) (by simp) ?_
              refine AllReadyH.cons rfl (fun K hK => ?_) AllReadyH.nil
              refine exec_if_store (by kernel_rfl) 31 (.tmp 1) (.tmp 67) rfl X (lT R.1.1 D4 n c4).toArray (by kernel_rfl) (by kernel_rfl) _ _ hy (by kernel_rfl) (by kernel_rfl) (by kernel_rfl) ?_
              have Sf := Se.row 5 rfl (lT R.1.1 D4 n c4)
              refine hK.out _ _ ((Sf.hs.1 0 _ _ _ rfl).1) (fun hHeld => ?_)
              clear hK K
              try simp only [Act.put, List.getElem_toArray, List.getElem_cons_succ, List.getElem_cons_zero, List.setIfInBounds_toArray, List.set_cons_succ, List.set_cons_zero]
              refine wpAnyH_take (i := 5) (v := ?_) rfl (by kernel_rfl) (by kernel_rfl) (by kernel_rfl) (fun _ _ _ h => h) (Or.inl ⟨by kernel_rfl, ?_⟩) (by assumption) ?_
              rotate_left
              · intro w' hSw; (try dsimp only at hSw); go_simp; with_reducible rfl
              try simp only [Act.put, List.getElem_toArray, List.getElem_cons_succ, List.getElem_cons_zero, List.setIfInBounds_toArray, List.set_cons_succ, List.set_cons_zero]
              refine wpAnyH_done (by kernel_rfl) ?_ _
              have hOf := hOe.store Se.hs 5 rfl (lT R.1.1 D4 n c4).toArray
              have hIf := hIe.but (w' := we.setRow X (lT R.1.1 D4 n c4).toArray) (Se.hs.1 5 _ _ _ rfl).1 (by decide) (fun b hb => setRow_other we X b _ hb)
              have S8 := Sf.tail
              clear Se hOe hIe Sf hy hHeld
              have hkn := HKN.out
              have hIn : I1.length ≤ 100 := by have := idx_len (agB t) L n; rw [HI1.out] at this; omega
              go_wp2
              go_roundw
              case rel => exact ⟨kk + 1, hkn, by go_num, D4, c4, HZ4.out, by rw [HST.out]; exact ⟨S8, hOf, hIf⟩⟩
              case measure => simp [intOf]; omega
            · have hkz : ¬ (kk : Int) < (I1.length : Int) := by omega
              have hke : kk = I1.length := by omega
              have hst : (stK ageS I1 s1 kk) = s2 := by rw [← HI1.out] at hke ⊢; rw [stK_end hke]; exact HS2.out
              rw [hst] at S hO
              go_wp2
              go_roundw
              case rel => exact ⟨2, by omega, by go_num, D3, c3, HZ3.out, S.tail, hO, hI⟩
              case measure => simp [intOf]
        | 2, _ =>
          have S' : TS w [(PB, 72, [.slice A0 I0.length q0, .slice A1 I1.length q1, .slice A2 I2.length q2]), (gk, 71, lK t.n1 t.n3), (Y, 31, [.int .u64 0, .int .u64 0, .int .u32 0, .int .i64 0, .int .i64 0, .int .i64 0, .int .i64 0, .int .i64 0, .int .i64 0, .int .i64 0, .bool false, .bool false, .bool false, .int .i64 0, .bool false, .int .i64 0, .bool false, .int .i64 0, .slice none 0 0]), (X, 31, lT s2.1.1 D2 n c2)] D2 s2.1.2 wr := S
          have hO' : OutsR wr w.heap.size u8 s2.2 := hO
          clear S hO
          have d0 := S'.hs.cell 1 6 rfl rfl
          have d1 := S'.hs.cell 1 7 rfl rfl
          have d2 := S'.hs.cell 1 8 rfl rfl
          go_upto_region 13 with (refine wpList_store_row rfl 71 _ _ rfl _ _ rfl rfl _ _ (heap_alloc_new _ _) (by kernel_rfl) (by kernel_rfl) (by kernel_rfl) ?_)
          rw [alloc_row]
          clear d0 d1 d2
          have S2 := S'.al rfl 71 [.func (.func 50) #[] #[], .int .i64 256, .func (.func 52) #[] #[]]
          have bN := new_below wr (.cells ([.func (.func 50) #[] #[], .int .i64 256, .func (.func 52) #[] #[]] : List Value).toArray 71)
          have hI2 := hI.below bN
          have hO2 := hO'.below bN
          obtain ⟨KX, hKX⟩ : ∃ q, wr.heap.size = q := ⟨_, rfl⟩
          rw [hKX] at S2 ⊢
          obtain ⟨w2, hw2⟩ : ∃ q, wr.alloc (.cells ([.func (.func 50) #[] #[], .int .i64 256, .func (.func 52) #[] #[]] : List Value).toArray 71) = q := ⟨_, rfl⟩
          rw [hw2] at S2 hI2 hO2 ⊢
          clear hw2 hKX S' hI hO' bN
          have pk := S2.hs.cell 1 2 rfl rfl
          go_wp2
          clear pk
          go_loopw [8, 55] (fun o i wr => ∃ kk : Nat, kk ≤ I2.length ∧ i = .int .i64 kk ∧ ∃ D c, (D = none → c = 0) ∧ TS w [(KX, 71, [.func (.func 50) #[] #[], .int .i64 256, .func (.func 52) #[] #[]]), (PB, 72, [.slice A0 I0.length q0, .slice A1 I1.length q1, .slice A2 I2.length q2]), (gk, 71, lK t.n1 t.n3), (Y, 31, [.int .u64 0, .int .u64 0, .int .u32 0, .int .i64 0, .int .i64 0, .int .i64 0, .int .i64 0, .int .i64 0, .int .i64 0, .int .i64 0, .bool false, .bool false, .bool false, .int .i64 0, .bool false, .int .i64 0, .bool false, .int .i64 0, .slice none 0 0]), (X, 31, lT (stK holdS I2 s2 kk).1.1 D n c)] D (stK holdS I2 s2 kk).1.2 wr ∧ OutsR wr w.heap.size o (stK holdS I2 s2 kk).2 ∧ I3 wr w.heap.size (.slice A0 I0.length q0) (.slice A1 I1.length q1) (.slice A2 I2.length q2) I0 I1 I2) (fun _ i _ => I2.length - (intOf i).toNat)
          case atStart => exact ⟨0, Nat.zero_le _, rfl, D2, c2, hz2, S2, hO2, hI2⟩
          case round =>
            clear S2 hO2 hI2 hz2
            obtain ⟨kk, hkk, rfl, D3, c3, hz3, S, hO, hI⟩ := hrel
            have HZ3 := Lib.hid hz3
            clear hz3
            by_cases hkn : kk < I2.length
            · obtain ⟨i, hi⟩ : ∃ i, I2[kk]? = some i := ⟨I2[kk], List.getElem?_eq_getElem hkn⟩
              have hin : i < n := by have := idx_lt holB L n i (by rw [HI2.out]; exact List.mem_of_getElem? hi); rw [hL.out] at this; exact this
              have hst := stK_step (f := holdS) (s := s2) hi
              have HKB := Lib.hid (show TkB (stK holdS I2 s2 kk).1 n from stK_keeps (P := fun s => TkB s.1 n) HK2.out (fun s i h => h.hold i) kk)
              have hfew := stK_few (I := I2) HF2.out (fun s i m h => few_hold h i) kk
              obtain ⟨z, hz⟩ : ∃ z, (stK holdS I2 s2 kk) = z := ⟨_, rfl⟩
              rw [hz] at HKB hfew hst S hO
              clear hz
              have hlen0 : z.2.length ≤ 90000 := by
                have h1 := hfew.1
                have h2 : kk * (n + 2) ≤ 100 * 102 := Nat.mul_le_mul (by have := idx_len holB L n; rw [HI2.out] at this; omega) (by omega)
                have h3 : n * (n + 2) ≤ 100 * 102 := Nat.mul_le_mul hf (by omega)
                omega
              clear hfew
              obtain ⟨p, hp2⟩ := po_at HKB.out.2.2.2.1 hin
              rw [hold_is hp2] at hst
              have HST := Lib.hid hst
              have HP2 := Lib.hid hp2
              clear hst hp2
              obtain ⟨gi, e, -, -, hci⟩ := OwnL.at hI.2.2 encI_len hi
              subst e
              have ci : wr.cell? ⟨gi, kk, none⟩ = some (.int .i64 i) := by have := hci 0 (by decide); rw [Nat.mul_one] at this; exact this
              clear hci hi
              have hki : (kk : Int) < (I2.length : Int) := by omega
              have hkz : ¬ (I2.length : Int) ≤ (kk : Int) := by omega
              have HKN := Lib.hid hkn
              go_upto_region 16 with fail
              clear ci
              have HR2 := Lib.hid (show (owedR z.1.1 z.1.2 i p).2.length ≤ n + 2 from (by have := (few_hold (n := n) (m := 0) (s := (z.1, [])) ⟨Nat.le_refl _, HKB.out.2.2.2.1⟩ i).1; rw [hold_is (s := (z.1, [])) HP2.out] at this; dsimp only at this; rw [List.nil_append] at this; omega))
              have HC := Lib.hid (owed_is z.1.1 D3 n c3 z.1.2 i p HP2  (Lib.hid (by intro y hy; simp only [List.mem_cons, List.not_mem_nil, or_false] at hy; rcases hy with rfl | rfl | rfl | rfl | rfl <;> (dsimp only; decide))) (Lib.hid HKB.out.2.2.2.1) hf2 (Lib.hid HKB.out.1) (Lib.hid (nb_of HKB.out.2.1)) (Lib.hid HKB.out.2.2.1) HZ3 HD.out S)
              obtain ⟨R, hR⟩ : ∃ R, owedR z.1.1 z.1.2 i p = R := ⟨_, rfl⟩
              rw [hR] at HC HST HR2
              clear hR
              have x2 := S.hs.cell 0 2 rfl rfl
              have hx := S.hs.bk 4 rfl
              go_wp2_with (with_reducible refine wpList_load_row rfl 31 (.tmp 1) rfl X (by kernel_rfl) _ _ (0, 0) _ hx Tryz.underlying31 rfl (by kernel_rfl) ?_)
              (with_reducible refine HC.out.mono ?_); rintro e w5 ⟨D4, c4, v, rfl, hz4, S5, hQ5, fr⟩
              have hO5 := hO.fr fr (Nat.le_refl _)
              have hI5 := hI.fr fr (Nat.le_refl _)
              have HZ4 := Lib.hid hz4
              have HWQ := Lib.hid S.old.size
              clear S hO hI x2 hx HC fr hz4
              go_upto_region 17 with (refine wpList_store_row rfl 31 _ _ rfl _ _ rfl rfl _ _ (heap_alloc_new _ _) (by kernel_rfl) (by kernel_rfl) (by kernel_rfl) ?_)
              rw [alloc_row]
              have bN := new_below w5 (.cells (lT R.1.1 D4 n c4).toArray 31)
              have S6 := S5.al rfl 31 (lT R.1.1 D4 n c4)
              have hO6 := hO5.below bN
              have hQ6 := hQ5.below bN
              have hI6 := hI5.below bN
              obtain ⟨V, hV⟩ : ∃ q, w5.heap.size = q := ⟨_, rfl⟩
              rw [hV] at S6 ⊢
              obtain ⟨w6, hw6⟩ : ∃ y, w5.alloc (.cells (lT R.1.1 D4 n c4).toArray 31) = y := ⟨_, rfl⟩
              rw [hw6] at S6 hO6 hQ6 hI6 ⊢
              clear hw6 hV bN S5 hO5 hQ5 hI5
              have hlen : z.2.length + R.2.length ≤ 100000 := by have := HR2.out; omega
              refine wp_region_held_drew (S := (fun w' => Bk w' V 31 (lT R.1.1 D4 n c4))) (by kernel_rfl) ((S6.hs.1 0 _ _ _ rfl).1) (fun hHeld => ?_)
              have Sd := S6.below ((Below.refl _ _).drew)
              have hOd := hO6.below ((Below.refl _ _).drew)
              have hQd := hQ6.below ((Below.refl _ _).drew)
              have hId := hI6.below ((Below.refl _ _).drew)
              obtain ⟨vd, hvd⟩ : ∃ y, w6.drew = y := ⟨_, rfl⟩
              rw [hvd] at Sd hOd hQd hId hHeld ⊢
              clear hvd S6 hO6 hQ6 hI6
              have hbd : w.heap.size ≤ vd.heap.size := Sd.old.size
              obtain ⟨_, _, hown⟩ := hOd.own
              refine wpAnyH_take (i := 0) (v := _) rfl (by kernel_rfl) (by kernel_rfl) (by kernel_rfl) (fun _ _ _ h => h) (Or.inl ⟨by kernel_rfl, fun w' hSw => exec_load_row 31 _ rfl V (by kernel_rfl) _ _ (0, 0) _ (hSw) Tryz.underlying31 rfl (by kernel_rfl)⟩) (by assumption) ?_
              try simp only [Act.put, List.getElem_toArray, List.getElem_cons_succ, List.getElem_cons_zero, List.setIfInBounds_toArray, List.set_cons_succ, List.set_cons_zero]
              refine wpAnyH_take (i := 1) (v := ?_) rfl (by kernel_rfl) (by kernel_rfl) (by kernel_rfl) (fun _ _ _ h => h) (Or.inl ⟨by kernel_rfl, ?_⟩) (by assumption) ?_
              rotate_left
              · intro w' hSw; (try dsimp only at hSw); go_simp; with_reducible rfl
              try simp only [Act.put, List.getElem_toArray, List.getElem_cons_succ, List.getElem_cons_zero, List.setIfInBounds_toArray, List.set_cons_succ, List.set_cons_zero]
              refine wpAnyH_take (i := 2) (v := ?_) rfl (by kernel_rfl) (by kernel_rfl) (by kernel_rfl) (fun _ _ _ h => h) (Or.inl ⟨by kernel_rfl, ?_⟩) (by assumption) ?_
              rotate_left
              · intro w' hSw; (try dsimp only at hSw); go_simp; with_reducible rfl
              try simp only [Act.put, List.getElem_toArray, List.getElem_cons_succ, List.getElem_cons_zero, List.setIfInBounds_toArray, List.set_cons_succ, List.set_cons_zero]
              refine wpAnyH_ready (rs := [3]) (by kernel_rfl) (by simp) ?_
              refine AllReadyH.cons rfl (fun K hK => ?_) AllReadyH.nil
              refine step_append_outs rfl (.tmp 68) (.tmp 69) (by kernel_rfl) w.heap.size wr.heap.size _ v z.2 R.2 (by kernel_rfl) (by kernel_rfl) hOd hQd HWQ.out hlen hbd ?_
              intro v' we hOe gr
              have Se := Sd.grownT hown gr (by intro y hy; simp only [List.mem_cons, List.not_mem_nil, or_false] at hy; rcases hy with rfl | rfl | rfl | rfl | rfl | rfl <;> (dsimp only; decide)) (Nat.le_refl _)
              have hIe := hId.grown hown gr
              clear Sd hOd hQd hId gr hown
              refine hK.out _ _ ((Se.hs.1 0 _ _ _ rfl).1) (fun hHeld => ?_)
              clear hK K
              try simp only [Act.put, List.getElem_toArray, List.getElem_cons_succ, List.getElem_cons_zero, List.setIfInBounds_toArray, List.set_cons_succ, List.set_cons_zero]
              have hy := Se.hs.bk 5 rfl
              refine wpAnyH_ready (rs := [4]) (by kernel_rfl) (by simp) ?_
              refine AllReadyH.cons rfl (fun K hK => ?_) AllReadyH.nil
              refine exec_if_store (by kernel_rfl) 31 (.tmp 1) (.tmp 67) rfl X (lT R.1.1 D4 n c4).toArray (by kernel_rfl) (by kernel_rfl) _ _ hy (by kernel_rfl) (by kernel_rfl) (by kernel_rfl) ?_
              have Sf := Se.row 5 rfl (lT R.1.1 D4 n c4)
              refine hK.out _ _ ((Sf.hs.1 0 _ _ _ rfl).1) (fun hHeld => ?_)
              clear hK K
              try simp only [Act.put, List.getElem_toArray, List.getElem_cons_succ, List.getElem_cons_zero, List.setIfInBounds_toArray, List.set_cons_succ, List.set_cons_zero]
              refine wpAnyH_take (i := 5) (v := ?_) rfl (by kernel_rfl) (by kernel_rfl) (by kernel_rfl) (fun _ _ _ h => h) (Or.inl ⟨by kernel_rfl, ?_⟩) (by assumption) ?_
              rotate_left
              · intro w' hSw; (try dsimp only at hSw); go_simp; with_reducible rfl
              try simp only [Act.put, List.getElem_toArray, List.getElem_cons_succ, List.getElem_cons_zero, List.setIfInBounds_toArray, List.set_cons_succ, List.set_cons_zero]
              refine wpAnyH_done (by kernel_rfl) ?_ _
              have hOf := hOe.store Se.hs 5 rfl (lT R.1.1 D4 n c4).toArray
              have hIf := hIe.but (w' := we.setRow X (lT R.1.1 D4 n c4).toArray) (Se.hs.1 5 _ _ _ rfl).1 (by decide) (fun b hb => setRow_other we X b _ hb)
              have S8 := Sf.tail
              clear Se hOe hIe Sf hy hHeld
              have hkn := HKN.out
              have hIn : I2.length ≤ 100 := by have := idx_len holB L n; rw [HI2.out] at this; omega
              go_wp2
              go_roundw
              case rel => exact ⟨kk + 1, hkn, by go_num, D4, c4, HZ4.out, by rw [HST.out]; exact ⟨S8, hOf, hIf⟩⟩
              case measure => simp [intOf]; omega
            · have hkz : ¬ (kk : Int) < (I2.length : Int) := by omega
              have hke : kk = I2.length := by omega
              have hst : (stK holdS I2 s2 kk) = s3 := by rw [← HI2.out] at hke ⊢; rw [stK_end hke]; exact HS3.out
              rw [hst] at S hO
              go_wp2
              go_roundw
              case rel => exact ⟨3, by omega, by go_num, D3, c3, HZ3.out, S.tail, hO, hI⟩
              case measure => simp [intOf]
        | 3, _ =>
          have S' : TS w [(PB, 72, [.slice A0 I0.length q0, .slice A1 I1.length q1, .slice A2 I2.length q2]), (gk, 71, lK t.n1 t.n3), (Y, 31, [.int .u64 0, .int .u64 0, .int .u32 0, .int .i64 0, .int .i64 0, .int .i64 0, .int .i64 0, .int .i64 0, .int .i64 0, .int .i64 0, .bool false, .bool false, .bool false, .int .i64 0, .bool false, .int .i64 0, .bool false, .int .i64 0, .slice none 0 0]), (X, 31, lT s3.1.1 D2 n c2)] D2 s3.1.2 wr := S
          have hO' : OutsR wr w.heap.size u8 s3.2 := hO
          clear S hO hI
          have HZ2 := Lib.hid hz2
          go_upto_region 20 with fail
          have hx := S'.hs.bk 3 rfl
          have hy := S'.hs.bk 2 rfl
          have SF := S'.row 2 rfl (lT s3.1.1 D2 n c2)
          have hyF := SF.hs.bk 2 rfl
          have hOF := hO'.store S'.hs 2 rfl (lT s3.1.1 D2 n c2).toArray
          go_wp2_with (first | (with_reducible refine wpList_load_row rfl 31 (.tmp 1) rfl X (by kernel_rfl) _ _ (0, 0) _ hx Tryz.underlying31 rfl (by kernel_rfl) ?_) | (refine wpList_store_row rfl 31 _ _ rfl Y _ rfl rfl _ _ hy (by kernel_rfl) (by kernel_rfl) (by kernel_rfl) ?_))
          exact bodyPost_ret (v := .tuple #[.agg (lT s3.1.1 D2 n c2).toArray, u8]) (results_two rfl _ _ Y _ _ _ _ rfl _ rfl hyF Tryz.underlying31 rfl (by kernel_rfl)) rfl ⟨D2, c2, _, rfl, HZ2.out, SF.nobox, hOF⟩

end Go.Proofs.YtnmnihlhcokjpaaGreatDoor
