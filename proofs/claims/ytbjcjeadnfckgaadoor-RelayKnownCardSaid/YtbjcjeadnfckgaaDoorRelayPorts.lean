/- By which ports a frame goes on: contract of the program's Ports. -/
import Derived.Test.YtbjcjeadnfckgaaDoorRelaySeq
import Derived.Deep.DeepCutAuto
import Derived.Sort.CutIn
namespace Go.Proofs.YtbjcjeadnfckgaaDoor
set_option maxRecDepth 100000
open Go.ChangeShapes Go.WideShapes Go.ChangeAt Go.RowKit Go.Shelf
set_option linter.unusedVariables false
set_option linter.unusedSimpArgs false
attribute [local go_sem] Oper.semAt_some

/-- All blocks ahead of n but one lie as they lay. -/
structure KeepBut (n g : Nat) (W W' : World) : Prop where
  os : W'.os = W.os
  tape : W'.tape = W.tape
  output : W'.output = W.output
  size : W.heap.size ≤ W'.heap.size
  block : ∀ b, b < n → b ≠ g → W'.heap[b]? = W.heap[b]?

theorem KeepBut.refl (n g : Nat) (W : World) : KeepBut n g W W := ⟨rfl, rfl, rfl, Nat.le_refl _, fun _ _ _ => rfl⟩
theorem KeepBut.trans {n g : Nat} {X Y Z : World} (h : KeepBut n g X Y) (k : KeepBut n g Y Z) : KeepBut n g X Z := ⟨k.os.trans h.os, k.tape.trans h.tape, k.output.trans h.output, Nat.le_trans h.size k.size, fun b hb hg => (k.block b hb hg).trans (h.block b hb hg)⟩
theorem KeepBut.below {n g B : Nat} {W W' : World} (h : KeepBut n g W W') (hB : B ≤ n) (hg : B ≤ g) : Below B W W' := ⟨h.os, h.tape, h.output, h.size, fun b hb => h.block b (by omega) (by omega)⟩
theorem KeepBut.keepP {n g B a b : Nat} {W W' : World} (h : KeepBut n g W W') (hB : B ≤ n) (hg : B ≤ g) (ha : a < n) (ha' : a ≠ g) (hb : b < n) (hb' : b ≠ g) : KeepP B a b W W' := ⟨h.below hB hg, h.block a ha ha', h.block b hb hb'⟩
theorem keepBut_own {β : Type} {n g : Nat} {w0 : World} (hn : n ≤ w0.heap.size) : OwnFrom n (fun (_ : β) W => KeepBut n g w0 W) := fun s W W' row hs hg hr =>
  ⟨hg.os.trans hs.os, hg.tape.trans hs.tape, hg.output.trans hs.output, Nat.le_trans hs.size hg.size, fun b hb hbg => (hg.block b (by have := hs.size; omega) (fun e => by have := (hr b e.symm).1; omega)).trans (hs.block b hb hbg)⟩
theorem ownBlock_ne {W : World} {n g e size k : Nat} {v : Value} {xs : List Value} (h : W.ownsRow n e size v k xs) (hg : g < n) : some g ≠ v.ownBlock := by
  rcases h.2 with ⟨rfl, _⟩ | ⟨g', cap, cur, rfl, hb, _, _⟩
  · simp [Value.ownBlock]
  · intro e'
    obtain rfl : g = g' := by simpa [Value.ownBlock] using e'
    omega
theorem ownBlock_cells {W : World} {n e size k : Nat} {v : Value} {xs : List Value} (h : W.ownsRow n e size v k xs) : ∀ (j : Nat) (o : Obj), v.ownBlock = some j → W.heap[j]? = some o → o.isCells = true := by
  intro j o ej hj
  rcases h.2 with ⟨rfl, _⟩ | ⟨g', cap, cur, rfl, hb, hgb, _⟩
  · simp [Value.ownBlock] at ej
  · obtain rfl : g' = j := by simpa [Value.ownBlock] using ej
    rw [hgb] at hj; cases hj; rfl
theorem box_appended {W w1 : World} {n g : Nat} {t e : TypeId} {size : Nat} {v v' : Value} {k m : Nat} {xs ys : List Value} {tmp : Obj}
    (hv : Boxed W g t v) (hrow : W.ownsRow n e size v k xs) (hn : n ≤ W.heap.size) (hg : g < n) (hown' : w1.ownsRow n e size v' m ys) (hgrow : (W.alloc tmp).grownBy w1 v.ownBlock) :
    Boxed w1 g t v ∧ Boxed (w1.setCell ⟨g, 0, none⟩ v') g t v' ∧ (w1.setCell ⟨g, 0, none⟩ v').ownsRow n e size v' m ys ∧ KeepsOthers W (w1.setCell ⟨g, 0, none⟩ v') ∧ KeepBut n g W (w1.setCell ⟨g, 0, none⟩ v') := by
  have hv1 : Boxed w1 g t v := (hv.alloc tmp).kept hgrow (ownBlock_ne hrow hg)
  have hs := grownBy_setCell' w1 g v'
  refine ⟨hv1, hv1.set v', hown'.kept hs (.inr (ownBlock_ne hown' hg).symm), ?_, ?_⟩
  · exact ((KeepsOthers.alloc W tmp).trans (KeepsOthers.of_grownBy hgrow fun j o ej hj => ownBlock_cells (hrow.alloc tmp) j o ej hj)).trans (KeepsOthers.setCell _ _ _)
  · refine ⟨hs.os.trans hgrow.os, hs.tape.trans hgrow.tape, hs.output.trans hgrow.output, Nat.le_trans (Nat.le_trans (by simp) hgrow.size) hs.size, fun b hb hbg => ?_⟩
    refine (hs.block b (Nat.lt_of_lt_of_le (by simp; omega) hgrow.size) (fun e => hbg (by cases e; rfl))).trans ((hgrow.block b (by simp; omega) (ownBlock_ne hrow hb)).trans ?_)
    exact Below.heap_alloc W tmp b (by omega)

theorem one_new (W : World) (u : Value) (e : TypeId) : ∀ (j : Nat) (v : Value), ([u] : List Value)[j]? = some v → (W.alloc (.cells #[u] e)).cell? ((⟨W.heap.size, 0, none⟩ : Addr).add j) = some v := by
  intro j v hj
  rw [addr_add, Nat.zero_add, World.cell?_alloc_at _ _ _ _ rfl]
  simpa using hj

theorem others_is (inn : Int) (A : Option Addr) (m c : Nat) (w : World) :
    Calls Tryd.prog 16 #[.int .i64 inn, .slice A m c] w fun e w' => e = .returned (.func (.func 24) #[] #[.pointer (some ⟨w.heap.size + 1, 0, none⟩), .pointer (some ⟨w.heap.size, 0, none⟩)]) ∧ w' = (w.alloc (.cells #[.int .i64 inn] 3)).alloc (.cells #[.slice A m c] 28) := by
  go_enter Tryd.func16, Tryd.ntmps16
  go_wp2
  go_ret
  exact ⟨rfl, rfl⟩

/-- What comes so far that goes on. -/
def goL (q : Bool) (wh : Int) (pre : List Nat) : List Nat := pre.filter (fun i => q || decide ((i : Int) = wh))
theorem goL_yes {q : Bool} {wh : Int} (pre : List Nat) {i : Nat} (h : (q || decide ((i : Int) = wh)) = true) : goL q wh (pre ++ [i]) = goL q wh pre ++ [i] := by unfold goL; rw [List.filter_append]; simp [h]
theorem goL_no {q : Bool} {wh : Int} (pre : List Nat) {i : Nat} (h : (q || decide ((i : Int) = wh)) = false) : goL q wh (pre ++ [i]) = goL q wh pre := by unfold goL; rw [List.filter_append]; simp [h]
theorem goL_len (q : Bool) (wh : Int) (pre : List Nat) : (goL q wh pre).length ≤ pre.length := List.length_filter_le _ _

theorem pickN_none {p : Nat → Bool} (h : ∀ i, p i = false) : ∀ m, pickN p m = []
  | 0 => rfl
  | m + 1 => by rw [pickN_no (h m)]; exact pickN_none h m
theorem pickN_filter {p q r : Nat → Bool} (h : ∀ i, p i = (q i && r i)) : ∀ m, (pickN q m).filter r = pickN p m
  | 0 => rfl
  | m + 1 => by
    cases hq : q m with
    | false => rw [pickN_no hq, pickN_no (by rw [h, hq]; rfl)]; exact pickN_filter h m
    | true =>
      cases hr : r m with
      | false => rw [pickN_yes hq, pickN_no (by rw [h, hr]; simp), List.filter_append]; simp [hr, pickN_filter h m]
      | true => rw [pickN_yes hq, pickN_yes (by rw [h, hq, hr]; rfl), List.filter_append]; simp [hr, pickN_filter h m]

/-- What Ports answers, by definition. -/
theorem goes_all {cl t inn wh : Int} {U : List Int} {kn : Bool} {m : Nat} (hf : fwdB U inn = true) (hc : cl = 2) : goL (groupB t || !kn) wh (pickN (otherB inn U) m) = pickN (throughB cl t inn U wh kn) m := by
  unfold goL
  refine pickN_filter (fun i => ?_) m
  unfold throughB goesB otherB
  unfold fwdB at hf
  simp only [Bool.and_eq_true, decide_eq_true_eq] at hf
  rw [decide_eq_true hf.1.1, decide_eq_true hf.1.2, decide_eq_true hf.2, decide_eq_true hc, show decide (wh = (i : Int)) = decide ((i : Int) = wh) from by simp [eq_comm]]
  simp
theorem goes_none {cl t inn wh : Int} {U : List Int} {kn : Bool} {m : Nat} (h : fwdB U inn = false ∨ ¬ cl = 2) : pickN (throughB cl t inn U wh kn) m = [] := by
  refine pickN_none (fun i => ?_) m
  unfold throughB goesB
  rcases h with h | h
  · unfold fwdB at h
    rw [Bool.and_assoc, Bool.and_eq_false_iff] at h
    rcases h with h | h
    · rw [h]; rfl
    · rw [Bool.and_eq_false_iff] at h
      rcases h with h | h
      · rw [h]; simp
      · rw [h]; simp
  · rw [decide_eq_false h]; simp

theorem Tryd.infoIntP : (Tryd.prog.info? 3).map (fun i => (i.zero, i.size, i.bytes)) = some (some (.int .i64 0), 1, 8) := by kernel_rfl

set_option maxRecDepth 100000 in
set_option maxHeartbeats 4000000 in
theorem pports_is (t f k inn wh : Int) (kn : Bool) (A : Option Addr) (n c : Nat) (l : List UInt8) (A2 : Option Addr) (m c2 : Nat) (U : List Int) (hU : Hid (U.length = m)) (hm : m ≤ 100000) (hl : Hid (l.length = n)) (hc : n ≤ c) (hnc : Hid (A = none → c = 0)) (hn : n ≤ 10000) (h0 : 0 ≤ t) (h1 : t ≤ 18446744073709551615) (h2 : 0 ≤ k) (h5 : k < 65536) (hi : -9223372036854775808 ≤ inn ∧ inn ≤ 9223372036854775807) (w : World) (hd : Hd w) (hr : Hid (RB w A 0 w.heap.size l)) (hI : Hid (IntsIn w A2 w.heap.size U)) :
    Calls Tryd.prog 8 #[.agg #[.int .u64 t, .int .u64 f, .int .u16 k, .slice A n c], .int .i64 inn, .slice A2 m c2, .int .i64 wh, .bool kn] w fun e w' => ∃ v, e = .returned v ∧ IntsR w' w.heap.size v (pickN (throughB (classR t k l) t inn U wh kn) m) ∧ Below w.heap.size w w' := by
  obtain ⟨cl, hcl⟩ : ∃ q, classR t k l = q := ⟨_, rfl⟩
  have HCL := fun W (h : Below w.heap.size w W) => Lib.hid (rpclass_is t f k A n c l hl hc hnc hn h0 h1 h2 h5 W (hd.below h (Nat.le_refl _)) ((hr.out.below h (Nat.le_refl _)).wide (Nat.le_refl _) h.size))
  rw [hcl]
  rw [hcl] at HCL
  clear hcl
  obtain ⟨fb, hfb⟩ : ∃ q, fwdB U inn = q := ⟨_, rfl⟩
  have HFB := fun W (h : Below w.heap.size w W) => Lib.hid (rfwd_is inn A2 m c2 U hU W w.heap.size (Lib.hid (hI.out.below h)))
  rw [hfb] at HFB
  have HFE := Lib.hid hfb
  obtain ⟨gb, hgb⟩ : ∃ q, groupB t = q := ⟨_, rfl⟩
  have HGB := fun W => Lib.hid (group_any t h0 h1 W)
  rw [hgb] at HGB
  have HGE := Lib.hid hgb
  clear hfb hgb
  obtain ⟨wb, hwb, S⟩ := hs_two w 27 3 [.int .u64 t, .int .u64 f, .int .u16 k, .slice A n c] [.int .i64 wh]
  refine (callsIn_wide (n := 4)).1 ?_
  refine callsIn_of_wp_marks Tryd.func8 rfl trivial ?_ rfl
  simp only [Tryd.ntmps8, List.size_toArray, List.length_cons, List.length_nil, Nat.reduceAdd, Nat.reduceSub, Array.replicate_succ, Array.replicate_zero, List.push_toArray, List.append_toArray, List.nil_append, List.cons_append]
  refine wpIn_wide.2 ?_
  go_upto_region 1 with fail
  clear hwb
  obtain ⟨X, hX⟩ : ∃ X, w.heap.size = X := ⟨_, rfl⟩
  have HX := Lib.hid hX
  rw [hX] at S
  rw [show (Value.pointer (some ⟨w.heap.size, 0, none⟩)) = Value.pointer (some ⟨X, 0, none⟩) by rw [hX], show (Value.pointer (some ⟨w.heap.size + 1, 0, none⟩)) = Value.pointer (some ⟨X + 1, 0, none⟩) by rw [hX]]
  clear hX
  have hx := S.bk 1 rfl
  have HF := HFB wb S.old
  cases fb with
  | false =>
    go_wp2_with (go_at_call 14; (with_reducible refine HF.out.mono ?_); rintro e w1 ⟨rfl, rfl⟩)
    exact ⟨_, results_tmp rfl _ _ _, _, rfl, by rw [goes_none (.inl HFE.out)]; exact OwnL.nil _ _ _, S.old⟩
  | true =>
    go_wp2_with (first
      | (go_at_call 14; (with_reducible refine HF.out.mono ?_); rintro e w1 ⟨rfl, rfl⟩)
      | (with_reducible refine wpList_load_rowG (by kernel_rfl) 27 (.tmp 5) rfl X (by kernel_rfl) _ _ (0, 0) _ hx Tryd.underlying27 rfl (by kernel_rfl) ?_))
    (with_reducible refine (HCL _ S.old).out.mono ?_); rintro e w1 ⟨rfl, b1⟩
    have S1 := S.below b1
    clear S hx b1 HF HCL HFB
    by_cases h2c : cl = 2
    · have bc : (cl != 2) = false := by simp [h2c]
      have HEQ := Lib.hid (goes_all (t := t) (wh := wh) (kn := kn) (m := m) HFE.out h2c)
      rw [HGE.out] at HEQ
      have c0 := S1.cell 1 0 rfl rfl
      clear h2c
      obtain ⟨q, hq⟩ : ∃ q, (gb || !kn) = q := ⟨_, rfl⟩
      rw [hq] at HEQ
      have HQ := Lib.hid hq
      clear hq
      go_upto_region 3 with fail
      go_cut [11] from 23 to 44 (fun p wx => ∃ g, p = .pointer (some ⟨g, 0, none⟩) ∧ Hs w [(g, 4, [.bool q]), (X + 1, 3, [.int .i64 wh]), (X, 27, [.int .u64 t, .int .u64 f, .int .u16 k, .slice A n c])] wx)
      case first =>
        have hq := HQ.out
        rename World => wy
        have S2 := S1.al rfl 4 [.bool q]
        have ar := fun o => alloc_row wy o #[.bool q] 4
        cases gb with
        | true =>
          obtain rfl : true = q := by rw [← hq]; rfl
          clear hq
          go_wp2_with (go_at_call 15; (with_reducible refine (HGB _).out.mono ?_); rintro e w1 ⟨rfl, rfl⟩)
          go_meet
          exact ⟨_, rfl, S2⟩
        | false =>
          cases kn with
          | true =>
            obtain rfl : false = q := by rw [← hq]; rfl
            clear hq
            go_wp2_with (go_at_call 15; (with_reducible refine (HGB _).out.mono ?_); rintro e w1 ⟨rfl, rfl⟩)
            go_meet
            exact ⟨_, rfl, S2⟩
          | false =>
            obtain rfl : true = q := by rw [← hq]; rfl
            clear hq
            go_wp2_with (go_at_call 15; (with_reducible refine (HGB _).out.mono ?_); rintro e w1 ⟨rfl, rfl⟩)
            go_meet
            exact ⟨_, rfl, S2⟩
      case rest =>
        obtain ⟨g, rfl, S⟩ := hcut
        clear S1 HGB HQ HGE
        rename World => wc
        obtain ⟨gw, hgw⟩ : ∃ gw, wc.heap.size = gw := ⟨_, rfl⟩
        have S2 := ((S.al hgw 28 [.slice none 0 0]).al (g := gw + 1) (by simp [hgw]) 3 [.int .i64 inn]).al (g := gw + 1 + 1) (by simp [hgw]) 28 [.slice A2 m c2]
        have HGW := Lib.hid hgw
        have hgl : g < gw := by rw [← hgw]; exact S.lt 0 rfl
        have hXl : X + 1 < gw := by rw [← hgw]; exact S.lt 1 rfl
        have hwg : w.heap.size ≤ gw := by rw [← hgw]; exact S.old.size
        clear hgw
        go_wp2_with (go_at_call 16; (with_reducible refine (others_is inn A2 m c2 _).mono ?_); rintro e w1 ⟨rfl, rfl⟩)
        rw [HGW.out]
        obtain ⟨wl, hwl⟩ : ∃ wl, ((wc.alloc (.cells #[.slice none 0 0] 28)).alloc (.cells #[.int .i64 inn] 3)).alloc (.cells #[.slice A2 m c2] 28) = wl := ⟨_, rfl⟩
        have hwl' : ((wc.alloc (.cells [.slice none 0 0].toArray 28)).alloc (.cells [.int .i64 inn].toArray 3)).alloc (.cells [.slice A2 m c2].toArray 28) = wl := hwl
        have hsl : wl.heap.size = gw + 1 + 1 + 1 := by rw [← hwl]; simp [HGW.out]
        rw [hwl'] at S2
        rw [hwl]
        clear hwl hwl' S HGW
        obtain ⟨n1, hn1⟩ : ∃ n1, wl.heap.size = n1 := ⟨_, rfl⟩
        have HN1 := Lib.hid hn1
        have kA : Bk wl (gw + 1 + 1) 28 [.slice A2 m c2] := S2.bk 0 rfl
        have kB : Bk wl (gw + 1) 3 [.int .i64 inn] := S2.bk 1 rfl
        have kW : Boxed wl gw 28 (.slice none 0 0) := S2.bk 2 rfl
        have kG : Bk wl g 4 [.bool q] := S2.bk 3 rfl
        have kX : Bk wl (X + 1) 3 [.int .i64 wh] := S2.bk 4 rfl
        have HKG := Lib.hid kG
        have HKX := Lib.hid kX
        have HOLD := Lib.hid S2.old
        obtain ⟨i0, hi0, hz0, hz1, hz2⟩ := info_parts Tryd.infoIntP
        have HIF := Lib.hid (⟨hi0, hz0, hz1, hz2⟩ : _ ∧ _ ∧ _ ∧ _)
        clear hi0 hz0 hz1 hz2 kG kX S2
        refine (wpIn_wide (n := 4)).1 ?_
        refine wpIn_rangeFunc_ownH rfl (by omega) (gf := 24) (lb := #[.pointer (some ⟨gw + 1 + 1, 0, none⟩), .pointer (some ⟨gw + 1, 0, none⟩)]) rfl trivial (enters_of Tryd.func24 (by kernel_rfl) rfl)
          (othersS hU hm (Lib.hid (hI.out.below HOLD.out)) (by omega) hi kA kB 3 (by omega)) keepP_t (keepP_b (n := wl.heap.size) (by omega) (by omega) (by omega)) (Below.refl _ _) (fun _ => rfl)
          (fun pre W => (∃ v, Boxed W gw 28 v ∧ W.ownsRow wl.heap.size 3 1 v (goL q wh pre).length (cellsOf encNi (goL q wh pre)) ∧ True) ∧ KeepBut wl.heap.size gw wl W) (fun _ _ _ => False)
          (OwnFrom.and (Own.from (holdsRow_own wl.heap.size gw 28 3 1 (fun pre => (goL q wh pre).length) (fun pre => cellsOf encNi (goL q wh pre)) (fun _ _ => True)) _) (keepBut_own (Nat.le_refl _)))
          (fun _ _ _ _ _ hs _ _ => hs) ⟨⟨_, kW, World.ownsRow_nil _ _ _ _, trivial⟩, KeepBut.refl _ _ _⟩
          (fun x a' W => a' = { tmps := #[.agg #[.int .u64 t, .int .u64 f, .int .u16 k, .slice A n c], .int .i64 inn, .slice A2 m c2, .int .i64 wh, .bool kn, .pointer (some ⟨X, 0, none⟩), undef, undef, .pointer (some ⟨X + 1, 0, none⟩), undef, .slice none 0 0, .pointer (some ⟨g, 0, none⟩), .pointer (some ⟨gw, 0, none⟩),
            .int .i64 x, .int .i64 inn, .slice A2 m c2, .bool true, .bool false, .bool false, .agg #[.int .u64 t, .int .u64 f, .int .u16 k, .slice A n c], .int .i64 cl, .bool false, .bool false, u23, u24, u25, u26, u27, u28, u29, .int .i64 inn, .slice A2 m c2,
            .func (.func 24) #[] #[.pointer (some ⟨gw + 1 + 1, 0, none⟩), .pointer (some ⟨gw + 1, 0, none⟩)], .int .i64 x, u34, u35, u36, u37, u38, u39, u40, u41, u42, u43, u44], defers := [] })
          (fun x a' _ W W' row hs hg hr => hs) ?assign ?body ?done ?stop
        case assign =>
          intro l' pre x W K hi hK
          unfold encNp
          gi_wp2
          exact hK _ _ (KeepsFrom.refl _ _) (keepP_r _ _ _ _) hi rfl
        case body =>
          rintro l' pre x a' W hl' - ⟨⟨v, hv, hrow, -⟩, hB⟩ rfl hlt
          have cg : W.cell? ⟨g, 0, none⟩ = some (.bool q) := Bk.cell ((hB.block g (by omega) (by omega)).trans HKG.out) 0
          have cx : W.cell? ⟨X + 1, 0, none⟩ = some (.int .i64 wh) := Bk.cell ((hB.block (X + 1) (by omega) (by omega)).trans HKX.out) 0
          have cv := hv.cell
          have hsz := hB.size
          have hpl : (goL q wh pre).length ≤ pre.length := goL_len q wh pre
          cases q with
          | true =>
            have HG := Lib.hid (goL_yes (q := true) (wh := wh) pre (i := x) rfl)
            gi_wp2_with (gi_at_builtin; refine wpListIn_append_own _ rfl _ _ 28 rfl wl.heap.size 3 i0 (.int .i64 0) 1 8 Tryd.underlying28 HIF.out.1 HIF.out.2.1 HIF.out.2.2.1 HIF.out.2.2.2 rfl (by decide) _ _ _ rfl (hrow.alloc _) ⟨W.heap.size, 0, none⟩ 1 1 [.int .i64 x] rfl rfl (one_new _ _ _) (by simp [Value.oneCell']) (by simp [maxLen]; omega) (by omega) (by simp; omega) ?_; intro v' w1 hown' hgrow _; obtain ⟨g', cap', rfl⟩ := ownsRow_succ hown'; obtain ⟨hv1, hv2, hr2, hk2, hb2⟩ := box_appended hv hrow hsz (by omega) hown' hgrow; have hc1 := hv1.cell; have hf1 := hv1.frozen)
            exact ⟨hk2.from _, hb2.keepP (by omega) hwg (by omega) (by omega) (by omega) (by omega), ⟨_, hv2, by rw [HG.out, cellsOf_snoc, List.length_append]; exact hr2, trivial⟩, hB.trans hb2⟩
          | false =>
            by_cases hxw : (x : Int) = wh
            · have bx : ((x : Int) == wh) = true := by simp [hxw]
              have HG := Lib.hid (goL_yes (q := false) (wh := wh) pre (i := x) (by simp [hxw]))
              clear hxw
              gi_wp2_with (gi_at_builtin; refine wpListIn_append_own _ rfl _ _ 28 rfl wl.heap.size 3 i0 (.int .i64 0) 1 8 Tryd.underlying28 HIF.out.1 HIF.out.2.1 HIF.out.2.2.1 HIF.out.2.2.2 rfl (by decide) _ _ _ rfl (hrow.alloc _) ⟨W.heap.size, 0, none⟩ 1 1 [.int .i64 x] rfl rfl (one_new _ _ _) (by simp [Value.oneCell']) (by simp [maxLen]; omega) (by omega) (by simp; omega) ?_; intro v' w1 hown' hgrow _; obtain ⟨g', cap', rfl⟩ := ownsRow_succ hown'; obtain ⟨hv1, hv2, hr2, hk2, hb2⟩ := box_appended hv hrow hsz (by omega) hown' hgrow; have hc1 := hv1.cell; have hf1 := hv1.frozen)
              exact ⟨hk2.from _, hb2.keepP (by omega) hwg (by omega) (by omega) (by omega) (by omega), ⟨_, hv2, by rw [HG.out, cellsOf_snoc, List.length_append]; exact hr2, trivial⟩, hB.trans hb2⟩
            · have bx : ((x : Int) == wh) = false := by simp [hxw]
              have HG := Lib.hid (goL_no (q := false) (wh := wh) pre (i := x) (by simp [hxw]))
              clear hxw
              gi_wp2
              exact ⟨KeepsFrom.refl _ _, keepP_r _ _ _ _, ⟨v, hv, by rw [HG.out]; exact hrow, trivial⟩, hB⟩
        case done =>
          rintro D xs W hD rfl ⟨⟨v, hv, hrow, -⟩, hB⟩ hK
          have cv := hv.cell
          have HK := Lib.hid hK
          clear hK
          go_wp2
          refine ⟨by simp, .inl ⟨_, _, rfl, run_takeDeferred HK.out, ?_⟩⟩
          refine ⟨_, results_tmp rfl _ _ _, v, rfl, ?_, ?_⟩
          · have hr := ownsRow_putObj hrow (.deferred none) HK.out rfl
            rw [HEQ.out] at hr
            exact IntsR.mono hr (by omega)
          · exact HOLD.out.trans ((hB.below (by omega) hwg).trans (keepP_b (B := w.heap.size) (a := 0) (b := 0) (n := wl.heap.size) (by omega) (by omega) (by omega) W D _ _ hD HK.out rfl rfl).1)
        case stop =>
          rintro D co pre W _ _ hx _
          exact hx.elim
    · have bc : (cl != 2) = true := by simp [h2c]
      have HE := Lib.hid (goes_none (t := t) (inn := inn) (wh := wh) (U := U) (kn := kn) (m := m) (.inr h2c))
      clear h2c
      go_wp2
      exact ⟨_, results_tmp rfl _ _ _, _, rfl, by rw [HE.out]; exact OwnL.nil _ _ _, S1.old⟩
end Go.Proofs.YtbjcjeadnfckgaaDoor
