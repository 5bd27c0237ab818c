/- The document's Begin: contract. -/
import Derived.Test.YtkdbhioneoknjaaTreeNew
import Derived.Test.YtkdbhioneoknjaaTreeCopy
import Derived.Test.YtkdbhioneoknjaaConfRefCheck
import Derived.Deep.RegionHeld3
namespace Go.Proofs.Ytkdbhioneoknjaa
open Go.ChangeShapes Go.WideShapes Go.ChangeAt Go.RowKit
set_option linter.unusedVariables false
set_option linter.unusedSimpArgs false

theorem of_small {s : Int} (h0 : 0 ≤ s) (h1 : s ≤ 255) : 256 * s = ofI s := by unfold ofI cutI; omega

theorem rid_row (c : Cf) (hb : CB c) (w : World) : Calls Try.prog 45 #[.agg (lC c).toArray] w fun e w' => e = .returned (.int .u64 (idI c)) ∧ Below w.heap.size w w' := rid_is c hb w
theorem rport_row (c : Cf) (L : List PV) (hL : L.length = c.n) (hf : c.n ≤ 200) (k : Nat) (hk : k ≤ 200) (w : World) (hp : PortsIn w c.A w.heap.size L) :
    Calls Try.prog 46 #[.agg (lC c).toArray, .int .i64 k] w fun e w' => e = .returned (.int .u16 (pidI L k)) ∧ Below w.heap.size w w' := rport_is c L hL hf k (by omega) (by omega) w hp

/-- Boxes, while a row grows. -/
theorem Hs.grow {w wx wy : World} {l : List (Nat × TypeId × List Value)} {row : Option Nat} {base : Nat} (h : Hs w l wx) (gr : wx.grownBy wy row) (hr : ∀ k, row = some k → base ≤ k) (hl : ∀ x ∈ l, x.1 < base) (hb : w.heap.size ≤ base) : Hs w l wy := by
  have hB : Below w.heap.size w wy := h.old.grown gr h.old.size (fun k hk => Nat.le_trans hb (hr k hk))
  have h' := hs_iff.1 h
  refine hs_iff.2 ⟨fun x hx => ⟨?_, (h'.1 x hx).2⟩, h'.2.1, hB⟩
  have e := (h'.1 x hx).1
  unfold Bk at e ⊢
  rw [gr.block x.1 (Bk.lt e) (fun q => by have := hr x.1 q.symm; have := hl x hx; omega)]
  exact e
theorem OwnL.heap {w w' : World} {base n cap : Nat} {A : Option Addr} {M : List Po} (h : OwnL lP 15 49 w base (.slice A n cap) M) (hh : ∀ k, base ≤ k → w'.heap[k]? = w.heap[k]?) : OwnL lP 15 49 w' base (.slice A n cap) M := by
  refine ⟨h.1, h.2.imp id ?_⟩
  rintro ⟨g, cap', cur, hv, hg, h1, r⟩
  exact ⟨g, cap', cur, hv, hg, (hh g hg).trans h1, r⟩

/-- One port appended, as a step of a region that draws its order. -/
theorem step_append_port {ops : Array Oper} {o : Oper} {a : Act} {W : World} {K : Act → World → Prop} {Q : Exit → Act → World → Prop} {E : Prop} (hgd : o.guard = none) (s x : Operand)
    (hop : o.op = Op.call { callee := Callee.builtin Builtin.append, args := #[s, x], argTypes := #[29, 29] })
    (base : Nat) (v : Value) (M : List Po) (hs : a.eval s = v) (hown : OwnL lP 15 49 W base v M) (p : Po) (N : Nat) (hx : a.eval x = .slice (some ⟨N, 0, none⟩) 1 1) (hN : Bk W N 49 (lP p)) (hle : M.length ≤ 1000) (hbase : base ≤ W.heap.size)
    (hK : ∀ g cap w', base ≤ g → OwnL lP 15 49 w' base (.slice (some ⟨g, 0, none⟩) (M.length + 1) cap) (M ++ [p]) → W.grownBy w' v.ownBlock → K (a.put o.dst (.slice (some ⟨g, 0, none⟩) (M.length + 1) cap)) w') :
    if Region.wanted o (yielded ops a.tmps) = true then Oper.wp Try.prog o a W K Q else E := by
  obtain ⟨i0, hi0, hz0, hz1, hz2⟩ := info_parts Try.infoPo
  have hw : Region.wanted o (yielded ops a.tmps) = true := by simp [Region.wanted, hgd]
  rw [if_pos hw]
  obtain ⟨v', w', hrun, r1, r2, -⟩ := run_append_own (P := Try.prog) W base 29 o.type 49 i0 _ 15 112 Try.underlying29 hi0 hz0 hz1 hz2 rfl (by decide) v M.length (cellsOf lP M) hown ⟨N, 0, none⟩ 1 1 (lP p) (lP_len p) (fun j u hu => by rw [addr_add, Nat.zero_add, hN.cell, hu]) (fun u hu => (List.all_eq_true.1 (lP_one p)) u hu) (by unfold maxLen; omega) (by omega) hbase
  obtain ⟨g, cap, rfl, hgb⟩ := owns_row_some r1 (by omega)
  unfold Oper.wp
  simp [execOp, hop, resolve, invoke, builtin, hs, hx, hrun, Result.andThen]
  refine hK g cap w' hgb ?_ r2
  unfold OwnL
  rw [List.length_append, cellsOf_snoc]
  exact r1

set_option maxRecDepth 100000 in
set_option maxHeartbeats 1000000 in
theorem begin_is (c : Cf) (L : List PV) (hL : Hid (L.length = c.n)) (hf : Hid (c.n ≤ 4)) (hb : Hid (CB c)) (ht : Hid (timesB c = true)) (w : World) (hp : Hid (PortsIn w c.A w.heap.size L)) :
    Calls Try.prog 21 #[.agg (lC c).toArray] w (TOut w (newT c) c.n (newL c L)) := by
  obtain ⟨wb, hwb, S⟩ := hs_two w 44 31 (lC c) [.int .u64 0, .int .u64 0, .int .u32 0, .int .i64 0, .int .i64 0, .int .i64 0, .int .i64 0, .int .i64 0, .int .i64 0, .int .i64 0, .bool false, .bool false, .bool false, .int .i64 0, .bool false, .int .i64 0, .bool false, .int .i64 0, .slice none 0 0]
  go_enter Try.func21, Try.ntmps21
  go_upto_region 1 with fail
  clear hwb
  obtain ⟨X, hX⟩ : ∃ X, w.heap.size = X := ⟨_, rfl⟩
  rw [hX] at S
  obtain ⟨Y, hY⟩ : ∃ Y, X + 1 = Y := ⟨_, rfl⟩
  rw [hY] at S
  rw [hX]
  rw [hY]
  clear hX hY
  have HI := fun W => Lib.hid (rid_row c hb.out W)
  have hx := S.bk 1 rfl
  go_wp2_with (with_reducible refine wpList_load_row rfl 44 (.tmp 1) rfl X (by kernel_rfl) _ _ (0, 0) _ hx Try.underlying44 rfl (by kernel_rfl) ?_)
  (with_reducible refine (HI _).out.mono ?_); rintro e w1 ⟨rfl, b1⟩
  have S1 := S.below b1
  clear S hx HI b1
  go_upto_region 2 with fail
  have c2 := S1.cell 1 2 rfl rfl
  have c3 := S1.cell 1 3 rfl rfl
  have c4 := S1.cell 1 4 rfl rfl
  have hT : (6 ≤ c.ma ∧ c.ma ≤ 40) ∧ (1 ≤ c.he ∧ c.he ≤ 10) ∧ (4 ≤ c.de ∧ c.de ≤ 30) := by
    have := ht.out
    unfold timesB at this
    simp only [Bool.and_eq_true] at this
    obtain ⟨h1, h2, h3, -⟩ := this
    exact ⟨inI_t h1, inI_t h2, inI_t h3⟩
  obtain ⟨⟨a0, a1⟩, ⟨b0, b1⟩, ⟨d0, d1⟩⟩ := hT
  go_upto_region 3 with (refine wpList_store_row rfl 26 _ _ rfl _ _ rfl rfl _ _ (heap_alloc_new _ _) (by kernel_rfl) (by kernel_rfl) (by kernel_rfl) ?_)
  rw [alloc_row]
  rw [of_small (by omega) (by omega), of_small (by omega) (by omega), of_small (by omega) (by omega)]
  have S2 := S1.al rfl 26 [.int .i64 (ofI c.ma), .int .i64 (ofI c.he), .int .i64 (ofI c.de)]
  obtain ⟨V, hV⟩ : ∃ V, w1.heap.size = V := ⟨_, rfl⟩
  rw [hV] at S2 ⊢
  generalize w1.alloc (.cells ([.int .i64 (ofI c.ma), .int .i64 (ofI c.he), .int .i64 (ofI c.de)] : List Value).toArray 26) = w2 at S2 ⊢
  clear S1 c2 c3 c4 hV a0 a1 b0 b1 d0 d1
  have hv := S2.bk 0 rfl
  go_upto_region 4 with (first | (with_reducible refine wpList_load_row rfl 26 (.tmp 4) rfl V (by kernel_rfl) _ _ (0, 0) _ hv Try.underlying26 rfl (by kernel_rfl) ?_) | (refine wpList_store_row rfl 31 _ _ rfl _ _ rfl rfl _ _ (heap_alloc_new _ _) (by kernel_rfl) (by kernel_rfl) (by kernel_rfl) ?_))
  rw [alloc_row]
  have S3 := S2.al rfl 31 (lT (newT c) none 0 0)
  obtain ⟨G, hG⟩ : ∃ G, w2.heap.size = G := ⟨_, rfl⟩
  rw [hG] at S3 ⊢
  have hbase : w.heap.size ≤ (w2.alloc (.cells (lT (newT c) none 0 0).toArray 31)).heap.size := S3.old.size
  have hg0 := And.intro (S3.lt 0 rfl) (And.intro (S3.lt 1 rfl) (And.intro (S3.lt 2 rfl) (S3.lt 3 rfl)))
  obtain ⟨w3, hw3⟩ : ∃ w3, w2.alloc (.cells (lT (newT c) none 0 0).toArray 31) = w3 := ⟨_, rfl⟩
  have hw3' : w2.alloc (.cells #[.int .u64 (idI c), .int .u64 (idI c), .int .u32 0, .int .i64 (-1), .int .i64 (ofI c.ma), .int .i64 (ofI c.he), .int .i64 (ofI c.de), .int .i64 (ofI c.ma), .int .i64 (ofI c.he), .int .i64 (ofI c.de), .bool false, .bool false, .bool false, .int .i64 0, .bool false, .int .i64 0, .bool false, .int .i64 0, .slice none 0 0] 31) = w3 := hw3
  try rw [hw3']
  rw [hw3] at S3 hbase hg0
  try rw [hw3]
  clear hw3 hw3' S2 hv hG
  obtain ⟨base, hbs⟩ : ∃ b, w3.heap.size = b := ⟨_, rfl⟩
  rw [hbs] at hbase hg0
  have R3 : OwnL lP 15 49 w3 base (.slice none 0 0) ([] : List Po) := OwnL.nil _ _ _
  have hg1 : ∀ cs : List Value, ∀ x ∈ ([(G, 31, cs), (V, 26, [.int .i64 (ofI c.ma), .int .i64 (ofI c.he), .int .i64 (ofI c.de)]), (Y, 31, [.int .u64 0, .int .u64 0, .int .u32 0, .int .i64 0, .int .i64 0, .int .i64 0, .int .i64 0, .int .i64 0, .int .i64 0, .int .i64 0, .bool false, .bool false, .bool false, .int .i64 0, .bool false, .int .i64 0, .bool false, .int .i64 0, .slice none 0 0]), (X, 44, lC c)] : List (Nat × TypeId × List Value)), x.1 < base := fun cs => List.forall_mem_cons.2 ⟨hg0.1, List.forall_mem_cons.2 ⟨hg0.2.1, List.forall_mem_cons.2 ⟨hg0.2.2.1, List.forall_mem_cons.2 ⟨hg0.2.2.2, fun x hx => by cases hx⟩⟩⟩⟩
  have HG1 := Lib.hid hg1
  have HG0 := Lib.hid hg0
  clear hg1 hg0
  go_wp2
  go_loopw [6] (fun i wr => ∃ (k : Nat) (D : Option Addr) (cap : Nat), k ≤ c.n ∧ i = .int .i64 k ∧ (D = none → cap = 0) ∧ Hs w [(G, 31, lT (newT c) (D) (k) (cap)), (V, 26, [.int .i64 (ofI c.ma), .int .i64 (ofI c.he), .int .i64 (ofI c.de)]), (Y, 31, [.int .u64 0, .int .u64 0, .int .u32 0, .int .i64 0, .int .i64 0, .int .i64 0, .int .i64 0, .int .i64 0, .int .i64 0, .int .i64 0, .bool false, .bool false, .bool false, .int .i64 0, .bool false, .int .i64 0, .bool false, .int .i64 0, .slice none 0 0]), (X, 44, lC c)] wr ∧ base ≤ wr.heap.size ∧ OwnL lP 15 49 wr base (.slice D k cap) ((newL c L).take k)) (fun i _ => c.n - (intOf i).toNat)
  case atStart => exact ⟨0, none, 0, Nat.zero_le _, rfl, fun _ => rfl, S3, by omega, R3⟩
  case round =>
    clear S3 R3
    obtain ⟨k, D, cap, hk, rfl, hz, S, hbw, R⟩ := hrel
    have HZ := Lib.hid hz
    clear hz
    have x7 := S.cell 3 7 rfl rfl
    by_cases hkn : k < c.n
    · obtain ⟨x, hx⟩ := pv_at hL.out hkn
      have hki : (k : Int) < (c.n : Int) := by omega
      have HX := Lib.hid hx
      obtain ⟨ad, hA, hadb, ⟨y0, y1, y2⟩, -⟩ := port_cells hp.out hx
      have HY1 : ∀ w', Below w.heap.size w w' → w'.cell? ⟨(ad.add (k * 3)).block, (ad.add (k * 3)).off + 1, none⟩ = some (.int .u32 x.co) := fun w' b => (b.cell (p := ⟨(ad.add (k * 3)).block, (ad.add (k * 3)).off + 1, none⟩) (by rw [Go.Proofs.Ytkdbhioneoknjaa.add_block]; exact hadb)).trans y1
      have y2' : wr.cell? ⟨(ad.add (k * 3)).block, (ad.add (k * 3)).off + 2, none⟩ = some (.bool x.on) := (S.old.cell (p := ⟨(ad.add (k * 3)).block, (ad.add (k * 3)).off + 2, none⟩) (by rw [Go.Proofs.Ytkdbhioneoknjaa.add_block]; exact hadb)).trans y2
      have hidx : ∀ W : World, (Instr.indexAt 42 (.slice c.A c.n c.cap) (.int .i64 (k : Int))).run Try.prog W = .ok (.pointer (some (ad.add (k * 3)))) W := by
        intro W
        rw [hA]
        go_simp
      clear hx y0 y1 y2 hA
      obtain ⟨s, hs⟩ : ∃ s : Int, (if x.on = true then (1 : Int) else 0) = s := ⟨_, rfl⟩
      have HS := Lib.hid hs
      clear hs
      go_upto_if 38 with fail
      go_cut [7] (fun q wx => q = .int .i64 s ∧ wx = wr)
      case first =>
        have hs := HS.out
        obtain ⟨o, ho⟩ : ∃ o, x.on = o := ⟨_, rfl⟩
        rw [ho] at hs
        rw [ho]
        cases o with
        | true =>
          obtain rfl : (1 : Int) = s := hs
          go_wp2
          go_meet
          exact ⟨rfl, rfl⟩
        | false =>
          obtain rfl : (0 : Int) = s := hs
          go_wp2
          go_meet
          exact ⟨rfl, rfl⟩
      case rest =>
        obtain ⟨rfl, rfl⟩ := hcut
        have hf4 := hf.out
        have HP := Lib.hid (rport_row c L hL.out (by omega) k (by omega) wc ((hp.out.below S.old (Nat.le_refl _)).wide S.old.size))
        have hx := S.bk 3 rfl
        go_wp2_with (with_reducible refine wpList_load_row rfl 44 (.tmp 1) rfl X (by kernel_rfl) _ _ (0, 0) _ hx Try.underlying44 rfl (by kernel_rfl) ?_)
        (with_reducible refine HP.out.mono ?_); rintro e v1 ⟨rfl, b1⟩
        have S1 := (S.below b1).drew
        have R1 := Lib.hid ((R.below b1).drew)
        have hb1 : base ≤ v1.drew.heap.size := Nat.le_trans hbw b1.size
        have hkz : ¬ (c.n : Int) ≤ (k : Int) := by omega
        clear S R HP hx b1 x7 y2'
        go_upto_region 11 with fail
        refine wp_region_held_drew (S := (fun w' => ∃ D k cap, Hs w [(G, 31, lT (newT c) (D) (k) (cap)), (V, 26, [.int .i64 (ofI c.ma), .int .i64 (ofI c.he), .int .i64 (ofI c.de)]), (Y, 31, [.int .u64 0, .int .u64 0, .int .u32 0, .int .i64 0, .int .i64 0, .int .i64 0, .int .i64 0, .int .i64 0, .int .i64 0, .int .i64 0, .bool false, .bool false, .bool false, .int .i64 0, .bool false, .int .i64 0, .bool false, .int .i64 0, .slice none 0 0]), (X, 44, lC c)] w')) (by kernel_rfl) ⟨_, _, _, S1⟩ (fun hHeld => ?_)
        refine wpAnyH_take (i := 0) (v := ?_) rfl (by kernel_rfl) (by kernel_rfl) (by kernel_rfl) (fun _ _ _ h => h) (Or.inl ⟨by kernel_rfl, ?_⟩) (by assumption) ?_
        rotate_left
        · intro w' hSw; (try dsimp only at hSw); go_simp; with_reducible rfl
        try simp only [Act.put, List.setIfInBounds_toArray, List.set_cons_succ]
        refine wpAnyH_take (i := 2) (v := ?_) rfl (by kernel_rfl) (by kernel_rfl) (by kernel_rfl) (fun _ _ _ h => h) (Or.inl ⟨by kernel_rfl, ?_⟩) (by assumption) ?_
        rotate_left
        · intro w' hSw; (try dsimp only at hSw); go_simp; with_reducible rfl
        try simp only [Act.put, List.setIfInBounds_toArray, List.set_cons_succ]
        refine wpAnyH_take (i := 3) (v := ?_) rfl (by kernel_rfl) (by kernel_rfl) (by kernel_rfl) (fun _ _ _ h => h) (Or.inl ⟨by kernel_rfl, ?_⟩) (by assumption) ?_
        rotate_left
        · intro w' hSw; (try dsimp only at hSw); go_simp; with_reducible rfl
        try simp only [Act.put, List.setIfInBounds_toArray, List.set_cons_succ]
        refine wpAnyH_take (i := 4) (v := ?_) rfl (by kernel_rfl) (by kernel_rfl) (by kernel_rfl) (fun _ _ _ h => h) (Or.inl ⟨by kernel_rfl, ?_⟩) (by assumption) ?_
        rotate_left
        · intro w' hSw; (try dsimp only at hSw); go_simp; with_reducible rfl
        try simp only [Act.put, List.setIfInBounds_toArray, List.set_cons_succ]
        refine wpAnyH_take (i := 5) (v := ?_) rfl (by kernel_rfl) (by kernel_rfl) (by kernel_rfl) (fun _ _ _ h => h) (Or.inl ⟨by kernel_rfl, ?_⟩) (by assumption) ?_
        rotate_left
        · intro w' hSw; (try dsimp only at hSw); have c0 := hSw.choose_spec.choose_spec.choose_spec.cell 3 7 rfl rfl; go_simp; with_reducible rfl
        try simp only [Act.put, List.setIfInBounds_toArray, List.set_cons_succ]
        refine wpAnyH_take (i := 6) (v := ?_) rfl (by kernel_rfl) (by kernel_rfl) (by kernel_rfl) (fun _ _ _ h => h) (Or.inl ⟨by kernel_rfl, ?_⟩) (by assumption) ?_
        rotate_left
        · intro w' hSw; (try dsimp only at hSw); go_simp; with_reducible rfl
        try simp only [Act.put, List.setIfInBounds_toArray, List.set_cons_succ]
        refine wpAnyH_take (i := 7) (v := ?_) rfl (by kernel_rfl) (by kernel_rfl) (by kernel_rfl) (fun _ _ _ h => h) (Or.inl ⟨by kernel_rfl, ?_⟩) (by assumption) ?_
        rotate_left
        · intro w' hSw; (try dsimp only at hSw); have c0 := hidx w'; go_simp; with_reducible rfl
        try simp only [Act.put, List.setIfInBounds_toArray, List.set_cons_succ]
        refine wpAnyH_take (i := 8) (v := ?_) rfl (by kernel_rfl) (by kernel_rfl) (by kernel_rfl) (fun _ _ _ h => h) (Or.inl ⟨by kernel_rfl, ?_⟩) (by assumption) ?_
        rotate_left
        · intro w' hSw; (try dsimp only at hSw); go_simp; with_reducible rfl
        try simp only [Act.put, List.setIfInBounds_toArray, List.set_cons_succ]
        refine wpAnyH_take (i := 9) (v := ?_) rfl (by kernel_rfl) (by kernel_rfl) (by kernel_rfl) (fun _ _ _ h => h) (Or.inl ⟨by kernel_rfl, ?_⟩) (by assumption) ?_
        rotate_left
        · intro w' hSw; (try dsimp only at hSw); have c0 := HY1 _ hSw.choose_spec.choose_spec.choose_spec.old; go_simp; with_reducible rfl
        try simp only [Act.put, List.setIfInBounds_toArray, List.set_cons_succ]
        refine wpAnyH_take (i := 10) (v := ?_) rfl (by kernel_rfl) (by kernel_rfl) (by kernel_rfl) (fun _ _ _ h => h) (Or.inl ⟨by kernel_rfl, ?_⟩) (by assumption) ?_
        rotate_left
        · intro w' hSw; (try dsimp only at hSw); go_simp; with_reducible rfl
        try simp only [Act.put, List.getElem_toArray, List.getElem_cons_succ, List.getElem_cons_zero, List.setIfInBounds_toArray, List.set_cons_succ]
        refine wpAnyH_take (i := 11) (v := ?_) rfl (by kernel_rfl) (by kernel_rfl) (by kernel_rfl) (fun _ _ _ h => h) (Or.inl ⟨by kernel_rfl, ?_⟩) (by assumption) ?_
        rotate_left
        · intro w' hSw; (try dsimp only at hSw); go_simp; with_reducible rfl
        try simp only [Act.put, List.getElem_toArray, List.getElem_cons_succ, List.getElem_cons_zero, List.setIfInBounds_toArray, List.set_cons_succ]
        refine wpAnyH_take (i := 12) (v := ?_) rfl (by kernel_rfl) (by kernel_rfl) (by kernel_rfl) (fun _ _ _ h => h) (Or.inl ⟨by kernel_rfl, ?_⟩) (by assumption) ?_
        rotate_left
        · intro w' hSw; (try dsimp only at hSw); go_simp; with_reducible rfl
        try simp only [Act.put, List.getElem_toArray, List.getElem_cons_succ, List.getElem_cons_zero, List.setIfInBounds_toArray, List.set_cons_succ]
        refine wpAnyH_take (i := 13) (v := ?_) rfl (by kernel_rfl) (by kernel_rfl) (by kernel_rfl) (fun _ _ _ h => h) (Or.inl ⟨by kernel_rfl, ?_⟩) (by assumption) ?_
        rotate_left
        · intro w' hSw; (try dsimp only at hSw); go_simp; with_reducible rfl
        try simp only [Act.put, List.getElem_toArray, List.getElem_cons_succ, List.getElem_cons_zero, List.setIfInBounds_toArray, List.set_cons_succ]
        refine wpAnyH_take (i := 14) (v := ?_) rfl (by kernel_rfl) (by kernel_rfl) (by kernel_rfl) (fun _ _ _ h => h) (Or.inl ⟨by kernel_rfl, ?_⟩) (by assumption) ?_
        rotate_left
        · intro w' hSw; (try dsimp only at hSw); go_simp; with_reducible rfl
        try simp only [Act.put, List.getElem_toArray, List.getElem_cons_succ, List.getElem_cons_zero, List.setIfInBounds_toArray, List.set_cons_succ]
        have hnp : newP c L k x = ⟨pidI L k, s, x.co, idI c, 0, idI c, pidI L k, false, false, false, 0, false, 0, false, 0⟩ := by unfold newP; rw [HS.out]
        have hlk : ((newL c L).take k).length = k := by rw [List.length_take, newL, List.length_mapIdx, hL.out]; omega
        obtain ⟨w5, hw5⟩ : ∃ w5, v1.drew.alloc (.cells (lP (newP c L k x)).toArray 49) = w5 := ⟨_, rfl⟩
        have hw5' : v1.drew.alloc (.cells #[.int .u16 (pidI L k), .int .i64 s, .int .u32 x.co, .int .u64 (idI c), .int .u32 0, .int .u64 (idI c), .int .u16 (pidI L k), .bool false, .bool false, .bool false, .int .i64 0, .bool false, .int .i64 0, .bool false, .int .i64 0] 49) = w5 := by rw [← hw5, hnp]; rfl
        have b5 : Below v1.drew.heap.size v1.drew w5 := by rw [← hw5]; exact new_below _ _
        have k5 : Bk w5 v1.drew.heap.size 49 (lP (newP c L k x)) := by rw [← hw5]; exact heap_alloc_new _ _
        have S5 := S1.below b5
        have R5 := R1.out.below b5
        have hb5 : base ≤ w5.heap.size := Nat.le_trans hb1 b5.size
        clear hw5
        refine wpAnyH_ready (rs := [1, 15]) (by kernel_rfl) (by simp) ?_
        refine AllReadyH.cons rfl (fun K hK => ?_) (AllReadyH.cons rfl (fun K hK => ?_) AllReadyH.nil)
        · have c18 := S1.cell 0 18 rfl rfl
          go_simp
          refine hK.out _ _ ⟨_, _, _, S1⟩ (fun hHeld => ?_)
          clear hK K
          try simp only [Act.put, List.getElem_toArray, List.getElem_cons_succ, List.getElem_cons_zero, List.setIfInBounds_toArray, List.set_cons_succ, List.set_cons_zero]
          refine wpAnyH_ready (rs := [15]) (by kernel_rfl) (by simp) ?_
          refine AllReadyH.cons rfl (fun K hK => ?_) AllReadyH.nil
          go_simp
          refine hK.out _ _ ⟨_, _, _, S5⟩ (fun hHeld => ?_)
          clear hK K
          try simp only [Act.put, List.getElem_toArray, List.getElem_cons_succ, List.getElem_cons_zero, List.setIfInBounds_toArray, List.set_cons_succ, List.set_cons_zero]
          refine wpAnyH_ready (rs := [16]) (by kernel_rfl) (by simp) ?_
          refine AllReadyH.cons rfl (fun K hK => ?_) AllReadyH.nil
          refine step_append_port rfl (.tmp 43) (.tmp 57) (by kernel_rfl) base (.slice D k cap) ((newL c L).take k) (by kernel_rfl) R5 (newP c L k x) v1.drew.heap.size (by kernel_rfl) k5 (by omega) hb5 ?_
          intro g7 cap7 w7 hg7 R7 gr7
          have S7 := S5.grow gr7 (fun b hb' => (World.ownsRow.lt R5 b hb').1) (HG1.out _) hbase
          have hb7 : base ≤ w7.heap.size := Nat.le_trans hb5 gr7.size
          rw [hlk] at R7 ⊢
          refine hK.out _ _ ⟨_, _, _, S7⟩ (fun hHeld => ?_)
          clear hK K
          try simp only [Act.put, List.getElem_toArray, List.getElem_cons_succ, List.getElem_cons_zero, List.setIfInBounds_toArray, List.set_cons_succ, List.set_cons_zero]
          refine wpAnyH_take (i := 17) (v := ?_) rfl (by kernel_rfl) (by kernel_rfl) (by kernel_rfl) (fun _ _ _ h => h) (Or.inl ⟨by kernel_rfl, ?_⟩) (by assumption) ?_
          rotate_left
          · intro w' hSw; (try dsimp only at hSw); go_simp; with_reducible rfl
          try simp only [Act.put, List.getElem_toArray, List.getElem_cons_succ, List.getElem_cons_zero, List.setIfInBounds_toArray, List.set_cons_succ]
          have S8 : Hs w [(G, 31, lT (newT c) (some ⟨g7, 0, none⟩) (k + 1) (cap7)), (V, 26, [.int .i64 (ofI c.ma), .int .i64 (ofI c.he), .int .i64 (ofI c.de)]), (Y, 31, [.int .u64 0, .int .u64 0, .int .u32 0, .int .i64 0, .int .i64 0, .int .i64 0, .int .i64 0, .int .i64 0, .int .i64 0, .int .i64 0, .bool false, .bool false, .bool false, .int .i64 0, .bool false, .int .i64 0, .bool false, .int .i64 0, .slice none 0 0]), (X, 44, lC c)] _ := S7.set 0 rfl 18 (.slice (some ⟨g7, 0, none⟩) (k + 1) cap7)
          have R8 := R7.heap (w' := w7.setCell ⟨G, 18, none⟩ (.slice (some ⟨g7, 0, none⟩) (k + 1) cap7)) (fun b hb' => Below.heap_setCell w7 ⟨G, 18, none⟩ _ b (by have := HG0.out.1; show b ≠ G; omega))
          have hb8 : base ≤ (w7.setCell ⟨G, 18, none⟩ (.slice (some ⟨g7, 0, none⟩) (k + 1) cap7)).heap.size := Nat.le_trans hb7 (by simp)
          have c18 := S7.cell 0 18 rfl rfl
          have f18 := S7.thaw 0 18 rfl
          refine wpAnyH_ready (rs := [18]) (by kernel_rfl) (by simp) ?_
          refine AllReadyH.cons rfl (fun K hK => ?_) AllReadyH.nil
          go_simp
          refine hK.out _ _ ⟨_, _, _, S8⟩ (fun hHeld => ?_)
          clear hK K
          try simp only [Act.put, List.getElem_toArray, List.getElem_cons_succ, List.getElem_cons_zero, List.setIfInBounds_toArray, List.set_cons_succ, List.set_cons_zero]
          refine wpAnyH_done (by kernel_rfl) ?_ _
          have htk : (newL c L).take k ++ [newP c L k x] = (newL c L).take (k + 1) := by
            rw [List.take_add_one, newL, List.getElem?_mapIdx, HX.out]
            rfl
          rw [htk] at R8
          generalize w7.setCell ⟨G, 18, none⟩ (.slice (some ⟨g7, 0, none⟩) (k + 1) cap7) = w8 at S8 R8 hb8 ⊢
          clear S1 S5 S7 R5 R7 R1 gr7 hHeld htk hb7 hb5 k5 b5 hw5' hb1 hlk hnp hidx
          go_wp2
          go_roundw
          case rel => exact ⟨k + 1, some ⟨g7, 0, none⟩, cap7, by omega, by go_num, (fun e => by cases e), S8, hb8, R8⟩
          case measure => simp [intOf]; omega
        · go_simp
          refine hK.out _ _ ⟨_, _, _, S5⟩ (fun hHeld => ?_)
          clear hK K
          try simp only [Act.put, List.getElem_toArray, List.getElem_cons_succ, List.getElem_cons_zero, List.setIfInBounds_toArray, List.set_cons_succ, List.set_cons_zero]
          have c18 := S5.cell 0 18 rfl rfl
          refine wpAnyH_ready (rs := [1]) (by kernel_rfl) (by simp) ?_
          refine AllReadyH.cons rfl (fun K hK => ?_) AllReadyH.nil
          go_simp
          refine hK.out _ _ ⟨_, _, _, S5⟩ (fun hHeld => ?_)
          clear hK K
          try simp only [Act.put, List.getElem_toArray, List.getElem_cons_succ, List.getElem_cons_zero, List.setIfInBounds_toArray, List.set_cons_succ, List.set_cons_zero]
          refine wpAnyH_ready (rs := [16]) (by kernel_rfl) (by simp) ?_
          refine AllReadyH.cons rfl (fun K hK => ?_) AllReadyH.nil
          refine step_append_port rfl (.tmp 43) (.tmp 57) (by kernel_rfl) base (.slice D k cap) ((newL c L).take k) (by kernel_rfl) R5 (newP c L k x) v1.drew.heap.size (by kernel_rfl) k5 (by omega) hb5 ?_
          intro g7 cap7 w7 hg7 R7 gr7
          have S7 := S5.grow gr7 (fun b hb' => (World.ownsRow.lt R5 b hb').1) (HG1.out _) hbase
          have hb7 : base ≤ w7.heap.size := Nat.le_trans hb5 gr7.size
          rw [hlk] at R7 ⊢
          refine hK.out _ _ ⟨_, _, _, S7⟩ (fun hHeld => ?_)
          clear hK K
          try simp only [Act.put, List.getElem_toArray, List.getElem_cons_succ, List.getElem_cons_zero, List.setIfInBounds_toArray, List.set_cons_succ, List.set_cons_zero]
          refine wpAnyH_take (i := 17) (v := ?_) rfl (by kernel_rfl) (by kernel_rfl) (by kernel_rfl) (fun _ _ _ h => h) (Or.inl ⟨by kernel_rfl, ?_⟩) (by assumption) ?_
          rotate_left
          · intro w' hSw; (try dsimp only at hSw); go_simp; with_reducible rfl
          try simp only [Act.put, List.getElem_toArray, List.getElem_cons_succ, List.getElem_cons_zero, List.setIfInBounds_toArray, List.set_cons_succ]
          have S8 : Hs w [(G, 31, lT (newT c) (some ⟨g7, 0, none⟩) (k + 1) (cap7)), (V, 26, [.int .i64 (ofI c.ma), .int .i64 (ofI c.he), .int .i64 (ofI c.de)]), (Y, 31, [.int .u64 0, .int .u64 0, .int .u32 0, .int .i64 0, .int .i64 0, .int .i64 0, .int .i64 0, .int .i64 0, .int .i64 0, .int .i64 0, .bool false, .bool false, .bool false, .int .i64 0, .bool false, .int .i64 0, .bool false, .int .i64 0, .slice none 0 0]), (X, 44, lC c)] _ := S7.set 0 rfl 18 (.slice (some ⟨g7, 0, none⟩) (k + 1) cap7)
          have R8 := R7.heap (w' := w7.setCell ⟨G, 18, none⟩ (.slice (some ⟨g7, 0, none⟩) (k + 1) cap7)) (fun b hb' => Below.heap_setCell w7 ⟨G, 18, none⟩ _ b (by have := HG0.out.1; show b ≠ G; omega))
          have hb8 : base ≤ (w7.setCell ⟨G, 18, none⟩ (.slice (some ⟨g7, 0, none⟩) (k + 1) cap7)).heap.size := Nat.le_trans hb7 (by simp)
          have c18 := S7.cell 0 18 rfl rfl
          have f18 := S7.thaw 0 18 rfl
          refine wpAnyH_ready (rs := [18]) (by kernel_rfl) (by simp) ?_
          refine AllReadyH.cons rfl (fun K hK => ?_) AllReadyH.nil
          go_simp
          refine hK.out _ _ ⟨_, _, _, S8⟩ (fun hHeld => ?_)
          clear hK K
          try simp only [Act.put, List.getElem_toArray, List.getElem_cons_succ, List.getElem_cons_zero, List.setIfInBounds_toArray, List.set_cons_succ, List.set_cons_zero]
          refine wpAnyH_done (by kernel_rfl) ?_ _
          have htk : (newL c L).take k ++ [newP c L k x] = (newL c L).take (k + 1) := by
            rw [List.take_add_one, newL, List.getElem?_mapIdx, HX.out]
            rfl
          rw [htk] at R8
          generalize w7.setCell ⟨G, 18, none⟩ (.slice (some ⟨g7, 0, none⟩) (k + 1) cap7) = w8 at S8 R8 hb8 ⊢
          clear S1 S5 S7 R5 R7 R1 gr7 hHeld htk hb7 hb5 k5 b5 hw5' hb1 hlk hnp hidx
          go_wp2
          go_roundw
          case rel => exact ⟨k + 1, some ⟨g7, 0, none⟩, cap7, by omega, by go_num, (fun e => by cases e), S8, hb8, R8⟩
          case measure => simp [intOf]; omega
    · have hki : ¬ (k : Int) < (c.n : Int) := by omega
      have hke : k = c.n := by omega
      subst hke
      rw [List.take_of_length_le (by rw [newL, List.length_mapIdx, hL.out]; exact Nat.le_refl _)] at R
      have hx := S.bk 0 rfl
      have hy := S.bk 2 rfl
      have hYb := HG0.out.2.2.1
      have hYw := (S.1 2 _ _ _ rfl).2
      go_wp2_with (first | (with_reducible refine wpList_load_row rfl 31 (.tmp 5) rfl G (by kernel_rfl) _ _ (0, 0) _ hx Try.underlying31 rfl (by kernel_rfl) ?_) | (refine wpList_store_row rfl 31 _ _ rfl Y _ rfl rfl _ _ hy (by kernel_rfl) (by kernel_rfl) (by kernel_rfl) ?_))
      exact bodyPost_ret (v := .agg (lT (newT c) D c.n cap).toArray) (results_cell_row rfl _ _ Y _ _ _ _ rfl (setRow_heap _ _ _ _ _ _ hy) Try.underlying31 rfl (by kernel_rfl)) rfl ⟨D, cap, rfl, HZ.out, own_ts (below_setRow S.old hYw _) hbase (R.heap (fun b hb' => setRow_other wr Y b _ (by omega)))⟩

end Go.Proofs.Ytkdbhioneoknjaa
