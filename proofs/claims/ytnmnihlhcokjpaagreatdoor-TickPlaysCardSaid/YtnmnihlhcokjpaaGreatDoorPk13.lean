/- Several texts in one, one behind the other: TickRan, TickMainPure, TickTasks, SendDet. -/
import Derived.Test.YtnmnihlhcokjpaaGreatDoorPk12
import Derived.Shelf.Abstract
import Derived.Test.YtnmnihlhcokjpaaGreatDoorPk10
import Derived.Test.YtnmnihlhcokjpaaGreatDoorPk11
import Derived.Test.YtnmnihlhcokjpaaGreatDoorPk09

/- ranOut: contract. -/
namespace Go.Proofs.YtnmnihlhcokjpaaGreatDoor
set_option maxRecDepth 100000
open Go.ChangeShapes Go.WideShapes Go.ChangeAt Go.RowKit
set_option linter.unusedVariables false
set_option linter.unusedSimpArgs false

/-- Whose timer ran out, of the first k. -/
def idxF (f : Po → Bool) (L : List Po) : Nat → List Nat
  | 0 => []
  | k + 1 => idxF f L k ++ (match L[k]? with | some p => (if f p = true then [k] else []) | none => [])
theorem idx_len (f : Po → Bool) (L : List Po) : ∀ k, (idxF f L k).length ≤ k
  | 0 => Nat.le_refl _
  | k + 1 => by
    have ih := idx_len f L k
    unfold idxF
    rw [List.length_append]
    split
    · split
      · simp only [List.length_singleton]; omega
      · simp only [List.length_nil]; omega
    · simp only [List.length_nil]; omega
theorem idx_lt (f : Po → Bool) (L : List Po) : ∀ k, ∀ i ∈ idxF f L k, i < L.length
  | 0 => fun i h => by cases h
  | k + 1 => fun i h => by
    unfold idxF at h
    rcases List.mem_append.1 h with q | q
    · exact idx_lt f L k i q
    · split at q
      · rename_i p hp
        split at q
        · obtain rfl := List.mem_singleton.1 q
          exact po_lt hp
        · cases q
      · cases q
theorem idx_yes {f : Po → Bool} {L : List Po} {k : Nat} {p : Po} (h : L[k]? = some p) (hf : f p = true) : idxF f L (k + 1) = idxF f L k ++ [k] := by
  show idxF f L k ++ _ = _
  rw [h]
  simp only [hf, if_true]
theorem idx_no {f : Po → Bool} {L : List Po} {k : Nat} {p : Po} (h : L[k]? = some p) (hf : f p = false) : idxF f L (k + 1) = idxF f L k := by
  show idxF f L k ++ _ = _
  rw [h]
  simp [hf]
/-- A port's timer: where it lies, and how it is taken. -/
structure Kind (gN c : Nat) (gb : Po → Bool) (gv : Po → Int) (st : Po → Bool → Int → Po) : Prop where
  call : ∀ (g k : Nat) (W : World), Calls Tryz.prog gN #[.pointer (some ⟨g, k, none⟩)] W fun e W' => e = .returned (.pointer (some ⟨g, k + c, none⟩)) ∧ W = W'
  eg : ∀ args w, (callFunc gN args).run Tryz.prog w = .ok (.enter gN args) w
  room : c + 2 ≤ 15
  get0 : ∀ p, (lP p)[c]? = some (.bool (gb p))
  get1 : ∀ p, (lP p)[c + 1]? = some (.int .i64 (gv p))
  set : ∀ p q u, setL (lP p) c [.bool q, .int .i64 u] = lP (st p q u)
theorem kdelay : Kind 46 11 (·.yo) (·.yv) (fun p q u => { p with yo := q, yv := u }) := ⟨pdelay_is, enters_of Tryz.func46 (by kernel_rfl) rfl, by omega, fun _ => rfl, fun _ => rfl, fun _ _ _ => rfl⟩
theorem kage : Kind 48 9 (·.ao) (·.av) (fun p q u => { p with ao := q, av := u }) := ⟨page_is, enters_of Tryz.func48 (by kernel_rfl) rfl, by omega, fun _ => rfl, fun _ => rfl, fun _ _ _ => rfl⟩
theorem khold : Kind 50 13 (·.ho) (·.hv) (fun p q u => { p with ho := q, hv := u }) := ⟨phold_is, enters_of Tryz.func50 (by kernel_rfl) rfl, by omega, fun _ => rfl, fun _ => rfl, fun _ _ _ => rfl⟩
/-- What ranOut leaves. -/
def RanEnd (w : World) (l : List (Nat × TypeId × List Value)) (D : Option Addr) (W : World) (L' : List Po) (I : List Nat) (e : Ending) (W' : World) : Prop :=
  ∃ v, e = .returned v ∧ TS w l D L' W' ∧ IntsR W' W.heap.size v I ∧ Fr W.heap.size W W'
theorem TF.growI {w W wx wy : World} {l : List (Nat × TypeId × List Value)} {D : Option Addr} {L : List Po} {base n : Nat} {v : Value} {xs : List Value} (h : TF w l D L W wx) (hown : wx.ownsRow base 3 1 v n xs) (gr : wx.grownBy wy v.ownBlock) (hl : ∀ y ∈ l, 3 ≠ y.2.1) (hB : w.heap.size ≤ base) (hW : W.heap.size ≤ base) : TF w l D L W wy :=
  ⟨h.1.growI hown gr hl (by decide) hB, h.2.trans (Fr.grown hown gr hW h.2.1)⟩
theorem box_int {X : Nat} {cs : List Value} {l : List (Nat × TypeId × List Value)} (h : ∀ y ∈ l, 3 ≠ y.2.1) : ∀ y ∈ (X, 71, cs) :: l, 3 ≠ y.2.1 := fun y hy => by
  rcases List.mem_cons.1 hy with rfl | q
  · dsimp only; decide
  · exact h y q
set_option maxHeartbeats 4000000 in
theorem ranout_is {gN c : Nat} {gb : Po → Bool} {gv : Po → Int} {st : Po → Bool → Int → Po} (KD : Kind gN c gb gv st) (fd : Value) (lim : Int) (k0 : -9223372036854775808 ≤ lim) (k1 : lim ≤ 9223372036854775807) {w W : World} {l : List (Nat × TypeId × List Value)} (D : Option Addr) (n cap : Nat) (L : List Po) (f : Po → Po) (fl : Po → Bool) (hfp : Hid (∀ p, f p = st p (firO (gb p) (gv p) lim).1.1 (firO (gb p) (gv p) lim).1.2)) (hfl : Hid (∀ p, fl p = (firO (gb p) (gv p) lim).2)) (hv : Hid (∀ p ∈ L, 0 ≤ gv p ∧ gv p ≤ 1073741824)) (hli : Hid (∀ y ∈ l, 3 ≠ y.2.1)) (hL : Hid (L.length = n)) (hf : n ≤ 200) (hS : TS w l D L W) :
    Calls Tryz.prog 19 #[.slice D n cap, .agg #[.func (.func gN) #[] #[], .int .i64 lim, fd]] W (RanEnd w l D W (allL (fun _ p => f p) L) (idxF fl L n)) := by
  obtain ⟨I, hI⟩ : ∃ I, idxF fl L n = I := ⟨_, rfl⟩
  rw [hI]
  have HI := Lib.hid hI
  clear hI
  obtain ⟨i0, hi, hz0, hz1, hz2⟩ := info_parts Tryz.infoIntT
  have HIF := Lib.hid (⟨hi, hz0, hz1, hz2⟩ : _ ∧ _ ∧ _ ∧ _)
  clear hi hz0 hz1 hz2
  have eg := KD.eg
  obtain ⟨wb, hwb, S⟩ := TF.one hS 71 [.func (.func gN) #[] #[], .int .i64 lim, fd]
  have HSW := Lib.hid hS.old
  clear hS
  go_enter Tryz.func19, Tryz.ntmps19
  go_upto_region 1 with fail
  clear hwb
  obtain ⟨X, hX⟩ : ∃ q, W.heap.size = q := ⟨_, rfl⟩
  rw [hX] at S ⊢
  clear hX
  go_wp2
  go_loopw [5, 9] (fun v i wr => ∃ k : Nat, k ≤ n ∧ i = .int .i64 k ∧ TF w ((X, 71, [.func (.func gN) #[] #[], .int .i64 lim, fd]) :: l) D (mixL (fun _ p => f p) k L) W wr ∧ IntsR wr W.heap.size v (idxF fl L k)) (fun _ i _ => n - (intOf i).toNat)
  case atStart => exact ⟨0, Nat.zero_le _, rfl, by rw [mixL_zero]; exact S, OwnL.nil _ _ _⟩
  case round =>
    clear S
    obtain ⟨k, hk, rfl, S, hI⟩ := hrel
    by_cases hkn : k < n
    · obtain ⟨x, hx⟩ := po_at hL.out hkn
      have hki : (k : Int) < (n : Int) := by omega
      have hkz : ¬ (n : Int) ≤ (k : Int) := by omega
      have hm : (mixL (fun _ p => f p) k L)[k]? = some x := mixL_at hx
      obtain ⟨g, rfl, -⟩ := S.ts.at hm
      have HX := Lib.hid hx
      have HM := Lib.hid hm
      have HKN := Lib.hid hkn
      have hvx := hv.out x (List.mem_of_getElem? hx)
      have HV := Lib.hid hvx
      clear hx hm hvx
      go_upto_region 5 with fail
      refine wp_region_held_drew (S := (fun w' => Bk w' X 71 [.func (.func gN) #[] #[], .int .i64 lim, fd])) (by kernel_rfl) ((S.hs.1 0 _ _ _ rfl).1) (fun hHeld => ?_)
      have Sd := S.below ((Below.refl _ _).drew)
      have hId := hI.below ((Below.refl _ _).drew)
      obtain ⟨vd, hvd⟩ : ∃ y, wr.drew = y := ⟨_, rfl⟩
      rw [hvd] at Sd hId hHeld ⊢
      clear hvd S hI
      refine wpAnyH_take (i := 0) (v := ?_) rfl (by kernel_rfl) (by kernel_rfl) (by kernel_rfl) (fun _ _ _ h => h) (Or.inl ⟨by kernel_rfl, ?_⟩) (by assumption) ?_
      rotate_left
      · intro w' hSw; (try dsimp only at hSw); go_simp; with_reducible rfl
      try simp only [Act.put, List.getElem_toArray, List.getElem_cons_succ, List.getElem_cons_zero, List.setIfInBounds_toArray, List.set_cons_succ, List.set_cons_zero]
      refine wpAnyH_take (i := 1) (v := ?_) rfl (by kernel_rfl) (by kernel_rfl) (by kernel_rfl) (fun _ _ _ h => h) (Or.inl ⟨by kernel_rfl, ?_⟩) (by assumption) ?_
      rotate_left
      · intro w' hSw; (try dsimp only at hSw); have c0 : w'.cell? ⟨X, 0, none⟩ = some (.func (.func gN) #[] #[]) := Bk.cell hSw 0; go_simp; with_reducible rfl
      try simp only [Act.put, List.getElem_toArray, List.getElem_cons_succ, List.getElem_cons_zero, List.setIfInBounds_toArray, List.set_cons_succ, List.set_cons_zero]
      refine wpAnyH_take (i := 2) (v := ?_) rfl (by kernel_rfl) (by kernel_rfl) (by kernel_rfl) (fun _ _ _ h => h) (Or.inl ⟨by kernel_rfl, ?_⟩) (by assumption) ?_
      rotate_left
      · intro w' hSw; (try dsimp only at hSw); go_simp; with_reducible rfl
      try simp only [Act.put, List.getElem_toArray, List.getElem_cons_succ, List.getElem_cons_zero, List.setIfInBounds_toArray, List.set_cons_succ, List.set_cons_zero]
      refine wpAnyH_take (i := 3) (v := ?_) rfl (by kernel_rfl) (by kernel_rfl) (by kernel_rfl) (fun _ _ _ h => h) (Or.inl ⟨by kernel_rfl, ?_⟩) (by assumption) ?_
      rotate_left
      · intro w' hSw; (try dsimp only at hSw); go_simp; with_reducible rfl
      try simp only [Act.put, List.getElem_toArray, List.getElem_cons_succ, List.getElem_cons_zero, List.setIfInBounds_toArray, List.set_cons_succ, List.set_cons_zero]
      refine wpAnyH_take (i := 4) (v := ?_) rfl (by kernel_rfl) (by kernel_rfl) (by kernel_rfl) (fun _ _ _ h => h) (Or.inl ⟨by kernel_rfl, ?_⟩) (by assumption) ?_
      rotate_left
      · intro w' hSw; (try dsimp only at hSw); go_simp; with_reducible rfl
      try simp only [Act.put, List.getElem_toArray, List.getElem_cons_succ, List.getElem_cons_zero, List.setIfInBounds_toArray, List.set_cons_succ, List.set_cons_zero]
      refine wpAnyH_take (i := 6) (v := ?_) rfl (by kernel_rfl) (by kernel_rfl) (by kernel_rfl) (fun _ _ _ h => h) (Or.inl ⟨by kernel_rfl, ?_⟩) (by assumption) ?_
      rotate_left
      · intro w' hSw; (try dsimp only at hSw); go_simp; with_reducible rfl
      try simp only [Act.put, List.getElem_toArray, List.getElem_cons_succ, List.getElem_cons_zero, List.setIfInBounds_toArray, List.set_cons_succ, List.set_cons_zero]
      refine wpAnyH_take (i := 7) (v := ?_) rfl (by kernel_rfl) (by kernel_rfl) (by kernel_rfl) (fun _ _ _ h => h) (Or.inl ⟨by kernel_rfl, ?_⟩) (by assumption) ?_
      rotate_left
      · intro w' hSw; (try dsimp only at hSw); have c0 : w'.cell? ⟨X, 1, none⟩ = some (.int .i64 lim) := Bk.cell hSw 1; go_simp; with_reducible rfl
      try simp only [Act.put, List.getElem_toArray, List.getElem_cons_succ, List.getElem_cons_zero, List.setIfInBounds_toArray, List.set_cons_succ, List.set_cons_zero]
      refine wpAnyH_ready (rs := [5]) (by kernel_rfl) (by simp) ?_
      refine AllReadyH.cons rfl (fun K hK => ?_) AllReadyH.nil
      go_simp
      (with_reducible refine (KD.call g (k * 15) _).mono ?_); rintro e w2 ⟨rfl, rfl⟩
      refine hK.out _ _ ((Sd.hs.1 0 _ _ _ rfl).1) (fun hHeld => ?_)
      clear hK K
      try simp only [Act.put, List.getElem_toArray, List.getElem_cons_succ, List.getElem_cons_zero, List.setIfInBounds_toArray, List.set_cons_succ, List.set_cons_zero]
      obtain ⟨_, e', _, _, hfz⟩ := Sd.ts.at HM.out
      cases e'
      have HF := Lib.hid (fires_is g (k * 15 + c) (gb x) (gv x) lim HV.out.1 HV.out.2 k0 k1 vd (Sd.ts.at_lt HM.out) (Lib.hid (Sd.ts.port_cell HM.out c (KD.get0 x))) (Lib.hid (Sd.ts.port_cell HM.out (c + 1) (KD.get1 x))) (Lib.hid (hfz _)) (Lib.hid (hfz _)))
      clear hfz
      refine wpAnyH_ready (rs := [8]) (by kernel_rfl) (by simp) ?_
      refine AllReadyH.cons rfl (fun K hK => ?_) AllReadyH.nil
      go_simp
      (with_reducible refine HF.out.mono ?_); rintro e w3 ⟨rfl, wm, bm, rfl⟩
      have Sm := Sd.below bm
      have Im := (hId.below bm).fr (Sm.ts.fr HM.out wm.heap.size (k * 15 + c) [.bool (firO (gb x) (gv x) lim).1.1, .int .i64 (firO (gb x) (gv x) lim).1.2]) (Nat.le_refl _)
      have S3 := Sm.put (y := f x) HM.out c [.bool (firO (gb x) (gv x) lim).1.1, .int .i64 (firO (gb x) (gv x) lim).1.2] KD.room (by rw [hfp.out x]; exact KD.set _ _ _)
      rw [mixL_set (f := fun _ p => f p) HX.out] at S3
      rw [← hfl.out x]
      generalize wm.setCells g (k * 15 + c) [.bool (firO (gb x) (gv x) lim).1.1, .int .i64 (firO (gb x) (gv x) lim).1.2] = w3 at S3 Im ⊢
      clear Sd hId Sm bm HF
      refine hK.out _ _ ((S3.hs.1 0 _ _ _ rfl).1) (fun hHeld => ?_)
      clear hK K hHeld
      try simp only [Act.put, List.getElem_toArray, List.getElem_cons_succ, List.getElem_cons_zero, List.setIfInBounds_toArray, List.set_cons_succ, List.set_cons_zero]
      refine wpAnyH_done (by kernel_rfl) ?_ _
      obtain ⟨b, hb⟩ : ∃ b, fl x = b := ⟨_, rfl⟩
      rw [hb]
      have HB := Lib.hid hb
      clear hb
      cases b with
      | false =>
        rw [← idx_no HX.out HB.out] at Im
        have hkn := HKN.out
        go_wp2
        go_roundw
        case rel => exact ⟨k + 1, hkn, by go_num, S3, Im⟩
        case measure => simp [intOf]; omega
      | true =>
        obtain ⟨hi, hz0, hz1, hz2⟩ := HIF.out
        have hown := Im
        have hlen : (idxF fl L k).length ≤ 100000 := by have := idx_len fl L k; have := HKN.out; omega
        go_upto_region 6 with fail
        go_wp2_with (at_builtin; (refine append_elem (s := 1) (enc := encI) w3 rfl (.tmp 21) (.tmp 23) _ rfl W.heap.size 3 i0 _ 8 Tryz.underlying72 hi hz0 hz1 hz2 rfl (by decide) encI_len encI_one _ (idxF fl L k) k rfl Im _ rfl rfl hlen (by decide) 0 w3 (Below.refl _ _) (Nat.zero_le _) S3.since ?_); intro g2 cap2 w4 hg2 hI4 _ gr; have S4 := S3.growI hown gr (box_int hli.out) HSW.out.size (Nat.le_refl _))
        rw [← idx_yes HX.out HB.out] at hI4
        have hkn := HKN.out
        exact ⟨⟨k + 1, hkn, by go_num, S4, hI4⟩, by simp [intOf]; omega⟩
    · have hkz : ¬ (k : Int) < (n : Int) := by omega
      have hke : k = n := by omega
      rw [hke, HI.out] at hI
      rw [hke, mixL_all (by rw [hL.out]; exact Nat.le_refl _)] at S
      go_wp2
      go_ret
      exact ⟨_, rfl, S.tail.ts, hI, S.2⟩

end Go.Proofs.YtnmnihlhcokjpaaGreatDoor

/- The second of ports, timer by timer; places that ran out: no program. -/
namespace Go.Proofs.YtnmnihlhcokjpaaGreatDoor
set_option maxRecDepth 100000
open Go.ChangeShapes Go.WideShapes Go.ChangeAt Go.RowKit
set_option linter.unusedVariables false
set_option linter.unusedSimpArgs false

def fD (t : Th) (p : Po) : Po := { p with yo := (firO p.yo p.yv t.n3).1.1, yv := (firO p.yo p.yv t.n3).1.2 }
def fA (t : Th) (p : Po) : Po := { p with ao := (firO p.ao p.av t.n1).1.1, av := (firO p.ao p.av t.n1).1.2 }
def fH (p : Po) : Po := { p with ho := (firO p.ho p.hv 256).1.1, hv := (firO p.ho p.hv 256).1.2 }
def ran1 (t : Th) (L : List Po) : List Po := allL (fun _ p => fD t p) L
def ran2 (t : Th) (L : List Po) : List Po := allL (fun _ p => fA t p) (ran1 t L)
def ran3 (t : Th) (L : List Po) : List Po := allL (fun _ p => fH p) (ran2 t L)
theorem ran3_is (t : Th) (L : List Po) : ran3 t L = L.map (tkP t) := by
  apply List.ext_getElem?
  intro j
  unfold ran3 ran2 ran1
  rw [allL_get, allL_get, allL_get, List.getElem?_map]
  cases L[j]? with
  | none => rfl
  | some p => rfl
theorem ran_len (t : Th) (L : List Po) : (ran1 t L).length = L.length ∧ (ran2 t L).length = L.length ∧ (ran3 t L).length = L.length := by
  unfold ran3 ran2 ran1
  simp [allL_len]
theorem ran_mem {f : Po → Po} {Q : Po → Prop} {L : List Po} (h : ∀ p ∈ L, Q (f p)) : ∀ p ∈ allL (fun _ p => f p) L, Q p := by
  intro y hy
  obtain ⟨j, hj, e⟩ := List.getElem_of_mem hy
  have h1 : (allL (fun _ p => f p) L)[j]? = some y := by rw [List.getElem?_eq_getElem hj, e]
  rw [allL_get] at h1
  cases hx : L[j]? with
  | none => rw [hx] at h1; cases h1
  | some x =>
    rw [hx] at h1
    obtain rfl := Option.some.inj h1
    exact h x (List.mem_of_getElem? hx)
theorem idx_map {f : Po → Bool} {g : Po → Po} (h : ∀ p, f (g p) = f p) (L : List Po) : ∀ k, idxF f (allL (fun _ p => g p) L) k = idxF f L k
  | 0 => rfl
  | k + 1 => by
    show idxF f (allL (fun _ p => g p) L) k ++ _ = idxF f L k ++ _
    rw [idx_map h L k, allL_get]
    cases L[k]? with
    | none => rfl
    | some p => simp only [Option.map_some, h]
theorem idx_age (t : Th) (L : List Po) (k : Nat) : idxF (agB t) (ran1 t L) k = idxF (agB t) L k := idx_map (g := fD t) (fun _ => rfl) L k
theorem idx_hold (t : Th) (L : List Po) (k : Nat) : idxF holB (ran2 t L) k = idxF holB L k := by
  unfold ran2
  rw [idx_map (g := fA t) (fun _ => rfl)]
  exact idx_map (g := fD t) (fun _ => rfl) L k
/-- One place behind the other. -/
def stK (f : Tk → Nat → Tk) (I : List Nat) (s : Tk) (k : Nat) : Tk := (I.take k).foldl f s
theorem stK_step {f : Tk → Nat → Tk} {I : List Nat} {s : Tk} {k i : Nat} (h : I[k]? = some i) : stK f I s (k + 1) = f (stK f I s k) i := by
  obtain ⟨hk, e⟩ := List.getElem?_eq_some_iff.1 h
  unfold stK
  rw [List.take_succ_eq_append_getElem hk, List.foldl_append, e]
  rfl
theorem stK_all (f : Tk → Nat → Tk) (fl : Po → Bool) (L : List Po) (s : Tk) : ∀ k, (idxF fl L k).foldl f s = foldS f (flagB fl L) k s
  | 0 => rfl
  | k + 1 => by
    show (idxF fl L k ++ _).foldl f s = _
    rw [List.foldl_append, stK_all f fl L s k]
    show List.foldl f (foldS f (flagB fl L) k s) _ = (if flagB fl L k = true then f (foldS f (flagB fl L) k s) k else foldS f (flagB fl L) k s)
    generalize foldS f (flagB fl L) k s = y
    unfold flagB
    cases L[k]? with
    | none => rfl
    | some p =>
      dsimp only
      by_cases hb : fl p = true
      · rw [if_pos hb, if_pos hb]
        rfl
      · rw [if_neg hb, if_neg hb]
        rfl
theorem stK_end {f : Tk → Nat → Tk} {fl : Po → Bool} {L : List Po} {s : Tk} {n k : Nat} (hk : k = (idxF fl L n).length) : stK f (idxF fl L n) s k = foldS f (flagB fl L) n s := by
  unfold stK
  rw [hk, List.take_length, stK_all]
theorem stK_keeps {f : Tk → Nat → Tk} {P : Tk → Prop} {I : List Nat} {s : Tk} (h0 : P s) (hf : ∀ s i, P s → P (f s i)) (k : Nat) : P (stK f I s k) := by
  unfold stK
  induction I.take k generalizing s with
  | nil => exact h0
  | cons i r ih => exact ih (hf s i h0)
/-- How much goes out. -/
def FewB (n m : Nat) (s : Tk) : Prop := s.2.length ≤ m ∧ s.1.2.length = n
theorem stK_few {f : Tk → Nat → Tk} {I : List Nat} {s : Tk} {n m : Nat} (h0 : FewB n m s) (hf : ∀ s i m, FewB n m s → FewB n (m + (n + 2)) (f s i)) : ∀ k, FewB n (m + k * (n + 2)) (stK f I s k) := by
  intro k
  unfold stK
  have key : ∀ (J : List Nat) (s : Tk) (m : Nat), FewB n m s → FewB n (m + J.length * (n + 2)) (J.foldl f s) := by
    intro J
    induction J with
    | nil => intro s m h; simpa using h
    | cons i r ih =>
      intro s m h
      have := ih (f s i) (m + (n + 2)) (hf s i m h)
      rw [List.length_cons, Nat.succ_mul]
      rw [show m + (r.length * (n + 2) + (n + 2)) = m + (n + 2) + r.length * (n + 2) by omega]
      exact this
  have h := key (I.take k) s m h0
  refine ⟨Nat.le_trans h.1 ?_, h.2⟩
  have : (I.take k).length ≤ k := by rw [List.length_take]; omega
  have := Nat.mul_le_mul_right (n + 2) this
  omega
theorem all_len (t : Th) (L : List Po) : ∀ k, (allR t L k).1.length = L.length ∧ (allR t L k).2.length ≤ k
  | 0 => ⟨rfl, Nat.le_refl _⟩
  | k + 1 => by
    have ih := all_len t L k
    show (allStep t (allR t L k) k).1.length = _ ∧ (allStep t (allR t L k) k).2.length ≤ _
    unfold allStep
    split
    · split
      · dsimp only
        rw [confR_len, List.length_append]
        have := confR_few t (allR t L k).1 k
        exact ⟨ih.1, by omega⟩
      · exact ⟨ih.1, by omega⟩
    · exact ⟨ih.1, by omega⟩
theorem few_delay {n m : Nat} {s : Tk} (h : FewB n m s) (i : Nat) : FewB n (m + (n + 2)) (delayS s i) := by
  obtain ⟨h1, h2⟩ := h
  unfold delayS FewB
  split
  · exact ⟨by omega, h2⟩
  · split
    · dsimp only
      have := det_few s.1.1 s.1.2.length
      rw [List.length_append, List.length_set]
      exact ⟨by omega, h2⟩
    · dsimp only
      rw [List.length_set]
      exact ⟨by omega, h2⟩
theorem few_age {n m : Nat} {s : Tk} (h : FewB n m s) (i : Nat) : FewB n (m + (n + 2)) (ageS s i) := by
  obtain ⟨h1, h2⟩ := h
  unfold ageS FewB
  split
  · exact ⟨by omega, h2⟩
  · rename_i p hp
    have h3 := settle_few s.1.1 (s.1.2.set i (becomeP s.1.1 p))
    have h4 : (settleR s.1.1 (s.1.2.set i (becomeP s.1.1 p))).1.2.length = n := settle_n (by rw [List.length_set]; exact h2)
    dsimp only
    split
    · unfold leadS
      dsimp only
      have h5 := all_len (leadT (settleR s.1.1 (s.1.2.set i (becomeP s.1.1 p))).1.1) (settleR s.1.1 (s.1.2.set i (becomeP s.1.1 p))).1.2 (settleR s.1.1 (s.1.2.set i (becomeP s.1.1 p))).1.2.length
      rw [List.length_append, List.length_append]
      exact ⟨by omega, by omega⟩
    · rw [List.length_append]
      exact ⟨by omega, h4⟩
theorem few_hold {n m : Nat} {s : Tk} (h : FewB n m s) (i : Nat) : FewB n (m + (n + 2)) (holdS s i) := by
  obtain ⟨h1, h2⟩ := h
  unfold holdS FewB
  split
  · exact ⟨by omega, h2⟩
  · split
    · dsimp only
      have := confR_few s.1.1 s.1.2 i
      rw [confR_len, List.length_append]
      exact ⟨by omega, h2⟩
    · exact ⟨by omega, h2⟩
theorem few_first {t : Th} {L : List Po} {n : Nat} (h : L.length = n) : FewB n (n + 1) (tick1 t L) := by
  have h0 : FewB n n (helloS (hellB t) (tkT t, L.map (tkP t))) := by
    unfold helloS FewB
    split
    · have := all_len (tkT t) (L.map (tkP t)) (L.map (tkP t)).length
      dsimp only
      rw [List.length_map] at *
      exact ⟨by omega, by omega⟩
    · dsimp only
      rw [List.length_map]
      exact ⟨Nat.zero_le _, h⟩
  unfold tick1 toldS tcnS
  obtain ⟨h1, h2⟩ := h0
  have h3 := tcn_few (helloS (hellB t) (tkT t, L.map (tkP t))).1.1 (helloS (hellB t) (tkT t, L.map (tkP t))).1.2.length
  split
  · split
    · refine ⟨?_, h2⟩
      dsimp only
      rw [List.length_append]
      omega
    · exact ⟨by dsimp only; omega, h2⟩
  · split
    · refine ⟨?_, h2⟩
      dsimp only
      rw [List.length_append]
      omega
    · exact ⟨by omega, h2⟩
/-- The second's states. -/
def ph1 (t : Th) (L : List Po) : Tk := foldS delayS (flagB (delB t) L) L.length (tick1 t L)
def ph2 (t : Th) (L : List Po) : Tk := foldS ageS (flagB (agB t) L) L.length (ph1 t L)
theorem fold_few1 {f : Tk → Nat → Tk} (fl : Po → Bool) (L : List Po) {s : Tk} {n m : Nat} (h0 : FewB n m s) (hL : L.length = n) (hf : ∀ s i m, FewB n m s → FewB n (m + (n + 2)) (f s i)) : FewB n (m + n * (n + 2)) (foldS f (flagB fl L) n s) := by
  rw [← stK_end (fl := fl) (L := L) (n := n) rfl]
  have h := stK_few (I := idxF fl L n) h0 hf (idxF fl L n).length
  refine ⟨Nat.le_trans h.1 ?_, h.2⟩
  have := Nat.mul_le_mul_right (n + 2) (idx_len fl L n)
  omega

end Go.Proofs.YtnmnihlhcokjpaaGreatDoor

/- tasks: contract. -/
namespace Go.Proofs.YtnmnihlhcokjpaaGreatDoor
set_option maxRecDepth 100000
open Go.ChangeShapes Go.WideShapes Go.ChangeAt Go.RowKit
set_option linter.unusedVariables false
set_option linter.unusedSimpArgs false

set_option maxHeartbeats 1000000 in
theorem tasks_is (n1 n2 n3 : Int) (w : World) : Calls Tryz.prog 18 #[.agg #[.int .i64 n1, .int .i64 n2, .int .i64 n3]] w fun e w' => ∃ gk, e = .returned (.slice (some ⟨gk, 0, none⟩) 3 3) ∧ Bk w' gk 71 (lK n1 n3) ∧ w.heap.size ≤ gk ∧ Below w.heap.size w w' := by
  obtain ⟨wb, hwb, S⟩ := hs_one w 26 [.int .i64 n1, .int .i64 n2, .int .i64 n3]
  go_enter Tryz.func18, Tryz.ntmps18
  go_upto_region 1 with fail
  clear hwb
  obtain ⟨X, hX⟩ : ∃ X, w.heap.size = X := ⟨_, rfl⟩
  rw [hX] at S ⊢
  have HX := Lib.hid hX
  clear hX
  refine wp_region_held_drew (S := (fun w' => Bk w' X 26 [.int .i64 n1, .int .i64 n2, .int .i64 n3])) (by kernel_rfl) ((S.1 0 _ _ _ rfl).1) (fun hHeld => ?_)
  have Sd := S.drew
  obtain ⟨vd, hvd⟩ : ∃ y, wb.drew = y := ⟨_, rfl⟩
  rw [hvd] at Sd hHeld ⊢
  clear hvd S
  refine wpAnyH_take (i := 0) (v := ?_) rfl (by kernel_rfl) (by kernel_rfl) (by kernel_rfl) (fun _ _ _ h => h) (Or.inl ⟨by kernel_rfl, ?_⟩) (by assumption) ?_
  rotate_left
  · intro w' hSw; (try dsimp only at hSw); go_simp; with_reducible rfl
  try simp only [Act.put, List.getElem_toArray, List.getElem_cons_succ, List.getElem_cons_zero, List.setIfInBounds_toArray, List.set_cons_succ, List.set_cons_zero]
  refine wpAnyH_take (i := 1) (v := ?_) rfl (by kernel_rfl) (by kernel_rfl) (by kernel_rfl) (fun _ _ _ h => h) (Or.inl ⟨by kernel_rfl, ?_⟩) (by assumption) ?_
  rotate_left
  · intro w' hSw; (try dsimp only at hSw); have c0 : w'.cell? ⟨X, 2, none⟩ = some (.int .i64 n3) := Bk.cell hSw 2; go_simp; with_reducible rfl
  try simp only [Act.put, List.getElem_toArray, List.getElem_cons_succ, List.getElem_cons_zero, List.setIfInBounds_toArray, List.set_cons_succ, List.set_cons_zero]
  refine wpAnyH_take (i := 2) (v := ?_) rfl (by kernel_rfl) (by kernel_rfl) (by kernel_rfl) (fun _ _ _ h => h) (Or.inl ⟨by kernel_rfl, ?_⟩) (by assumption) ?_
  rotate_left
  · intro w' hSw; (try dsimp only at hSw); go_simp; with_reducible rfl
  try simp only [Act.put, List.getElem_toArray, List.getElem_cons_succ, List.getElem_cons_zero, List.setIfInBounds_toArray, List.set_cons_succ, List.set_cons_zero]
  refine wpAnyH_take (i := 3) (v := ?_) rfl (by kernel_rfl) (by kernel_rfl) (by kernel_rfl) (fun _ _ _ h => h) (Or.inl ⟨by kernel_rfl, ?_⟩) (by assumption) ?_
  rotate_left
  · intro w' hSw; (try dsimp only at hSw); go_simp; with_reducible rfl
  try simp only [Act.put, List.getElem_toArray, List.getElem_cons_succ, List.getElem_cons_zero, List.setIfInBounds_toArray, List.set_cons_succ, List.set_cons_zero]
  refine wpAnyH_take (i := 4) (v := ?_) rfl (by kernel_rfl) (by kernel_rfl) (by kernel_rfl) (fun _ _ _ h => h) (Or.inl ⟨by kernel_rfl, ?_⟩) (by assumption) ?_
  rotate_left
  · intro w' hSw; (try dsimp only at hSw); have c0 : w'.cell? ⟨X, 0, none⟩ = some (.int .i64 n1) := Bk.cell hSw 0; go_simp; with_reducible rfl
  try simp only [Act.put, List.getElem_toArray, List.getElem_cons_succ, List.getElem_cons_zero, List.setIfInBounds_toArray, List.set_cons_succ, List.set_cons_zero]
  refine wpAnyH_take (i := 5) (v := ?_) rfl (by kernel_rfl) (by kernel_rfl) (by kernel_rfl) (fun _ _ _ h => h) (Or.inl ⟨by kernel_rfl, ?_⟩) (by assumption) ?_
  rotate_left
  · intro w' hSw; (try dsimp only at hSw); go_simp; with_reducible rfl
  try simp only [Act.put, List.getElem_toArray, List.getElem_cons_succ, List.getElem_cons_zero, List.setIfInBounds_toArray, List.set_cons_succ, List.set_cons_zero]
  refine wpAnyH_ready (rs := [6]) (by kernel_rfl) (by simp) ?_
  refine AllReadyH.cons rfl (fun K hK => ?_) AllReadyH.nil
  go_simp
  (with_reducible refine (limit_is _).mono ?_); rintro e w2 ⟨rfl, rfl⟩
  refine hK.out _ _ ((Sd.1 0 _ _ _ rfl).1) (fun hHeld => ?_)
  clear hK K
  try simp only [Act.put, List.getElem_toArray, List.getElem_cons_succ, List.getElem_cons_zero, List.setIfInBounds_toArray, List.set_cons_succ, List.set_cons_zero]
  refine wpAnyH_take (i := 7) (v := ?_) rfl (by kernel_rfl) (by kernel_rfl) (by kernel_rfl) (fun _ _ _ h => h) (Or.inl ⟨by kernel_rfl, ?_⟩) (by assumption) ?_
  rotate_left
  · intro w' hSw; (try dsimp only at hSw); go_simp; with_reducible rfl
  try simp only [Act.put, List.getElem_toArray, List.getElem_cons_succ, List.getElem_cons_zero, List.setIfInBounds_toArray, List.set_cons_succ, List.set_cons_zero]
  refine wpAnyH_ready (rs := [8]) (by kernel_rfl) (by simp) ?_
  refine AllReadyH.cons rfl (fun K hK => ?_) AllReadyH.nil
  go_simp
  have S2 := Sd.al rfl 71 (lK n1 n3)
  obtain ⟨gk, hgk⟩ : ∃ y, vd.heap.size = y := ⟨_, rfl⟩
  rw [hgk] at S2 ⊢
  refine hK.out _ _ ((S2.1 1 _ _ _ rfl).1) (fun hHeld => ?_)
  clear hK K
  try simp only [Act.put, List.getElem_toArray, List.getElem_cons_succ, List.getElem_cons_zero, List.setIfInBounds_toArray, List.set_cons_succ, List.set_cons_zero]
  refine wpAnyH_take (i := 9) (v := ?_) rfl (by kernel_rfl) (by kernel_rfl) (by kernel_rfl) (fun _ _ _ h => h) (Or.inl ⟨by kernel_rfl, ?_⟩) (by assumption) ?_
  rotate_left
  · intro w' hSw; (try dsimp only at hSw); go_simp; with_reducible rfl
  try simp only [Act.put, List.getElem_toArray, List.getElem_cons_succ, List.getElem_cons_zero, List.setIfInBounds_toArray, List.set_cons_succ, List.set_cons_zero]
  refine wpAnyH_done (by kernel_rfl) ?_ _
  go_wp2
  go_ret
  exact ⟨gk, rfl, (S2.1 0 _ _ _ rfl).1, (S2.1 0 _ _ _ rfl).2, HX.out ▸ S2.old⟩

end Go.Proofs.YtnmnihlhcokjpaaGreatDoor

/- Tcn, Acked, Detect: contracts. -/
namespace Go.Proofs.YtnmnihlhcokjpaaGreatDoor
set_option maxRecDepth 100000
open Go.ChangeShapes Go.WideShapes Go.ChangeAt Go.RowKit
set_option linter.unusedVariables false
set_option linter.unusedSimpArgs false

set_option maxHeartbeats 1000000 in
theorem stcn_is (t : Th) (A : Option Addr) (n cap : Nat) (ht : Hid (ThB t)) (w : World) (hd : Hd w) :
    Calls Tryz.prog 56 #[.agg (lT t A n cap).toArray] w (OutsEnd w (tcnR t n)) := by
  obtain ⟨R, hR⟩ : ∃ R, tcnR t n = R := ⟨_, rfl⟩
  rw [hR]
  have HR := Lib.hid hR
  clear hR
  have HD := Lib.hid hd
  clear hd
  have HOT : ∀ W, Hd W → Hid (Calls Tryz.prog 86 #[.agg (lT t A n cap).toArray, .int .i64 t.rp, .agg #[.bool true, .bool false, .bool false, .int .u64 0, .int .u32 0, .int .u64 0, .int .u16 0, .int .u16 0, .int .u16 0, .int .u16 0, .int .u16 0]] W (OutEnd W ⟨t.rp, t.ow % 281474976710656, tcnQ⟩)) := fun W h => Lib.hid (goes_is t A n cap t.rp tcnQ (by unfold BqIn BpIn tcnQ; decide) ht.out.1 W h)
  obtain ⟨q, hq⟩ : ∃ q, (decide (0 ≤ t.rp) && decide (t.rp < (n : Int))) = q := ⟨_, rfl⟩
  have HT := fun W => Lib.hid (there_is t A n cap t.rp q (Lib.hid hq) W)
  have HQ := Lib.hid hq
  clear hq
  obtain ⟨wb, hwb, S⟩ := hs_one w 31 (lT t A n cap)
  go_enter Tryz.func56, Tryz.ntmps56
  go_upto_region 1 with fail
  clear hwb
  obtain ⟨X, hX⟩ : ∃ X, w.heap.size = X := ⟨_, rfl⟩
  rw [hX] at S ⊢
  clear hX
  have hx := S.bk 0 rfl
  have c3 := S.cell 0 3 rfl rfl
  go_wp2_with (with_reducible refine wpList_load_row rfl 31 (.tmp 1) rfl X (by kernel_rfl) _ _ (0, 0) _ hx Tryz.underlying31 rfl (by kernel_rfl) ?_)
  (with_reducible refine (HT _).out.mono ?_); rintro e w1 ⟨rfl, b1⟩
  have S1 := S.below b1
  clear S hx c3 HT b1
  cases q with
  | false =>
    obtain rfl : [] = R := by
      rw [← HR.out, tcnR, if_neg]
      have h := HQ.out
      simp only [Bool.and_eq_false_iff, decide_eq_false_iff_not] at h
      omega
    go_wp2
    go_ret
    exact ⟨_, rfl, OutsR.nil _ _, S1.old⟩
  | true =>
    obtain rfl : [⟨t.rp, t.ow % 281474976710656, tcnQ⟩] = R := by
      rw [← HR.out, tcnR, if_pos]
      have h := HQ.out
      simp only [Bool.and_eq_true, decide_eq_true_eq] at h
      exact h
    have HO := HOT w1 (HD.out.below S1.old (Nat.le_refl _))
    have hx := S1.bk 0 rfl
    have c3 := S1.cell 0 3 rfl rfl
    clear HOT HD
    go_wp2_with (with_reducible refine wpList_load_row rfl 31 (.tmp 1) rfl X (by kernel_rfl) _ _ (0, 0) _ hx Tryz.underlying31 rfl (by kernel_rfl) ?_)
    (with_reducible refine HO.out.mono ?_); rintro e w2 ⟨g, c, rfl, hoc, b2⟩
    have hoc2 : OcAt w2 w.heap.size ⟨⟨t.rp, t.ow % 281474976710656, tcnQ⟩, g, c⟩ := ⟨Nat.le_trans S1.old.size hoc.1, hoc.2⟩
    have S2 := S1.below b2
    have hO := outs_one (w := w) S2.old.size hoc2
    have B3 := S2.old.trans ((new_below w2 (.cells (lO ⟨⟨t.rp, t.ow % 281474976710656, tcnQ⟩, g, c⟩).toArray 83)).mono S2.old.size)
    obtain ⟨oc, hoc0⟩ : ∃ q : Oc, (⟨⟨t.rp, t.ow % 281474976710656, tcnQ⟩, g, c⟩ : Oc) = q := ⟨_, rfl⟩
    rw [hoc0] at hO B3 ⊢
    have hlen := lO_len oc
    have hfold : List.foldl (fun (cs : Array Value) (x : Value × Nat) => cs.setIfInBounds x.snd x.fst) #[.int .i64 0, .int .u64 0, .int .u64 0, .int .u16 0, .slice none 0 0] (lO oc).zipIdx = (lO oc).toArray := rfl
    have HO := Lib.hid hO
    have HB3 := Lib.hid B3
    have HQ := Lib.hid hoc0
    clear hO B3 hoc hoc2 S1 S2 b2 hx c3 hoc0
    go_wp2
    go_ret
    refine ⟨_, rfl, ?_, HB3.out⟩
    have := HO.out
    rw [← HQ.out] at this ⊢
    exact this

set_option maxHeartbeats 1000000 in
theorem acked_is (t : Th) (A : Option Addr) (n cap : Nat) (L : List Po) (hL : Hid (L.length = n)) (hf : n ≤ 200) (hc : Hid (A = none → cap = 0)) (w : World) (hp : Hid (PoAt w A w.heap.size L)) :
    Calls Tryz.prog 107 #[.agg (lT t A n cap).toArray] w (TOut w { t with de := false, xo := false, xv := 0 } n L) := by
  obtain ⟨wb, hwb, S⟩ := hs_two w 31 31 (lT t A n cap) [.int .u64 0, .int .u64 0, .int .u32 0, .int .i64 0, .int .i64 0, .int .i64 0, .int .i64 0, .int .i64 0, .int .i64 0, .int .i64 0, .bool false, .bool false, .bool false, .int .i64 0, .bool false, .int .i64 0, .bool false, .int .i64 0, .slice none 0 0]
  go_enter Tryz.func107, Tryz.ntmps107
  go_upto_region 1 with fail
  clear hwb
  obtain ⟨X, hX⟩ : ∃ X, w.heap.size = X := ⟨_, rfl⟩
  rw [hX] at S
  obtain ⟨Y, hY⟩ : ∃ Y, X + 1 = Y := ⟨_, rfl⟩
  rw [hY] at S
  rw [hX]
  rw [hY]
  clear hX hY
  have hp1 := Lib.hid ((hp.out.below S.old (Nat.le_refl _)).wide S.old.size)
  have HC := Lib.hid (tcopy_is t A n cap L hL hf hc wb hp1)
  have hx := S.bk 1 rfl
  go_wp2_with (with_reducible refine wpList_load_row rfl 31 (.tmp 1) rfl X (by kernel_rfl) _ _ (0, 0) _ hx Tryz.underlying31 rfl (by kernel_rfl) ?_)
  (with_reducible refine HC.out.mono ?_); rintro e w1 ⟨D, cap', rfl, hz, k1⟩
  have S1 := TS.take S k1
  have HZ := Lib.hid hz
  clear S hx HC hp1 k1 hz
  have hx := S1.hs.bk 1 rfl
  go_upto_region 2 with (refine wpList_store_row rfl 31 _ _ rfl X _ rfl rfl _ _ hx (by kernel_rfl) (by kernel_rfl) (by kernel_rfl) ?_)
  have S2 : TS w [(Y, 31, [.int .u64 0, .int .u64 0, .int .u32 0, .int .i64 0, .int .i64 0, .int .i64 0, .int .i64 0, .int .i64 0, .int .i64 0, .int .i64 0, .bool false, .bool false, .bool false, .int .i64 0, .bool false, .int .i64 0, .bool false, .int .i64 0, .slice none 0 0]), (X, 31, lT t D n cap')] D L _ := S1.row 1 rfl (lT t D n cap')
  generalize w1.setRow X (lT t D n cap').toArray = w2 at S2 ⊢
  clear S1 hx
  have ca := S2.hs.cell 1 10 rfl rfl
  have fa := S2.hs.thaw 1 10 rfl
  go_upto_region 3 with fail
  have S3 : TS w [(Y, 31, [.int .u64 0, .int .u64 0, .int .u32 0, .int .i64 0, .int .i64 0, .int .i64 0, .int .i64 0, .int .i64 0, .int .i64 0, .int .i64 0, .bool false, .bool false, .bool false, .int .i64 0, .bool false, .int .i64 0, .bool false, .int .i64 0, .slice none 0 0]), (X, 31, lT { t with de := false } D n cap')] D L (w2.setCell ⟨X, 10, none⟩ (.bool false)) := S2.set 1 rfl 10 (.bool false)
  generalize w2.setCell ⟨X, 10, none⟩ (.bool false) = w3 at S3 ⊢
  clear S2 ca fa
  go_wp2_with fail
  (with_reducible refine (stop_is _).mono ?_); rintro e w4 ⟨rfl, b4⟩
  have S4 := S3.below b4
  clear S3 b4
  have ca := S4.hs.cell 1 14 rfl rfl
  have cb := S4.hs.cell 1 15 rfl rfl
  have fa := S4.hs.thaw 1 14 rfl
  have fb := S4.hs.thaw 1 15 rfl
  go_upto_region 4 with fail
  have S5 : TS w [(Y, 31, [.int .u64 0, .int .u64 0, .int .u32 0, .int .i64 0, .int .i64 0, .int .i64 0, .int .i64 0, .int .i64 0, .int .i64 0, .int .i64 0, .bool false, .bool false, .bool false, .int .i64 0, .bool false, .int .i64 0, .bool false, .int .i64 0, .slice none 0 0]), (X, 31, lT { t with de := false, xo := false, xv := 0 } D n cap')] D L ((w4.setCell ⟨X, 14, none⟩ (.bool false)).setCell ⟨X, 15, none⟩ (.int .i64 0)) := (S4.set 1 rfl 14 (.bool false)).set 1 rfl 15 (.int .i64 0)
  generalize (w4.setCell ⟨X, 14, none⟩ (.bool false)).setCell ⟨X, 15, none⟩ (.int .i64 0) = w5 at S5 ⊢
  clear S4 ca cb fa fb
  have hx := S5.hs.bk 1 rfl
  have hy := S5.hs.bk 0 rfl
  go_wp2_with (first | (with_reducible refine wpList_load_row rfl 31 (.tmp 1) rfl X (by kernel_rfl) _ _ (0, 0) _ hx Tryz.underlying31 rfl (by kernel_rfl) ?_) | (refine wpList_store_row rfl 31 _ _ rfl Y _ rfl rfl _ _ hy (by kernel_rfl) (by kernel_rfl) (by kernel_rfl) ?_))
  exact bodyPost_ret (v := .agg (lT { t with de := false, xo := false, xv := 0 } D n cap').toArray) (results_cell_row rfl _ _ Y _ _ _ _ rfl (setRow_heap _ _ _ _ _ _ hy) Tryz.underlying31 rfl (by kernel_rfl)) rfl ⟨D, cap', rfl, HZ.out, (S5.row 0 rfl (lT { t with de := false, xo := false, xv := 0 } D n cap')).nobox⟩

set_option maxHeartbeats 2000000 in
theorem sdetect_is (t : Th) (A : Option Addr) (n cap : Nat) (L : List Po) (hL : Hid (L.length = n)) (hf : n ≤ 200) (ht : Hid (ThB t)) (hc : Hid (A = none → cap = 0)) (w : World) (hd : Hd w) (hp : Hid (PoAt w A w.heap.size L)) :
    Calls Tryz.prog 32 #[.agg (lT t A n cap).toArray] w (ConfEnd w (detT t) n (L, detO t n)) := by
  unfold ConfEnd
  obtain ⟨T, hT⟩ : ∃ T, detT t = T := ⟨_, rfl⟩
  obtain ⟨R, hR⟩ : ∃ R, detO t n = R := ⟨_, rfl⟩
  rw [hT, hR]
  have HT := Lib.hid hT
  have HR := Lib.hid hR
  clear hT hR
  have HD := Lib.hid hd
  clear hd
  obtain ⟨wb, hwb, S⟩ := hs_two w 31 31 (lT t A n cap) [.int .u64 0, .int .u64 0, .int .u32 0, .int .i64 0, .int .i64 0, .int .i64 0, .int .i64 0, .int .i64 0, .int .i64 0, .int .i64 0, .bool false, .bool false, .bool false, .int .i64 0, .bool false, .int .i64 0, .bool false, .int .i64 0, .slice none 0 0]
  go_enter Tryz.func32, Tryz.ntmps32
  go_upto_region 1 with fail
  clear hwb
  obtain ⟨X, hX⟩ : ∃ X, w.heap.size = X := ⟨_, rfl⟩
  rw [hX] at S
  obtain ⟨Y, hY⟩ : ∃ Y, X + 1 = Y := ⟨_, rfl⟩
  rw [hY] at S
  rw [hX]
  rw [hY]
  clear hX hY
  have hp1 := Lib.hid ((hp.out.below S.old (Nat.le_refl _)).wide S.old.size)
  have HC := Lib.hid (tcopy_is t A n cap L hL hf hc wb hp1)
  have hx := S.bk 1 rfl
  go_wp2_with (with_reducible refine wpList_load_row rfl 31 (.tmp 1) rfl X (by kernel_rfl) _ _ (0, 0) _ hx Tryz.underlying31 rfl (by kernel_rfl) ?_)
  (with_reducible refine HC.out.mono ?_); rintro e w1 ⟨D, cap', rfl, hz, k1⟩
  have S1 := TS.take S k1
  have HZ := Lib.hid hz
  clear S hx HC hp1 k1 hz
  have hx := S1.hs.bk 1 rfl
  go_upto_region 2 with (refine wpList_store_row rfl 31 _ _ rfl X _ rfl rfl _ _ hx (by kernel_rfl) (by kernel_rfl) (by kernel_rfl) ?_)
  have S2 : TS w [(Y, 31, [.int .u64 0, .int .u64 0, .int .u32 0, .int .i64 0, .int .i64 0, .int .i64 0, .int .i64 0, .int .i64 0, .int .i64 0, .int .i64 0, .bool false, .bool false, .bool false, .int .i64 0, .bool false, .int .i64 0, .bool false, .int .i64 0, .slice none 0 0]), (X, 31, lT t D n cap')] D L _ := S1.row 1 rfl (lT t D n cap')
  generalize w1.setRow X (lT t D n cap').toArray = w2 at S2 ⊢
  clear S1 hx
  obtain ⟨q, hq⟩ : ∃ q, decide (t.ro = t.ow) = q := ⟨_, rfl⟩
  have HI := fun W => Lib.hid (isroot_is t D n cap' q (Lib.hid hq) W)
  have HQ := Lib.hid hq
  clear hq
  have hx := S2.hs.bk 1 rfl
  go_wp2_with (with_reducible refine wpList_load_row rfl 31 (.tmp 1) rfl X (by kernel_rfl) _ _ (0, 0) _ hx Tryz.underlying31 rfl (by kernel_rfl) ?_)
  (with_reducible refine (HI _).out.mono ?_); rintro e w3 ⟨rfl, b3⟩
  have S3 := S2.below b3
  clear S2 hx HI b3
  cases q with
  | true =>
    have hro := of_decide_eq_true HQ.out
    obtain rfl : ({ t with de := true, ch := true, zo := true, zv := 0 } : Th) = T := by rw [← HT.out, detT, if_pos hro]
    obtain rfl : [] = R := by rw [← HR.out, detO, if_pos hro]
    clear hro
    have ca := S3.hs.cell 1 10 rfl rfl
    have cb := S3.hs.cell 1 11 rfl rfl
    have fa := S3.hs.thaw 1 10 rfl
    have fb := S3.hs.thaw 1 11 rfl
    go_upto_region 4 with fail
    have S4 : TS w [(Y, 31, [.int .u64 0, .int .u64 0, .int .u32 0, .int .i64 0, .int .i64 0, .int .i64 0, .int .i64 0, .int .i64 0, .int .i64 0, .int .i64 0, .bool false, .bool false, .bool false, .int .i64 0, .bool false, .int .i64 0, .bool false, .int .i64 0, .slice none 0 0]), (X, 31, lT { t with de := true, ch := true } D n cap')] D L ((w3.setCell ⟨X, 10, none⟩ (.bool true)).setCell ⟨X, 11, none⟩ (.bool true)) := (S3.set 1 rfl 10 (.bool true)).set 1 rfl 11 (.bool true)
    generalize (w3.setCell ⟨X, 10, none⟩ (.bool true)).setCell ⟨X, 11, none⟩ (.bool true) = w4 at S4 ⊢
    clear S3 ca cb fa fb
    go_wp2_with fail
    (with_reducible refine (start0 _).mono ?_); rintro e w5 ⟨rfl, b5⟩
    have S5 := S4.below b5
    clear S4 b5
    have ca := S5.hs.cell 1 16 rfl rfl
    have cb := S5.hs.cell 1 17 rfl rfl
    have fa := S5.hs.thaw 1 16 rfl
    have fb := S5.hs.thaw 1 17 rfl
    go_upto_region 9 with fail
    have S6 : TS w [(Y, 31, [.int .u64 0, .int .u64 0, .int .u32 0, .int .i64 0, .int .i64 0, .int .i64 0, .int .i64 0, .int .i64 0, .int .i64 0, .int .i64 0, .bool false, .bool false, .bool false, .int .i64 0, .bool false, .int .i64 0, .bool false, .int .i64 0, .slice none 0 0]), (X, 31, lT { t with de := true, ch := true, zo := true, zv := 0 } D n cap')] D L ((w5.setCell ⟨X, 16, none⟩ (.bool true)).setCell ⟨X, 17, none⟩ (.int .i64 0)) := (S5.set 1 rfl 16 (.bool true)).set 1 rfl 17 (.int .i64 0)
    generalize (w5.setCell ⟨X, 16, none⟩ (.bool true)).setCell ⟨X, 17, none⟩ (.int .i64 0) = w6 at S6 ⊢
    clear S5 ca cb fa fb
    have hx := S6.hs.bk 1 rfl
    have hy := S6.hs.bk 0 rfl
    go_wp2_with (first | (with_reducible refine wpList_load_row rfl 31 (.tmp 1) rfl X (by kernel_rfl) _ _ (0, 0) _ hx Tryz.underlying31 rfl (by kernel_rfl) ?_) | (refine wpList_store_row rfl 31 _ _ rfl Y _ rfl rfl _ _ hy (by kernel_rfl) (by kernel_rfl) (by kernel_rfl) ?_))
    exact bodyPost_ret (v := .tuple #[.agg (lT { t with de := true, ch := true, zo := true, zv := 0 } D n cap').toArray, .slice none 0 0]) (results_two rfl _ _ Y _ _ _ _ rfl _ rfl (setRow_heap _ _ _ _ _ _ hy) Tryz.underlying31 rfl (by kernel_rfl)) rfl ⟨D, cap', _, rfl, HZ.out, (S6.row 0 rfl (lT { t with de := true, ch := true, zo := true, zv := 0 } D n cap')).nobox, OutsR.nil _ _⟩
  | false =>
    have hro : ¬ t.ro = t.ow := of_decide_eq_false HQ.out
    obtain ⟨d, hd⟩ : ∃ d, t.de = d := ⟨_, rfl⟩
    have c10 := S3.hs.cell 1 10 rfl rfl
    cases d with
    | true =>
      obtain rfl : t = T := by rw [← HT.out, detT, if_neg hro, if_pos hd]
      obtain rfl : [] = R := by rw [← HR.out, detO, if_neg hro, if_pos hd]
      rw [hd] at c10
      clear hro hd
      have hx := S3.hs.bk 1 rfl
      have hy := S3.hs.bk 0 rfl
      go_wp2_with (first | (with_reducible refine wpList_load_row rfl 31 (.tmp 1) rfl X (by kernel_rfl) _ _ (0, 0) _ hx Tryz.underlying31 rfl (by kernel_rfl) ?_) | (refine wpList_store_row rfl 31 _ _ rfl Y _ rfl rfl _ _ hy (by kernel_rfl) (by kernel_rfl) (by kernel_rfl) ?_))
      exact bodyPost_ret (v := .tuple #[.agg (lT t D n cap').toArray, .slice none 0 0]) (results_two rfl _ _ Y _ _ _ _ rfl _ rfl (setRow_heap _ _ _ _ _ _ hy) Tryz.underlying31 rfl (by kernel_rfl)) rfl ⟨D, cap', _, rfl, HZ.out, (S3.row 0 rfl (lT t D n cap')).nobox, OutsR.nil _ _⟩
    | false =>
      obtain rfl : ({ t with de := true, xo := true, xv := 0 } : Th) = T := by rw [← HT.out, detT, if_neg hro, if_neg (by rw [hd]; decide)]
      obtain rfl : tcnR t n = R := by rw [← HR.out, detO, if_neg hro, if_neg (by rw [hd]; decide)]
      rw [hd] at c10
      clear hro hd
      go_upto_region 6 with fail
      clear c10
      have ca := S3.hs.cell 1 10 rfl rfl
      have fa := S3.hs.thaw 1 10 rfl
      go_upto_region 7 with fail
      have S4 : TS w [(Y, 31, [.int .u64 0, .int .u64 0, .int .u32 0, .int .i64 0, .int .i64 0, .int .i64 0, .int .i64 0, .int .i64 0, .int .i64 0, .int .i64 0, .bool false, .bool false, .bool false, .int .i64 0, .bool false, .int .i64 0, .bool false, .int .i64 0, .slice none 0 0]), (X, 31, lT { t with de := true } D n cap')] D L (w3.setCell ⟨X, 10, none⟩ (.bool true)) := S3.set 1 rfl 10 (.bool true)
      generalize w3.setCell ⟨X, 10, none⟩ (.bool true) = w4 at S4 ⊢
      clear S3 ca fa
      go_wp2_with fail
      (with_reducible refine (start0 _).mono ?_); rintro e w5 ⟨rfl, b5⟩
      have S5 := S4.below b5
      clear S4 b5
      have ca := S5.hs.cell 1 14 rfl rfl
      have cb := S5.hs.cell 1 15 rfl rfl
      have fa := S5.hs.thaw 1 14 rfl
      have fb := S5.hs.thaw 1 15 rfl
      go_upto_region 8 with fail
      have S6 : TS w [(Y, 31, [.int .u64 0, .int .u64 0, .int .u32 0, .int .i64 0, .int .i64 0, .int .i64 0, .int .i64 0, .int .i64 0, .int .i64 0, .int .i64 0, .bool false, .bool false, .bool false, .int .i64 0, .bool false, .int .i64 0, .bool false, .int .i64 0, .slice none 0 0]), (X, 31, lT { t with de := true, xo := true, xv := 0 } D n cap')] D L ((w5.setCell ⟨X, 14, none⟩ (.bool true)).setCell ⟨X, 15, none⟩ (.int .i64 0)) := (S5.set 1 rfl 14 (.bool true)).set 1 rfl 15 (.int .i64 0)
      generalize (w5.setCell ⟨X, 14, none⟩ (.bool true)).setCell ⟨X, 15, none⟩ (.int .i64 0) = w6 at S6 ⊢
      clear S5 ca cb fa fb
      have HTC := fun W h => Lib.hid (stcn_is { t with de := true, xo := true, xv := 0 } D n cap' (Lib.hid (show ThB { t with de := true, xo := true, xv := 0 } from ht.out)) W h)
      refine wp_region_held_drew (S := (fun w' => Bk w' X 31 (lT { t with de := true, xo := true, xv := 0 } D n cap'))) (by kernel_rfl) ((S6.hs.1 1 _ _ _ rfl).1) (fun hHeld => ?_)
      have S7 := S6.below (wy := World.drew _) ((Below.refl _ _).drew)
      obtain ⟨v7, hv7⟩ : ∃ v, w6.drew = v := ⟨_, rfl⟩
      rw [hv7] at S7 hHeld ⊢
      clear hv7 S6
      refine wpAnyH_take (i := 0) (v := _) rfl (by kernel_rfl) (by kernel_rfl) (by kernel_rfl) (fun _ _ _ h => h) (Or.inl ⟨by kernel_rfl, fun w' hSw => exec_load_row 31 _ rfl X (by kernel_rfl) _ _ (0, 0) _ (hSw) Tryz.underlying31 rfl (by kernel_rfl)⟩) (by assumption) ?_
      try simp only [Act.put, List.getElem_toArray, List.getElem_cons_succ, List.getElem_cons_zero, List.setIfInBounds_toArray, List.set_cons_succ, List.set_cons_zero]
      refine wpAnyH_take (i := 1) (v := _) rfl (by kernel_rfl) (by kernel_rfl) (by kernel_rfl) (fun _ _ _ h => h) (Or.inl ⟨by kernel_rfl, fun w' hSw => exec_load_row 31 _ rfl X (by kernel_rfl) _ _ (0, 0) _ (hSw) Tryz.underlying31 rfl (by kernel_rfl)⟩) (by assumption) ?_
      try simp only [Act.put, List.getElem_toArray, List.getElem_cons_succ, List.getElem_cons_zero, List.setIfInBounds_toArray, List.set_cons_succ, List.set_cons_zero]
      refine wpAnyH_ready (rs := [2]) (by kernel_rfl) (by simp) ?_
      refine AllReadyH.cons rfl (fun K hK => ?_) AllReadyH.nil
      go_simp
      (with_reducible refine (HTC _ (HD.out.below S7.old (Nat.le_refl _))).out.mono ?_); rintro e w8 ⟨v, rfl, hO, b8⟩
      have S8 := S7.below b8
      refine hK.out _ _ ((S8.hs.1 1 _ _ _ rfl).1) (fun hHeld => ?_)
      clear hK K
      try simp only [Act.put, List.getElem_toArray, List.getElem_cons_succ, List.getElem_cons_zero, List.setIfInBounds_toArray, List.set_cons_succ, List.set_cons_zero]
      have hy := S8.hs.bk 0 rfl
      refine wpAnyH_ready (rs := [3]) (by kernel_rfl) (by simp) ?_
      refine AllReadyH.cons rfl (fun K hK => ?_) AllReadyH.nil
      refine exec_if_store (by kernel_rfl) 31 (.tmp 2) (.tmp 20) rfl Y (lT { t with de := true, xo := true, xv := 0 } D n cap').toArray (by kernel_rfl) (by kernel_rfl) _ _ hy (by kernel_rfl) (by kernel_rfl) (by kernel_rfl) ?_
      have S9 := S8.row 0 rfl (lT { t with de := true, xo := true, xv := 0 } D n cap')
      refine hK.out _ _ ((S9.hs.1 1 _ _ _ rfl).1) (fun hHeld => ?_)
      clear hK K
      try simp only [Act.put, List.getElem_toArray, List.getElem_cons_succ, List.getElem_cons_zero, List.setIfInBounds_toArray, List.set_cons_succ, List.set_cons_zero]
      refine wpAnyH_take (i := 4) (v := ?_) rfl (by kernel_rfl) (by kernel_rfl) (by kernel_rfl) (fun _ _ _ h => h) (Or.inl ⟨by kernel_rfl, ?_⟩) (by assumption) ?_
      rotate_left
      · intro w' hSw; (try dsimp only at hSw); go_simp; with_reducible rfl
      try simp only [Act.put, List.getElem_toArray, List.getElem_cons_succ, List.getElem_cons_zero, List.setIfInBounds_toArray, List.set_cons_succ, List.set_cons_zero]
      refine wpAnyH_done (by kernel_rfl) ?_ _
      have hYw : Y < v7.heap.size := S7.hs.lt 0 rfl
      have hOF := (hO.heap (w' := w8.setRow Y (lT { t with de := true, xo := true, xv := 0 } D n cap').toArray) (fun k hk => setRow_other w8 Y k _ (by omega))).mono S7.old.size
      have hyF := setRow_heap w8 Y _ (lT { t with de := true, xo := true, xv := 0 } D n cap').toArray _ _ hy
      go_wp2
      exact bodyPost_ret (v := .tuple #[.agg (lT { t with de := true, xo := true, xv := 0 } D n cap').toArray, v]) (results_two rfl _ _ Y _ _ _ _ rfl _ rfl hyF Tryz.underlying31 rfl (by kernel_rfl)) rfl ⟨D, cap', v, rfl, HZ.out, S9.nobox, hOF⟩

end Go.Proofs.YtnmnihlhcokjpaaGreatDoor
