/- All of a table, gone through by a loop: the iterator's contract where a loop calls it, for every body that leaves alone what was made since the loop began. -/
import Derived.Test.YtokepfgknffdfaaSlotsAllE
import Derived.RangeFuncNested
import Derived.RangeFuncBound
import Derived.RangeFuncCalls
import Derived.RangeFuncLeaves
import Derived.Shelf.Abstract
import Derived.Shelf.RegionOpen
import Derived.WalkKit
import Derived.OwnWalkIn
import Derived.TacticsInMore
import Derived.LoopNIn
import Derived.LoopIn
namespace Go.Proofs.Ytokepfgknffdfaa
open Go.ChangeShapes Go.WideShapes Go.ChangeAt Go.RowKit Go.Shelf
set_option linter.unusedVariables false
attribute [local go_sem] Oper.semAt_some

/-- Cells from block B on lie as they lay. -/
def KeepC (B : Nat) (W W' : World) : Prop := W.heap.size ≤ W'.heap.size ∧ ∀ (b : Nat) (o : Obj), B ≤ b → W.heap[b]? = some o → o.isCells = true → W'.heap[b]? = some o

theorem keepC_t {B : Nat} {X Y Z : World} (h : KeepC B X Y) (k : KeepC B Y Z) : KeepC B X Z :=
  ⟨Nat.le_trans h.1 k.1, fun b o hB ho hc => k.2 b o hB (h.2 b o hB ho hc) hc⟩

theorem keepC_b {B n : Nat} (W : World) (l : Nat) (o o' : Obj) (_ : n ≤ l) (h : W.heap[l]? = some o) (ho : o.isCells = false) (_ : o.isWalk = false) : KeepC B W (W.putObj l o') := by
  refine ⟨(grownBy_putObj' W l o').size, fun b o2 _ hb hc => ?_⟩
  have hne : b ≠ l := fun e => by subst e; rw [h] at hb; cases hb; rw [ho] at hc; cases hc
  exact (World.putObj_heap_other hne).trans hb

theorem keepC_of {B g : Nat} {W W' : World} (h : W.grownBy W' (some g)) (hg : g < B) : KeepC B W W' :=
  ⟨h.size, fun b o hB ho _ => (h.block b (Array.getElem?_eq_some_iff.1 ho).1 (fun e => by cases e; omega)).trans ho⟩

theorem keepC_below {B : Nat} {W W' : World} (h : Below W.heap.size W W') : KeepC B W W' :=
  ⟨h.size, fun b o _ ho _ => (h.block b (Array.getElem?_eq_some_iff.1 ho).1).trans ho⟩

theorem cells_of_cell {W : World} {g i : Nat} {v : Value} (h : W.cell? ⟨g, i, none⟩ = some v) : ∃ o : Obj, W.heap[g]? = some o ∧ o.isCells = true := by
  unfold World.cell? at h
  split at h
  · rename_i c t s hb
    exact ⟨_, hb, rfl⟩
  · cases h

theorem RowAt.keepC {α : Type} {enc : α → List Value} {s B B0 : Nat} {W W' : World} {A : Option Addr} {D : List α} (h : RowAt enc s W B0 A D) (hs : 0 < s) (he : ∀ p, (enc p).length = s) (hB : B ≤ B0) (k : KeepC B W W') : RowAt enc s W' B0 A D := fun i p hp => by
  obtain ⟨g, h1, h2, h3, h4⟩ := h i p hp
  have h5 := h4 0 hs
  rw [List.getElem?_eq_getElem (by rw [he]; exact hs)] at h5
  obtain ⟨o, ho, hc⟩ := cells_of_cell h5
  have h6 := k.2 g o (by omega) ho hc
  exact ⟨g, h1, h2, Nat.lt_of_lt_of_le h3 k.1, fun c hcs => (World.cell?_of_block (a := ⟨g, i * s + c, none⟩) (h6.trans ho.symm)).trans (h4 c hcs)⟩

/-- An entry that the table holds. -/
abbrev In (c : List (Int × (Int × Int))) := { x : Int × (Int × Int) // x ∈ c }
def encIn (c : List (Int × (Int × Int))) (x : In c) : Array Value := #[.int .u64 x.1.1, .agg #[.int .i64 x.1.2.1, .int .i64 x.1.2.2]]

theorem in_list {c : List (Int × (Int × Int))} : ∀ l : List (Int × (Int × Int)), (∀ x ∈ l, x ∈ c) → ∃ L : List (In c), L.map (·.1) = l
  | [], _ => ⟨[], rfl⟩
  | x :: l, h => by
    obtain ⟨L, hL⟩ := in_list l (fun y hy => h y (List.mem_cons_of_mem _ hy))
    exact ⟨⟨x, h x List.mem_cons_self⟩ :: L, by simp [hL]⟩

set_option maxRecDepth 100000 in
set_option maxHeartbeats 4000000 in
theorem stopsE {w : World} {h g n : Nat} {c : List (Int × (Int × Int))} (t : HTE w h g n c) (bx : Nat) (hbx : w.cell? ⟨bx, 0, none⟩ = some (.pointer (some ⟨h, 0, none⟩))) (d : Nat) (hd : 1 ≤ d) :
    SeqStopsK Fence.wide d Try.prog 38 #[.pointer (some ⟨bx, 0, none⟩)] (encIn c) (KeepC w.heap.size) (fun xs => SrtE c (xs.map (·.1))) (fun _ => True) c.length w := by
  intro l J Jx W hW hJ hJx hY h0
  have hb2 := (hW.cell (p := ⟨bx, 0, none⟩) (block_lt_of_cell hbx)).trans hbx
  have HR := Lib.hid (riseE_api (t.below hW))
  have hsW := hW.size
  have HJ := Lib.hid hJ
  have HY := Lib.hid hY
  have H0 := Lib.hid h0
  clear t hbx hW hJ hJx hY h0
  refine callsIn_of_wp Try.func38 rfl trivial ?_ rfl
  simp only [Try.ntmps38, List.size_toArray, List.length_cons, List.length_nil, Nat.reduceAdd, Nat.reduceSub, Array.replicate_succ, Array.replicate_zero, List.push_toArray, List.append_toArray, List.nil_append, List.cons_append]
  gi_wp2_with fail
  refine ⟨trivial, ?_⟩
  (with_reducible refine (callsIn_wide.2 HR.out).mono ?_); rintro e w1 ⟨D, A, cap, rfl, hS, hD, hwf, hrow, hb⟩
  obtain ⟨L, hL⟩ := in_list (c := c) (D.map pairE) (fun x hx => hS.1.mem_iff.1 hx)
  have HS := Lib.hid hS
  have HROW := Lib.hid hrow
  have J1 := Lib.hid (HJ.out [] W w1 none H0.out ⟨hb.os, hb.tape, hb.output, hb.size, fun b hlt _ => hb.block b hlt⟩ (fun r e => by cases e))
  have hs1 := hb.size
  have hlen : D.length = c.length := by have := hS.1.length_eq; simpa using this
  have HLEN := Lib.hid hlen
  have HL := Lib.hid hL
  clear hS hwf hrow hb H0 HR hlen hL hb2
  obtain ⟨m, hm⟩ : ∃ m, D.length = m := ⟨_, rfl⟩
  rw [hm] at hD ⊢
  have HM := Lib.hid hm
  clear hm
  gi_wp2
  gi_loopw [8] (fun i wr => ∃ k : Nat, k ≤ m ∧ i = .int .i64 k ∧ Hid (RowAt encE 4 wr W.heap.size A D) ∧ W.heap.size ≤ wr.heap.size ∧ Hid (J (L.take k) wr)) (fun i _ => m - (intOf i).toNat)
  case atStart => exact ⟨0, Nat.zero_le _, rfl, HROW, hs1, J1⟩
  case round =>
    clear HROW hs1 J1
    obtain ⟨k, hk, rfl, R, hsz, HJk⟩ := hrel
    by_cases hkn : k < m
    · obtain ⟨x, hx⟩ := get_of_lt (l := D) (i := k) (by rw [HM.out]; exact hkn)
      obtain ⟨g', rfl, hg1, hg2, hcell⟩ := R.out k x hx
      have hki : (k : Int) < (m : Int) := by omega
      have hll : L.length = m := by have := congrArg List.length HL.out; rw [List.length_map, List.length_map, HM.out] at this; exact this
      obtain ⟨xl, hxl⟩ := get_of_lt (l := L) (i := k) (by omega)
      have hml : (L.map (·.1))[k]? = some xl.1 := by rw [List.getElem?_map, hxl]; rfl
      rw [HL.out, List.getElem?_map, hx] at hml
      have hnext : L.take (k + 1) = L.take k ++ [xl] := by rw [List.take_add_one, hxl]; rfl
      have htl : (L.take k).length < c.length := by rw [List.length_take, ← HLEN.out, HM.out]; omega
      obtain ⟨xf, xa, xp, xg⟩ := x
      obtain ⟨y, hy⟩ := xl
      have hml := Option.some.inj hml
      unfold pairE at hml
      dsimp only at hml
      subst hml
      have HNX := Lib.hid hnext
      have e0 := hcell 0 (by omega)
      have e1 := hcell 1 (by omega)
      have e2 := hcell 2 (by omega)
      have e3 := hcell 3 (by omega)
      simp only [Nat.add_zero] at e0
      have f0 : _ = some (Value.bool xf) := e0
      have f1 : _ = some (Value.int .u64 xa) := e1
      have f2 : _ = some (Value.int .i64 xp) := e2
      have f3 : _ = some (Value.int .i64 xg) := e3
      clear hx hxl hnext hcell e0 e1 e2 e3
      rename World => wr
      obtain ⟨wa, hwa⟩ : ∃ wa, wr.alloc (.cells #[.bool xf, .int .u64 xa, .int .i64 xp, .int .i64 xg] 69) = wa := ⟨_, rfl⟩
      have nb : Below wr.heap.size wr wa := by rw [← hwa]; exact new_below _ _
      have na : Bk wa wr.heap.size 69 [.bool xf, .int .u64 xa, .int .i64 xp, .int .i64 xg] := by rw [← hwa]; exact heap_alloc_new wr _
      have Ja := Lib.hid (HJ.out _ wr wa none HJk.out ⟨nb.os, nb.tape, nb.output, nb.size, fun b hlt _ => nb.block b hlt⟩ (fun r e => by cases e))
      have Ra := Lib.hid (R.out.below nb)
      have hsa := nb.size
      obtain ⟨fn, tmps, assign, body, hyy, hR⟩ := HY.out (L.take k) ⟨(xa, xp, xg), hy⟩ wa Ja.out htl
      unfold encIn at hyy
      dsimp only at hyy
      have n1 := na.cell 1
      have n2 := na.cell 2
      have n3 := na.cell 3
      have HWA := Lib.hid hwa
      have HRR := Lib.hid hR
      clear hwa nb na hR htl
      gi_wp2_with fail
      rw [HWA.out, hyy, Oper.uponIn_round]
      refine ⟨fun _ => hd, ?_⟩
      refine HRR.out.mono ?_
      rintro e W' (⟨rfl, hJ', hk'⟩ | ⟨rfl, hJx'⟩)
      · have R' := Lib.hid (Ra.out.keepC (by omega) encE_len hsW hk')
        have hz' : W.heap.size ≤ W'.heap.size := by have := hk'.1; omega
        have HJ' := Lib.hid hJ'
        clear hyy HRR hJ' hk' Ra Ja R HJk f0 f1 f2 f3 n1 n2 n3 hsa
        gi_wp2
        go_roundw
        case rel => exact ⟨k + 1, by omega, by go_num, R', hz', by rw [Hid, HNX.out]; exact HJ'.out⟩
        case measure => simp [intOf]; omega
      · have HJ' := Lib.hid hJx'
        clear hyy HRR hJx' Ra Ja R HJk f0 f1 f2 f3 n1 n2 n3 hsa
        gi_wp2
        refine bodyPost_ret (results_none rfl _ _ _) rfl ?_
        exact ⟨⟨_, rfl⟩, .inr ⟨_, trivial, HJ'.out⟩⟩
    · have hll : L.length = m := by have := congrArg List.length HL.out; rw [List.length_map, List.length_map, HM.out] at this; exact this
      have hkk : L.take k = L := List.take_of_length_le (by omega)
      have HK := Lib.hid hkk
      clear hkk hll
      gi_wp2
      go_end0
      exact ⟨⟨_, rfl⟩, .inl ⟨L, by rw [HL.out]; exact HS.out, by have := HJk.out; rw [HK.out] at this; exact this⟩⟩

end Go.Proofs.Ytokepfgknffdfaa
