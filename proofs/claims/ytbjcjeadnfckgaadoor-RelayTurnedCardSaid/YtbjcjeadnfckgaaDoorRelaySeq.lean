/- All other ports that forward, gone through by a loop: the iterator's contract where a loop calls it. -/
import Derived.Test.YtbjcjeadnfckgaaDoorRelayBase
import Derived.RangeFuncNested
import Derived.RangeFuncBound
import Derived.RangeFuncCalls
import Derived.RangeFuncLeaves
import Derived.RangeFuncBox
import Derived.Shelf.Abstract
import Derived.Shelf.RegionOpen
import Derived.WalkKit
import Derived.OwnWalkIn
import Derived.TacticsInMore
import Derived.LoopNIn
import Derived.LoopIn
namespace Go.Proofs.YtbjcjeadnfckgaaDoor
set_option maxRecDepth 100000
open Go.ChangeShapes Go.WideShapes Go.ChangeAt Go.RowKit Go.Shelf
set_option linter.unusedVariables false
set_option linter.unusedSimpArgs false
attribute [local go_sem] Oper.semAt_some

/-- What lay below B lies as it lay, and so do two blocks more. -/
def KeepP (B a b : Nat) (W W' : World) : Prop := Below B W W' ∧ W'.heap[a]? = W.heap[a]? ∧ W'.heap[b]? = W.heap[b]?
theorem keepP_r (B a b : Nat) (W : World) : KeepP B a b W W := ⟨Below.refl _ _, rfl, rfl⟩
theorem keepP_t {B a b : Nat} {X Y Z : World} (h : KeepP B a b X Y) (k : KeepP B a b Y Z) : KeepP B a b X Z := ⟨h.1.trans k.1, k.2.1.trans h.2.1, k.2.2.trans h.2.2⟩
theorem keepP_b {B a b n : Nat} (hB : B ≤ n) (ha : a < n) (hb : b < n) (W : World) (l : Nat) (o o' : Obj) (hl : n ≤ l) (h : W.heap[l]? = some o) (_ : o.isCells = false) (_ : o.isWalk = false) : KeepP B a b W (W.putObj l o') :=
  ⟨(Below.refl B W).grown (grownBy_putObj' W l o') (by have := (Array.getElem?_eq_some_iff.1 h).1; omega) (fun k e => by cases e; omega), World.putObj_heap_other (by omega), World.putObj_heap_other (by omega)⟩
theorem keepP_below {B a b : Nat} {W W' : World} (h : Below W.heap.size W W') (hB : B ≤ W.heap.size) (ha : a < W.heap.size) (hb : b < W.heap.size) : KeepP B a b W W' := ⟨h.mono hB, h.block a ha, h.block b hb⟩

/-- Whether a port is another one that forwards. -/
def otherB (inn : Int) (U : List Int) (i : Nat) : Bool := decide ((i : Int) ≠ inn) && decide (U[i]? = some 4)
def encNp (i : Nat) : Array Value := #[.int .i64 i]

set_option maxRecDepth 100000 in
set_option maxHeartbeats 4000000 in
theorem othersS {w : World} {B a b m c : Nat} {A : Option Addr} {U : List Int} {inn : Int} (hU : Hid (U.length = m)) (hm : m ≤ 100000) (hI : Hid (IntsIn w A B U)) (hB : B ≤ w.heap.size) (hi : -9223372036854775808 ≤ inn ∧ inn ≤ 9223372036854775807)
    (ha : Bk w a 28 [.slice A m c]) (hb : Bk w b 3 [.int .i64 inn]) (d : Nat) (hd : 1 ≤ d) :
    SeqStopsK Fence.wide d Tryd.prog 24 #[.pointer (some ⟨a, 0, none⟩), .pointer (some ⟨b, 0, none⟩)] encNp (KeepP B a b) (fun xs => xs = pickN (otherB inn U) m) (fun _ => True) m w := by
  intro l J Jx W hW hJ hJx hY h0
  have ha' : Bk W a 28 [.slice A m c] := ha.below hW ha.lt
  have hb' : Bk W b 3 [.int .i64 inn] := hb.below hW hb.lt
  have hI' : Hid (IntsIn W A B U) := Lib.hid (hI.out.below (hW.mono hB))
  have hBW : B ≤ W.heap.size := Nat.le_trans hB hW.size
  have HA := Lib.hid ha'
  have HB := Lib.hid hb'
  have HY := Lib.hid hY
  have H0 := Lib.hid h0
  have cA := ha'.cell 0
  clear ha hb ha' hb' hI hW hJ hJx hY h0
  refine callsIn_of_wp Tryd.func24 rfl trivial ?_ rfl
  simp only [Tryd.ntmps24, List.size_toArray, List.length_cons, List.length_nil, Nat.reduceAdd, Nat.reduceSub, Array.replicate_succ, Array.replicate_zero, List.push_toArray, List.append_toArray, List.nil_append, List.cons_append]
  gi_wp2
  gi_loopw [7] (fun i wr => ∃ j : Nat, j ≤ m ∧ i = .int .i64 j ∧ Hid (KeepP B a b W wr) ∧ Hid (J (pickN (otherB inn U) j) wr)) (fun i _ => m - (intOf i).toNat)
  case atStart => exact ⟨0, Nat.zero_le _, rfl, Lib.hid (keepP_r _ _ _ _), H0⟩
  case round =>
    obtain ⟨j, hj, rfl, HK, HJ⟩ := hrel
    by_cases hjm : j < m
    · have hji : (j : Int) < (m : Int) := by omega
      have hjz : ¬ (m : Int) ≤ (j : Int) := by omega
      rename World => wr
      have ca : wr.cell? ⟨a, 0, none⟩ = some (.slice A m c) := Bk.cell (HK.out.2.1.trans HA.out) 0
      have cb : wr.cell? ⟨b, 0, none⟩ = some (.int .i64 inn) := Bk.cell (HK.out.2.2.trans HB.out) 0
      obtain ⟨u, hu⟩ : ∃ u, U[j]? = some u := ⟨_, List.getElem?_eq_getElem (by rw [hU.out]; exact hjm)⟩
      have hf : fwdB U (j : Int) = decide (u = 4) := by unfold fwdB; rw [hU.out, Int.toNat_natCast, hu]; simp [hjm]
      have HF := Lib.hid (rfwd_is (j : Int) A m c U hU wr B (Lib.hid (hI'.out.below HK.out.1)))
      rw [hf] at HF
      have HU := Lib.hid hu
      clear hu hf
      by_cases a3 : (j : Int) = inn
      · have b3 : ((j : Int) != inn) = false := by simp [a3]
        have HP := Lib.hid (show pickN (otherB inn U) (j + 1) = pickN (otherB inn U) j from pickN_no (by unfold otherB; simp [a3]))
        clear a3
        gi_wp2
        refine ⟨trivial, ?_⟩
        gi_wp2
        refine ⟨(fun f h => by cases h), ?_⟩
        gi_wp2
        go_roundw
        case rel => exact ⟨j + 1, hjm, by go_num, HK, by rw [HP.out]; exact HJ⟩
        case measure => simp [intOf]; omega
      · have b3 : ((j : Int) != inn) = true := by simp [a3]
        by_cases a4 : u = 4
        · have b4 : decide (u = 4) = true := by simp [a4]
          rw [b4] at HF
          have HP := Lib.hid (show pickN (otherB inn U) (j + 1) = pickN (otherB inn U) j ++ [j] from pickN_yes (by unfold otherB; rw [HU.out]; simp [a3, a4]))
          have hlen : (pickN (otherB inn U) j).length < m := by have := pickN_len (otherB inn U) j; omega
          obtain ⟨fn, tmps, assign, body, hyy, hR⟩ := HY.out (pickN (otherB inn U) j) j wr HJ.out hlen
          unfold encNp at hyy
          have HRR := Lib.hid hR
          clear a3 a4 b4 hR hlen
          gi_wp2_with fail
          refine ⟨trivial, ?_⟩
          (with_reducible refine (callsIn_wide.2 HF.out).mono ?_); rintro e w' ⟨rfl, rfl⟩
          gi_wp2_with fail
          refine HRR.out.mono ?_
          rintro e W' (⟨rfl, hJ', hk'⟩ | ⟨rfl, hJx'⟩)
          · have HK' := Lib.hid (keepP_t HK.out hk')
            have HJ' := Lib.hid hJ'
            clear hyy HRR hJ' hk' ca cb HK HJ HF
            gi_wp2
            go_roundw
            case rel => exact ⟨j + 1, hjm, by go_num, HK', by rw [HP.out]; exact HJ'⟩
            case measure => simp [intOf]; omega
          · have HJ' := Lib.hid hJx'
            clear hyy HRR hJx' ca cb HK HJ HF
            gi_wp2
            refine bodyPost_ret (results_none rfl _ _ _) rfl ?_
            exact ⟨⟨_, rfl⟩, .inr ⟨_, trivial, HJ'.out⟩⟩
        · have b4 : decide (u = 4) = false := by simp [a4]
          rw [b4] at HF
          have HP := Lib.hid (show pickN (otherB inn U) (j + 1) = pickN (otherB inn U) j from pickN_no (by unfold otherB; rw [HU.out]; simp [a4]))
          clear a3 a4 b4
          gi_wp2_with fail
          refine ⟨trivial, ?_⟩
          (with_reducible refine (callsIn_wide.2 HF.out).mono ?_); rintro e w' ⟨rfl, rfl⟩
          gi_wp2
          refine ⟨(fun f h => by cases h), ?_⟩
          gi_wp2
          go_roundw
          case rel => exact ⟨j + 1, hjm, by go_num, HK, by rw [HP.out]; exact HJ⟩
          case measure => simp [intOf]; omega
    · have hjz : ¬ (j : Int) < (m : Int) := by omega
      have hje : j = m := by omega
      rw [hje] at HJ
      gi_wp2
      go_end0
      exact ⟨⟨_, rfl⟩, .inl HJ.out⟩
end Go.Proofs.YtbjcjeadnfckgaaDoor
