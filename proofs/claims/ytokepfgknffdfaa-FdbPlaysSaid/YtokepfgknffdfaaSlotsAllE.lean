/- All of a table: the iterator hands out what the table holds, by rising addresses, till it is told to stop. -/
import Derived.Test.YtokepfgknffdfaaSlotsRisingE
import Derived.Shelf.Abstract
import Derived.LoopTactic
namespace Go.Proofs.Ytokepfgknffdfaa
open Go.ChangeShapes Go.WideShapes Go.ChangeAt Go.RowKit
set_option linter.unusedVariables false

/-- What a place holds, as a pair. -/
def pairE (p : Pl (Int × Int)) : Int × (Int × Int) := (p.addr, p.val)

theorem conts_filterE (l : List (Pl (Int × Int))) : conts l = (l.filter (·.full)).map pairE := by
  induction l with
  | nil => rfl
  | cons p r ih =>
    unfold conts one
    by_cases h : p.full = true
    · rw [if_pos h, List.filter_cons_of_pos h, ih]; rfl
    · rw [if_neg h, List.filter_cons_of_neg h, ih]; rfl

/-- S is what c holds, rising. -/
def SrtE (c S : List (Int × (Int × Int))) : Prop := S.Perm c ∧ S.Pairwise (fun x y => x.1 < y.1)

theorem riseE_api {w : World} {h g n : Nat} {c : List (Int × (Int × Int))} (t : HTE w h g n c) :
    Calls Try.prog 39 #[.pointer (some ⟨h, 0, none⟩)] w fun e w' => ∃ (D : List (Pl (Int × Int))) (A : Option Addr) (cap : Nat), e = .returned (.slice A D.length cap) ∧
      SrtE c (D.map pairE) ∧ D.length ≤ 64 ∧ (∀ p ∈ D, 0 ≤ p.addr ∧ p.addr ≤ 18446744073709551615) ∧ RowAt encE 4 w' w.heap.size A D ∧ Below w.heap.size w w' := by
  have hap := t.ap
  have hle := t.le
  have hlt := t.lt
  obtain ⟨l, t, o, hn, p⟩ := t
  refine (risingE_is w h g l t).mono fun e w' ⟨D, A, cap, he, hp, hpw, hr, hb⟩ => ⟨D, A, cap, he, ?_, ?_, ?_, hr, hb⟩
  · have p1 : (D.map pairE).Perm c := ((hp.map pairE).trans (by rw [← conts_filterE])).trans p
    refine ⟨p1, ?_⟩
    have a1 : Ap (D.map pairE) := hap.perm p1.symm
    have a2 : (D.map pairE).Pairwise (fun x y => x.1 ≤ y.1) := by
      rw [List.pairwise_map]; exact hpw
    refine (a1.and a2).imp fun {x y} hxy => ?_
    have := hxy.1
    have := hxy.2
    omega
  · have : D.length = c.length := by
      have := p.length_eq
      rw [conts_filterE, List.length_map, ← hp.length_eq] at this
      exact this
    omega
  · intro q hq
    exact o.2 q (List.mem_filter.1 (hp.mem_iff.1 hq)).1

theorem allE_is (w : World) (h : Nat) : Calls Try.prog 34 #[.pointer (some ⟨h, 0, none⟩)] w fun e w' =>
    e = .returned (.func (.func 38) #[] #[.pointer (some ⟨w.heap.size, 0, none⟩)]) ∧ w.alloc (.cells #[.pointer (some ⟨h, 0, none⟩)] 50) = w' := by
  go_enter Try.func34, Try.ntmps34
  go_wp2
  go_ret
  exact ⟨rfl, rfl⟩

/-- What one goes through: all have come, or one has said 'no more' at some. -/
def GoneE (c : List (Int × (Int × Int))) (J Jx : List (Int × (Int × Int)) → World → Prop) (w' : World) : Prop :=
  ∃ S, SrtE c S ∧ (J S w' ∨ ∃ pre x post, S = pre ++ x :: post ∧ Jx (pre ++ [x]) w')

theorem take_mid {α : Type} {l : List α} {k : Nat} {x : α} (h : l[k]? = some x) : l = l.take k ++ x :: l.drop (k + 1) := by
  have hk : k < l.length := by
    rcases Nat.lt_or_ge k l.length with q | q
    · exact q
    · rw [List.getElem?_eq_none q] at h; cases h
  rw [List.getElem?_eq_getElem hk] at h
  rw [← Option.some.inj h, ← List.drop_eq_getElem_cons hk, List.take_append_drop]

set_option maxRecDepth 100000 in
set_option maxHeartbeats 4000000 in
theorem throughE (gY : Nat) (cb : Array Value) (w0 : World) (h g n : Nat) (c : List (Int × (Int × Int))) (t : HTE w0 h g n c) (bx : Nat) (hbx : w0.cell? ⟨bx, 0, none⟩ = some (.pointer (some ⟨h, 0, none⟩)))
    (J Jx : List (Int × (Int × Int)) → World → Prop) (hJ : ∀ pre W W', J pre W → Below W.heap.size W W' → J pre W') (h0 : J [] w0)
    (eg : ∀ args w, (callFunc gY args).run Try.prog w = .ok (.enter gY args) w)
    (hy : ∀ pre a v post W, SrtE c (pre ++ (a, v) :: post) → 0 ≤ a → a ≤ 18446744073709551615 → w0.heap.size ≤ W.heap.size → J pre W → Calls Try.prog gY (#[.int .u64 a, (.agg #[.int .i64 v.1, .int .i64 v.2])] ++ cb) W fun e W' =>
      (W.heap.size ≤ W'.heap.size ∧ ∀ b, w0.heap.size ≤ b → b < W.heap.size → W'.heap[b]? = W.heap[b]?) ∧ ((e = .returned (.bool true) ∧ J (pre ++ [(a, v)]) W') ∨ (e = .returned (.bool false) ∧ Jx (pre ++ [(a, v)]) W'))) :
    Calls Try.prog 38 #[.func (.func gY) #[] cb, .pointer (some ⟨bx, 0, none⟩)] w0 fun e w' => e = .returned (.tuple #[]) ∧ GoneE c J Jx w' := by
  have HR := Lib.hid (riseE_api t)
  have H0 := Lib.hid h0
  have HJ := Lib.hid hJ
  have HY := Lib.hid hy
  clear t h0 hJ hy
  go_enter Try.func38, Try.ntmps38
  go_wp2_with fail
  (with_reducible refine HR.out.mono ?_); rintro e w1 ⟨D, A, cap, rfl, hS, hD, hwf, hrow, hb⟩
  have HS := Lib.hid hS
  have HW := Lib.hid hwf
  have HROW := Lib.hid hrow
  have J1 := Lib.hid (HJ.out [] w0 w1 H0.out hb)
  have hs1 := hb.size
  clear hS hwf hrow hb H0 HR hbx
  obtain ⟨m, hm⟩ : ∃ m, D.length = m := ⟨_, rfl⟩
  rw [hm] at hD ⊢
  have HM := Lib.hid hm
  clear hm
  go_wp2
  go_loopw [8] (fun i wr => ∃ k : Nat, k ≤ m ∧ i = .int .i64 k ∧ Hid (RowAt encE 4 wr w0.heap.size A D) ∧ w0.heap.size ≤ wr.heap.size ∧ Hid (J ((D.map pairE).take k) wr)) (fun i _ => m - (intOf i).toNat)
  case atStart => exact ⟨0, Nat.zero_le _, rfl, HROW, hs1, J1⟩
  case round =>
    clear HROW hs1 J1
    obtain ⟨k, hk, rfl, R, hsz, HJk⟩ := hrel
    by_cases hkn : k < m
    · obtain ⟨x, hx⟩ := get_of_lt (l := D) (i := k) (by rw [HM.out]; exact hkn)
      obtain ⟨g', rfl, hg1, hg2, hcell⟩ := R.out k x hx
      have hki : (k : Int) < (m : Int) := by omega
      obtain ⟨hx0, hx1⟩ := HW.out x (List.mem_of_getElem? hx)
      have hmx : (D.map pairE)[k]? = some (x.addr, x.val) := by rw [List.getElem?_map, hx]; rfl
      have hsp := take_mid hmx
      have hSS : SrtE c ((D.map pairE).take k ++ (x.addr, x.val) :: (D.map pairE).drop (k + 1)) := by rw [← hsp]; exact HS.out
      have hnext : (D.map pairE).take (k + 1) = (D.map pairE).take k ++ [(x.addr, x.val)] := by rw [List.take_add_one, hmx]; rfl
      have HSS := Lib.hid hSS
      have HSP := Lib.hid hsp
      have HNX := Lib.hid hnext
      obtain ⟨xf, xa, xv⟩ := x
      have e0 := hcell 0 (by omega)
      have e1 := hcell 1 (by omega)
      have e2 := hcell 2 (by omega)
      have e3 := hcell 3 (by omega)
      simp only [Nat.add_zero] at e0
      dsimp only at hx0 hx1
      have f0 : _ = some (Value.bool xf) := e0
      have f1 : _ = some (Value.int .u64 xa) := e1
      have f2 : _ = some (Value.int .i64 xv.1) := e2
      have f3 : _ = some (Value.int .i64 xv.2) := e3
      clear hx hmx hsp hSS hnext hcell e0 e1 e2 e3
      have Ja := Lib.hid (HJ.out _ _ _ HJk.out (new_below _ (.cells #[.bool xf, .int .u64 xa, .int .i64 xv.1, .int .i64 xv.2] 69)))
      have Ra := Lib.hid (R.out.below (new_below _ (.cells #[.bool xf, .int .u64 xa, .int .i64 xv.1, .int .i64 xv.2] 69)))
      go_wp2_with fail
      (with_reducible refine (HY.out _ xa xv _ _ HSS.out hx0 hx1 (by simp; omega) Ja.out).mono ?_)
      rintro e W' ⟨⟨hz, hkeep⟩, (⟨rfl, hJ'⟩ | ⟨rfl, hJx'⟩)⟩
      · have HJ' := Lib.hid hJ'
        have R' := Lib.hid (Ra.out.keep hz hkeep)
        have hz' : w0.heap.size ≤ W'.heap.size := by simp at hz; omega
        clear hJ' hkeep hz Ra Ja R HJk f0 f1 f2 f3
        go_wp2
        go_roundw
        case rel => exact ⟨k + 1, by omega, by go_num, R', hz', by rw [Hid, HNX.out]; exact HJ'.out⟩
        case measure => simp [intOf]; omega
      · have HJ' := Lib.hid hJx'
        clear hJx' hkeep hz Ra Ja R HJk f0 f1 f2 f3
        go_wp2
        refine bodyPost_ret (results_none rfl _ _ _) rfl ?_
        exact ⟨rfl, _, HS.out, .inr ⟨_, _, _, HSP.out, HJ'.out⟩⟩
    · have hkk : (D.map pairE).take k = D.map pairE := List.take_of_length_le (by rw [List.length_map, HM.out]; omega)
      have HK := Lib.hid hkk
      clear hkk
      go_wp2
      go_end0
      exact ⟨rfl, _, HS.out, .inl (by have := HJk.out; rw [HK.out] at this; exact this)⟩

end Go.Proofs.Ytokepfgknffdfaa
