/- Size, Len, Get and Put of a table. -/
import Derived.Test.YtokepfgknffdfaaSlotsFindE
import Derived.Deep.DeepCutAuto
import Derived.RegionTactic
import Derived.BigRegion
namespace Go.Proofs.Ytokepfgknffdfaa
open Go.ChangeShapes Go.WideShapes Go.ChangeAt Go.RowKit
set_option linter.unusedVariables false

theorem sizeE_is (w : World) (h g : Nat) (l : List (Pl (Int × Int))) (t : TBE w h g l) :
    Calls Try.prog 33 #[.pointer (some ⟨h, 0, none⟩)] w fun e w' => e = .returned (.int .i64 (l.length : Nat)) ∧ w = w' := by
  have c0 := TB.cell0 t
  have n64 := t.2.2.2
  clear t
  go_enter Try.func33, Try.ntmps33
  go_wp2
  go_ret
  exact ⟨rfl, rfl⟩

set_option maxHeartbeats 1000000 in
theorem lenE_is (w : World) (h g : Nat) (l : List (Pl (Int × Int))) (t : TBE w h g l) :
    Calls Try.prog 30 #[.pointer (some ⟨h, 0, none⟩)] w fun e w' => e = .returned (.int .i64 ((conts l).length : Nat)) ∧ Below w.heap.size w w' := by
  obtain ⟨n, hn⟩ : ∃ n, l.length = n := ⟨_, rfl⟩
  have n64 : n ≤ 64 := by have := t.2.2.2; omega
  have c0 := TB.cell0 t
  rw [hn] at c0
  have HT := Lib.hid t
  have HN := Lib.hid hn
  clear t hn
  go_enter Try.func30, Try.ntmps30
  go_wp2
  go_loopw [3, 11] (fun x i wr => ∃ k : Nat, k ≤ n ∧ i = .int .i64 k ∧ x = .int .i64 ((conts (l.take k)).length : Nat) ∧ Below w.heap.size w wr) (fun _ i _ => n - (intOf i).toNat)
  case atStart => exact ⟨0, Nat.zero_le _, rfl, rfl, Below.refl _ _⟩
  case round =>
    obtain ⟨k, hk, rfl, rfl, hb⟩ := hrel
    by_cases hkn : k < n
    · obtain ⟨x, hx⟩ := get_of_lt (l := l) (i := k) (by rw [HN.out]; exact hkn)
      obtain ⟨e0, e1, e2, e3⟩ := (HT.out.below hb).cells hx
      have hc := conts_take hx
      obtain ⟨m, hm⟩ : ∃ m, (conts (l.take k)).length = m := ⟨_, rfl⟩
      have hm2 : (conts (l.take (k + 1))).length = m + if x.full = true then 1 else 0 := by rw [hc, List.length_append, one_len, hm]
      have mk : m ≤ k := by
        have := conts_le (l.take k)
        rw [List.length_take] at this; omega
      rw [hm]
      have HM := Lib.hid hm2
      clear hc hm hm2
      obtain ⟨xf, xa, xv⟩ := x
      dsimp only at e0 e1 e2 e3
      have hsz := hb.size
      clear hx
      cases xf with
      | false =>
        go_wp2
        go_roundw
        case rel => exact ⟨k + 1, by omega, by go_num, by rw [HM.out]; rfl, hb.alloc hsz _⟩
        case measure => simp [intOf]; omega
      | true =>
        go_wp2
        go_roundw
        case rel => exact ⟨k + 1, by omega, by go_num, by rw [HM.out]; rfl, hb.alloc hsz _⟩
        case measure => simp [intOf]; omega
    · have hkn2 : k = n := by omega
      have he : (conts (l.take k)).length = (conts l).length := by rw [List.take_of_length_le (by rw [HN.out]; omega)]
      obtain ⟨m, hm⟩ : ∃ m, (conts (l.take k)).length = m := ⟨_, rfl⟩
      rw [hm]
      rw [hm] at he
      have HE := Lib.hid he
      clear he hm hkn2
      go_wp2
      go_ret
      exact ⟨ret_int (by rw [HE.out]), hb⟩

theorem box2 {w : World} {B : Nat} {T : TypeId} {p q : Value} (k : Bk w B T [p, q]) (x y : Value) : Bk ((w.setCell ⟨B, 0, none⟩ x).setCell ⟨B, 1, none⟩ y) B T [x, y] := (k.set 0 x).set 1 y

set_option maxHeartbeats 1000000 in
theorem getE_yes (w : World) (h g : Nat) (l : List (Pl (Int × Int))) (t : TBE w h g l) (a : Int) (ha0 : 0 ≤ a) (ha1 : a ≤ 18446744073709551615) (q : Nat) (v : (Int × Int)) (HL : Hid (lookFrom l a l.length (hs l.length a) = ((q : Int), true)))
    (hx : l[q]? = some ⟨true, a, v⟩) (hq : q < l.length) :
    Calls Try.prog 27 #[.pointer (some ⟨h, 0, none⟩), .int .u64 a] w fun e w' => e = .returned (.tuple #[.agg #[.int .i64 v.1, .int .i64 v.2], .bool true]) ∧ Below w.heap.size w w' := by
  have n64 := t.2.2.2
  obtain ⟨x, y⟩ := v
  have bb : Below w.heap.size w (w.alloc (.cells #[.int .i64 0, .int .i64 0] 53)) := (Below.refl _ _).alloc (Nat.le_refl _) _
  have bk : Bk (w.alloc (.cells #[.int .i64 0, .int .i64 0] 53)) w.heap.size 53 [.int .i64 0, .int .i64 0] := heap_alloc_new w _
  obtain ⟨wb, hwb⟩ : ∃ wb, w.alloc (.cells #[.int .i64 0, .int .i64 0] 53) = wb := ⟨_, rfl⟩
  rw [hwb] at bb bk
  have HWB := Lib.hid hwb
  have HX := Lib.hid hx
  have HT := Lib.hid (t.below bb)
  have HF := Lib.hid (findE_is wb h g l HT.out a ha0 ha1 q true HL)
  have HK := Lib.hid bk
  clear hx t hwb bk
  go_enter Try.func27, Try.ntmps27
  go_wp2_with fail
  rw [HWB.out]
  (with_reducible refine HF.out.mono ?_); rintro e w1 ⟨rfl, hb⟩
  clear HF
  have t1 := HT.out.below hb
  have c0 := TB.cell0 t1
  obtain ⟨e0, e1, e2, e3⟩ := t1.cells HX.out
  dsimp only at e0 e1 e2 e3
  have k1 : Bk w1 w.heap.size 53 [.int .i64 0, .int .i64 0] := HK.out.below hb HK.out.lt
  have z0 := k1.thaw 0
  have z1 := k1.thaw 1
  have k2 := box2 k1 (.int .i64 x) (.int .i64 y)
  have r0 := k2.cell 0
  have r1 := k2.cell 1
  have B2 : Below w.heap.size w ((w1.setCell ⟨w.heap.size, 0, none⟩ (.int .i64 x)).setCell ⟨w.heap.size, 1, none⟩ (.int .i64 y)) := ((bb.trans (hb.mono bb.size)).setCell (p := ⟨w.heap.size, 0, none⟩) (Nat.le_refl _) _).setCell (p := ⟨w.heap.size, 1, none⟩) (Nat.le_refl _) _
  have HB2 := Lib.hid B2
  have y0 := k1.cell 0
  have y1 := k1.cell 1
  clear t1 k1 k2 B2 hb bb
  go_wp2
  exact bodyPost_ret (v := .tuple #[.agg #[.int .i64 x, .int .i64 y], .bool true]) (by simp [results, Try.results27, go_sem, r0, r1]) rfl ⟨rfl, HB2.out⟩

set_option maxHeartbeats 1000000 in
theorem getE_no (w : World) (h g : Nat) (l : List (Pl (Int × Int))) (t : TBE w h g l) (a : Int) (ha0 : 0 ≤ a) (ha1 : a ≤ 18446744073709551615) (p : Int) (HL : Hid (lookFrom l a l.length (hs l.length a) = (p, false))) :
    Calls Try.prog 27 #[.pointer (some ⟨h, 0, none⟩), .int .u64 a] w fun e w' => e = .returned (.tuple #[.agg #[.int .i64 0, .int .i64 0], .bool false]) ∧ Below w.heap.size w w' := by
  have bb : Below w.heap.size w (w.alloc (.cells #[.int .i64 0, .int .i64 0] 53)) := (Below.refl _ _).alloc (Nat.le_refl _) _
  have bk : Bk (w.alloc (.cells #[.int .i64 0, .int .i64 0] 53)) w.heap.size 53 [.int .i64 0, .int .i64 0] := heap_alloc_new w _
  obtain ⟨wb, hwb⟩ : ∃ wb, w.alloc (.cells #[.int .i64 0, .int .i64 0] 53) = wb := ⟨_, rfl⟩
  rw [hwb] at bb bk
  have HWB := Lib.hid hwb
  have HT := Lib.hid (t.below bb)
  have HF := Lib.hid (findE_is wb h g l HT.out a ha0 ha1 p false HL)
  have HK := Lib.hid bk
  clear t hwb bk
  go_enter Try.func27, Try.ntmps27
  go_wp2_with fail
  rw [HWB.out]
  (with_reducible refine HF.out.mono ?_); rintro e w1 ⟨rfl, hb⟩
  clear HF
  obtain ⟨w2, hw2⟩ : ∃ w2, w1.alloc (.cells #[.int .i64 0, .int .i64 0] 53) = w2 := ⟨_, rfl⟩
  have b2 : Below w1.heap.size w1 w2 := by rw [← hw2]; exact (Below.refl _ _).alloc (Nat.le_refl _) _
  have k0 : Bk w1 w.heap.size 53 [.int .i64 0, .int .i64 0] := HK.out.below hb HK.out.lt
  have k1 : Bk w2 w.heap.size 53 [.int .i64 0, .int .i64 0] := k0.below b2 k0.lt
  have n1 : Bk w2 w1.heap.size 53 [.int .i64 0, .int .i64 0] := by rw [← hw2]; exact heap_alloc_new w1 _
  have HW2 := Lib.hid hw2
  have z0 := k1.thaw 0
  have z1 := k1.thaw 1
  have k2 := box2 k1 (.int .i64 0) (.int .i64 0)
  have r0 := k2.cell 0
  have r1 := k2.cell 1
  have y0 := n1.cell 0
  have y1 := n1.cell 1
  have v0 := k1.cell 0
  have v1 := k1.cell 1
  have B2 : Below w.heap.size w ((w2.setCell ⟨w.heap.size, 0, none⟩ (.int .i64 0)).setCell ⟨w.heap.size, 1, none⟩ (.int .i64 0)) := ((bb.trans ((hb.trans (b2.mono hb.size)).mono bb.size)).setCell (p := ⟨w.heap.size, 0, none⟩) (Nat.le_refl _) _).setCell (p := ⟨w.heap.size, 1, none⟩) (Nat.le_refl _) _
  have HB2 := Lib.hid B2
  clear k0 k1 k2 n1 B2 hb bb b2 hw2
  go_upto_region 4 with fail
  rw [HW2.out]
  go_wp2
  exact bodyPost_ret (v := .tuple #[.agg #[.int .i64 0, .int .i64 0], .bool false]) (by simp [results, Try.results27, go_sem, r0, r1]) rfl ⟨rfl, HB2.out⟩

set_option maxHeartbeats 1000000 in
theorem putE_at (w : World) (h g : Nat) (l : List (Pl (Int × Int))) (t : TBE w h g l) (a : Int) (ha0 : 0 ≤ a) (ha1 : a ≤ 18446744073709551615) (v : (Int × Int)) (q : Nat) (b : Bool) (HL : Hid (lookFrom l a l.length (hs l.length a) = ((q : Int), b))) (hq : q < l.length) :
    Calls Try.prog 23 #[.pointer (some ⟨h, 0, none⟩), .int .u64 a, .agg #[.int .i64 v.1, .int .i64 v.2]] w fun e w' => e = .returned (.bool true) ∧ TBE w' h g (l.set q ⟨true, a, v⟩) ∧ But g w w' := by
  have n64 := t.2.2.2
  have hgl := t.lt.2
  obtain ⟨vx, vy⟩ := v
  have bb : Below w.heap.size w (w.alloc (.cells #[.int .i64 vx, .int .i64 vy] 53)) := (Below.refl _ _).alloc (Nat.le_refl _) _
  have bk : Bk (w.alloc (.cells #[.int .i64 vx, .int .i64 vy] 53)) w.heap.size 53 [.int .i64 vx, .int .i64 vy] := heap_alloc_new w _
  obtain ⟨wb, hwb⟩ : ∃ wb, w.alloc (.cells #[.int .i64 vx, .int .i64 vy] 53) = wb := ⟨_, rfl⟩
  rw [hwb] at bb bk
  have HWB := Lib.hid hwb
  have HT := Lib.hid (t.below bb)
  have HF := Lib.hid (findE_is wb h g l HT.out a ha0 ha1 q b HL)
  have HK := Lib.hid bk
  clear t hwb bk
  dsimp only
  go_enter Try.func23, Try.ntmps23
  go_wp2_with fail
  rw [HWB.out]
  (with_reducible refine HF.out.mono ?_); rintro e w1 ⟨rfl, hb⟩
  clear HF
  have t1 := HT.out.below hb
  have c0 := TB.cell0 t1
  obtain ⟨x, hx⟩ := get_of_lt hq
  obtain ⟨e0, e1, e2, e3⟩ := t1.cells hx
  have f0 := TB.thaw t1 (q * 4)
  have f1 := TB.thaw t1 (q * 4 + 1)
  have f2 := TB.thaw t1 (q * 4 + 2)
  have f3 := TB.thaw t1 (q * 4 + 3)
  have k1 : Bk w1 w.heap.size 53 [.int .i64 vx, .int .i64 vy] := HK.out.below hb HK.out.lt
  have y0 := k1.cell 0
  have y1 := k1.cell 1
  have HT1 := Lib.hid t1
  have B1 : But g w w1 := But.of_below (bb.trans (hb.mono bb.size))
  have HB1 := Lib.hid B1
  clear t1 hx k1 B1 hb bb
  go_wp2
  go_region
  all_goals go_wp2
  all_goals go_ret
  all_goals refine ⟨rfl, TB.set4 encE_len (TB.drew HT1.out) hq rfl, ?_⟩
  all_goals exact ((((HB1.out.drew).set _ _).set _ _).set _ _).set _ _

set_option maxHeartbeats 1000000 in
theorem putE_full (w : World) (h g : Nat) (l : List (Pl (Int × Int))) (t : TBE w h g l) (a : Int) (ha0 : 0 ≤ a) (ha1 : a ≤ 18446744073709551615) (v : (Int × Int)) (HL : Hid (lookFrom l a l.length (hs l.length a) = (-1, false))) :
    Calls Try.prog 23 #[.pointer (some ⟨h, 0, none⟩), .int .u64 a, .agg #[.int .i64 v.1, .int .i64 v.2]] w fun e w' => e = .returned (.bool false) ∧ Below w.heap.size w w' := by
  have bb : Below w.heap.size w (w.alloc (.cells #[.int .i64 v.1, .int .i64 v.2] 53)) := (Below.refl _ _).alloc (Nat.le_refl _) _
  have HF := Lib.hid (findE_is _ h g l (t.below bb) a ha0 ha1 (-1) false HL)
  clear t
  go_enter Try.func23, Try.ntmps23
  go_wp2_with fail
  (with_reducible refine HF.out.mono ?_); rintro e w1 ⟨rfl, hb⟩
  clear HF
  go_wp2
  go_ret
  exact ⟨rfl, bb.trans (hb.mono bb.size)⟩

end Go.Proofs.Ytokepfgknffdfaa
