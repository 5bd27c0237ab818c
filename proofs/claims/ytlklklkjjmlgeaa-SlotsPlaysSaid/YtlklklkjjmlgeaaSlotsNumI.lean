/- Size, Len, Get and Put of a table. -/
import Derived.Test.YtlklklkjjmlgeaaSlotsFindI
namespace Go.Proofs.Ytlklklkjjmlgeaa
open Go.ChangeShapes Go.WideShapes Go.ChangeAt Go.RowKit
set_option linter.unusedVariables false

theorem sizeI_is (w : World) (h g : Nat) (l : List (Pl Int)) (t : TBI w h g l) :
    Calls Try.prog 16 #[.pointer (some ⟨h, 0, none⟩)] w fun e w' => e = .returned (.int .i64 (l.length : Nat)) ∧ w = w' := by
  have c0 := TB.cell0 t
  have n64 := t.2.2.2
  clear t
  go_enter Try.func16, Try.ntmps16
  go_wp2
  go_ret
  exact ⟨rfl, rfl⟩

set_option maxHeartbeats 1000000 in
theorem lenI_is (w : World) (h g : Nat) (l : List (Pl Int)) (t : TBI w h g l) :
    Calls Try.prog 17 #[.pointer (some ⟨h, 0, none⟩)] w fun e w' => e = .returned (.int .i64 ((conts l).length : Nat)) ∧ Below w.heap.size w w' := by
  obtain ⟨n, hn⟩ : ∃ n, l.length = n := ⟨_, rfl⟩
  have n64 : n ≤ 64 := by have := t.2.2.2; omega
  have c0 := TB.cell0 t
  rw [hn] at c0
  have HT := Lib.hid t
  have HN := Lib.hid hn
  clear t hn
  go_enter Try.func17, Try.ntmps17
  go_wp2
  go_loopw [3, 11] (fun x i wr => ∃ k : Nat, k ≤ n ∧ i = .int .i64 k ∧ x = .int .i64 ((conts (l.take k)).length : Nat) ∧ Below w.heap.size w wr) (fun _ i _ => n - (intOf i).toNat)
  case atStart => exact ⟨0, Nat.zero_le _, rfl, rfl, Below.refl _ _⟩
  case round =>
    obtain ⟨k, hk, rfl, rfl, hb⟩ := hrel
    by_cases hkn : k < n
    · obtain ⟨x, hx⟩ := get_of_lt (l := l) (i := k) (by rw [HN.out]; exact hkn)
      obtain ⟨e0, e1, e2⟩ := (HT.out.below hb).cells hx
      have hc := conts_take hx
      obtain ⟨m, hm⟩ : ∃ m, (conts (l.take k)).length = m := ⟨_, rfl⟩
      have hm2 : (conts (l.take (k + 1))).length = m + if x.full = true then 1 else 0 := by rw [hc, List.length_append, one_len, hm]
      have mk : m ≤ k := by
        have := conts_le (l.take k)
        rw [List.length_take] at this; omega
      rw [hm]
      have HM := Lib.hid hm2
      clear hc hm hm2
      obtain ⟨xf, xa, xv⟩ := x
      dsimp only at e0 e1 e2
      have hsz := hb.size
      clear hx
      cases xf with
      | false =>
        go_wp2
        go_roundw
        case rel => exact ⟨k + 1, by omega, by go_num, by rw [HM.out]; rfl, hb.alloc hsz _⟩
        case measure => simp [intOf]; omega
      | true =>
        go_wp2
        go_roundw
        case rel => exact ⟨k + 1, by omega, by go_num, by rw [HM.out]; rfl, hb.alloc hsz _⟩
        case measure => simp [intOf]; omega
    · have hkn2 : k = n := by omega
      have he : (conts (l.take k)).length = (conts l).length := by rw [List.take_of_length_le (by rw [HN.out]; omega)]
      obtain ⟨m, hm⟩ : ∃ m, (conts (l.take k)).length = m := ⟨_, rfl⟩
      rw [hm]
      rw [hm] at he
      have HE := Lib.hid he
      clear he hm hkn2
      go_wp2
      go_ret
      exact ⟨ret_int (by rw [HE.out]), hb⟩

set_option maxHeartbeats 1000000 in
theorem getI_yes (w : World) (h g : Nat) (l : List (Pl Int)) (t : TBI w h g l) (a : Int) (ha0 : 0 ≤ a) (ha1 : a ≤ 18446744073709551615) (q : Nat) (v : Int) (HL : Hid (lookFrom l a l.length (hs l.length a) = ((q : Int), true)))
    (hx : l[q]? = some ⟨true, a, v⟩) (hq : q < l.length) :
    Calls Try.prog 15 #[.pointer (some ⟨h, 0, none⟩), .int .u64 a] w fun e w' => e = .returned (.tuple #[(.int .i64 v), .bool true]) ∧ Below w.heap.size w w' := by
  have n64 := t.2.2.2
  have HX := Lib.hid hx
  have HT := Lib.hid t
  have HF := Lib.hid (findI_is w h g l t a ha0 ha1 q true HL)
  clear hx t
  go_enter Try.func15, Try.ntmps15
  go_wp2_with fail
  (with_reducible refine HF.out.mono ?_); rintro e w1 ⟨rfl, hb⟩
  clear HF
  have t1 := HT.out.below hb
  have c0 := TB.cell0 t1
  obtain ⟨e0, e1, e2⟩ := t1.cells HX.out
  dsimp only at e0 e1 e2
  clear t1
  go_wp2
  go_ret2
  exact ⟨rfl, hb⟩

set_option maxHeartbeats 1000000 in
theorem getI_no (w : World) (h g : Nat) (l : List (Pl Int)) (t : TBI w h g l) (a : Int) (ha0 : 0 ≤ a) (ha1 : a ≤ 18446744073709551615) (p : Int) (HL : Hid (lookFrom l a l.length (hs l.length a) = (p, false))) :
    Calls Try.prog 15 #[.pointer (some ⟨h, 0, none⟩), .int .u64 a] w fun e w' => e = .returned (.tuple #[.int .i64 0, .bool false]) ∧ Below w.heap.size w w' := by
  have HF := Lib.hid (findI_is w h g l t a ha0 ha1 p false HL)
  clear t
  go_enter Try.func15, Try.ntmps15
  go_wp2_with fail
  (with_reducible refine HF.out.mono ?_); rintro e w1 ⟨rfl, hb⟩
  clear HF
  go_wp2
  go_ret2
  exact ⟨rfl, hb⟩

set_option maxHeartbeats 1000000 in
theorem putI_at (w : World) (h g : Nat) (l : List (Pl Int)) (t : TBI w h g l) (a : Int) (ha0 : 0 ≤ a) (ha1 : a ≤ 18446744073709551615) (v : Int) (q : Nat) (b : Bool) (HL : Hid (lookFrom l a l.length (hs l.length a) = ((q : Int), b))) (hq : q < l.length) :
    Calls Try.prog 14 #[.pointer (some ⟨h, 0, none⟩), .int .u64 a, (.int .i64 v)] w fun e w' => e = .returned (.bool true) ∧ TBI w' h g (l.set q ⟨true, a, v⟩) ∧ But g w w' := by
  have n64 := t.2.2.2
  have hgl := t.lt.2
  have HT := Lib.hid t
  have HF := Lib.hid (findI_is w h g l t a ha0 ha1 q b HL)
  clear t
  go_enter Try.func14, Try.ntmps14
  go_wp2_with fail
  (with_reducible refine HF.out.mono ?_); rintro e w1 ⟨rfl, hb⟩
  clear HF
  have t1 := HT.out.below hb
  have c0 := TB.cell0 t1
  obtain ⟨x, hx⟩ := get_of_lt hq
  obtain ⟨e0, e1, e2⟩ := t1.cells hx
  have f0 := TB.thaw t1 (q * 3)
  have f1 := TB.thaw t1 (q * 3 + 1)
  have f2 := TB.thaw t1 (q * 3 + 2)
  have HT1 := Lib.hid t1
  clear t1 hx
  go_wp2
  go_ret
  refine ⟨rfl, TB.set encI_len HT1.out hq rfl, ?_⟩
  exact (((But.of_below hb).set _ _).set _ _).set _ _

set_option maxHeartbeats 1000000 in
theorem putI_full (w : World) (h g : Nat) (l : List (Pl Int)) (t : TBI w h g l) (a : Int) (ha0 : 0 ≤ a) (ha1 : a ≤ 18446744073709551615) (v : Int) (HL : Hid (lookFrom l a l.length (hs l.length a) = (-1, false))) :
    Calls Try.prog 14 #[.pointer (some ⟨h, 0, none⟩), .int .u64 a, (.int .i64 v)] w fun e w' => e = .returned (.bool false) ∧ Below w.heap.size w w' := by
  have HF := Lib.hid (findI_is w h g l t a ha0 ha1 (-1) false HL)
  clear t
  go_enter Try.func14, Try.ntmps14
  go_wp2_with fail
  (with_reducible refine HF.out.mono ?_); rintro e w1 ⟨rfl, hb⟩
  clear HF
  go_wp2
  go_ret
  exact ⟨rfl, hb⟩

end Go.Proofs.Ytlklklkjjmlgeaa
