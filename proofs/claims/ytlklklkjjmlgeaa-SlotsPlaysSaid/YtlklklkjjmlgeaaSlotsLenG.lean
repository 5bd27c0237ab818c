/- Len of a table lays blocks of its own and turns nothing: in the words of the sort's kit. -/
import Derived.Test.YtlklklkjjmlgeaaSlotsApiI
import Derived.Sort.Grow
import Derived.Shelf.SlSortCmp.QuietGrown
import Derived.LoopTactic
namespace Go.Proofs.Ytlklklkjjmlgeaa
open Go.ChangeShapes Go.WideShapes Go.ChangeAt Go.RowKit Go.Sort
set_option linter.unusedVariables false

theorem below_grow (w : World) (n : Nat) (os : Array Obj) : Below w.heap.size w (grow (w.drewN n) os) := by
  refine ⟨rfl, rfl, rfl, ?_, fun k hk => ?_⟩
  · show w.heap.size ≤ (w.heap ++ os).size
    simp
  · show (w.heap ++ os)[k]? = w.heap[k]?
    rw [Array.getElem?_append_left hk]

theorem below_grow0 (w : World) (os : Array Obj) : Below w.heap.size w (grow w os) := below_grow w 0 os

set_option maxHeartbeats 1000000 in
theorem lenI_grow (w : World) (h g : Nat) (l : List (Pl Int)) (t : TBI w h g l) :
    Calls Try.prog 17 #[.pointer (some ⟨h, 0, none⟩)] w fun e w' => e = .returned (.int .i64 ((conts l).length : Nat)) ∧ ∃ q os', w' = grow (w.drewN q) os' := by
  obtain ⟨n, hn⟩ : ∃ n, l.length = n := ⟨_, rfl⟩
  have n64 : n ≤ 64 := by have := t.2.2.2; omega
  have c0 := TB.cell0 t
  rw [hn] at c0
  have HT := Lib.hid t
  have HN := Lib.hid hn
  clear t hn
  go_enter Try.func17, Try.ntmps17
  go_wp2
  go_loopw [3, 11] (fun x i wr => ∃ k : Nat, k ≤ n ∧ i = .int .i64 k ∧ x = .int .i64 ((conts (l.take k)).length : Nat) ∧ Hid (∃ os, wr = grow w os)) (fun _ i _ => n - (intOf i).toNat)
  case atStart => exact ⟨0, Nat.zero_le _, rfl, rfl, ⟨#[], by rw [grow_empty]⟩⟩
  case round =>
    obtain ⟨k, hk, rfl, rfl, HG⟩ := hrel
    have hb : Below w.heap.size w wr := by obtain ⟨os, e⟩ := HG.out; rw [e]; exact below_grow0 w os
    have HA : ∀ o : Obj, Hid (∃ os, wr.alloc o = grow w os) := fun o => by
      obtain ⟨os, e⟩ := HG.out
      exact ⟨os ++ #[o], by rw [e, alloc_eq_grow, grow_grow]⟩
    by_cases hkn : k < n
    · obtain ⟨x, hx⟩ := get_of_lt (l := l) (i := k) (by rw [HN.out]; exact hkn)
      obtain ⟨e0, e1, e2⟩ := (HT.out.below hb).cells hx
      have hc := conts_take hx
      obtain ⟨m, hm⟩ : ∃ m, (conts (l.take k)).length = m := ⟨_, rfl⟩
      have hm2 : (conts (l.take (k + 1))).length = m + if x.full = true then 1 else 0 := by rw [hc, List.length_append, one_len, hm]
      have mk : m ≤ k := by
        have := conts_le (l.take k)
        rw [List.length_take] at this; omega
      rw [hm]
      have HM := Lib.hid hm2
      clear hc hm hm2
      obtain ⟨xf, xa, xv⟩ := x
      dsimp only at e0 e1 e2
      clear hx
      cases xf with
      | false =>
        go_wp2
        go_roundw
        case rel => exact ⟨k + 1, by omega, by go_num, by rw [HM.out]; rfl, HA _⟩
        case measure => simp [intOf]; omega
      | true =>
        go_wp2
        go_roundw
        case rel => exact ⟨k + 1, by omega, by go_num, by rw [HM.out]; rfl, HA _⟩
        case measure => simp [intOf]; omega
    · have hkn2 : k = n := by omega
      have he : (conts (l.take k)).length = (conts l).length := by rw [List.take_of_length_le (by rw [HN.out]; omega)]
      obtain ⟨m, hm⟩ : ∃ m, (conts (l.take k)).length = m := ⟨_, rfl⟩
      rw [hm]
      rw [hm] at he
      have HE := Lib.hid he
      clear he hm hkn2
      go_wp2
      go_ret
      exact ⟨ret_int (by rw [HE.out]), 0, HG.out⟩

theorem lenI_grows {w : World} {h g n : Nat} {c : List (Int × Int)} (t : HTI w h g n c) (z : Int) (hz : (c.length : Int) = z) :
    Calls Try.prog 17 #[.pointer (some ⟨h, 0, none⟩)] w fun e w' => e = .returned (.int .i64 z) ∧ ∃ q os', w' = grow (w.drewN q) os' := by
  obtain ⟨l, t, o, hn, p⟩ := t
  rw [← hz, ← p.length_eq]
  exact lenI_grow w h g l t

theorem sizeI_grows {w : World} {h g n : Nat} {c : List (Int × Int)} (t : HTI w h g n c) (z : Int) (hz : (n : Int) = z) :
    Calls Try.prog 16 #[.pointer (some ⟨h, 0, none⟩)] w fun e w' => e = .returned (.int .i64 z) ∧ ∃ q os', w' = grow (w.drewN q) os' := by
  rw [← hz]
  exact (sizeI_api t).mono fun e w' ⟨he, hw⟩ => ⟨he, 0, #[], by rw [← hw, grow_empty]; rfl⟩

theorem HTI.grown {w : World} {h g n : Nat} {c : List (Int × Int)} (t : HTI w h g n c) (k : Nat) (os : Array Obj) : HTI (grow (w.drewN k) os) h g n c := t.below (below_grow w k os)

theorem mixed : Try.prog.follows .mixedOrders = true := by kernel_rfl

end Go.Proofs.Ytlklklkjjmlgeaa
