/- The law HashRound, walked: it answers true, whatever the places. -/
import Derived.Test.YthpjonedpemhkaaHashNextWalk
import Derived.Test.YthpjonedpemhkaaWireMem
namespace Go.Proofs.Ythpjonedpemhkaa
open Go.ChangeShapes Go.WideShapes Go.ChangeAt Go.RowKit
set_option linter.unusedVariables false

/-- Of the places below 'k' those that are met are at most 'j' behind 'a'. -/
def Met (cs : List Value) (a k : Int) (j : Nat) : Prop := ∀ x : Nat, (x : Int) < k → ∃ b : Bool, cs[x]? = some (.bool b) ∧ (b = true → ((x : Int) - a) % k < j)

theorem Met.start (a k : Int) (h : k ≤ 500) : Met (List.replicate 501 (.bool false)) a k 0 := fun x hx => ⟨false, by rw [List.getElem?_replicate]; rw [if_pos (by omega)], fun h => by cases h⟩

theorem Met.free {cs : List Value} {a k : Int} {j : Nat} (h : Met cs a k j) (y : Nat) (hy : (y : Int) < k) (hj : ((y : Int) - a) % k = j) : cs[y]? = some (.bool false) := by
  obtain ⟨b, hb, hl⟩ := h y hy
  cases b
  · exact hb
  · have := hl rfl
    omega

theorem Met.step {cs : List Value} {a k : Int} {j : Nat} (h : Met cs a k j) (y : Nat) (hy : (y : Int) < k) (hj : ((y : Int) - a) % k = j) : Met (cs.set y (.bool true)) a k (j + 1) := by
  intro x hx
  by_cases e : y = x
  · subst e
    have hl : y < cs.length := by
      rcases Nat.lt_or_ge y cs.length with q | q
      · exact q
      · have := h.free y hy hj
        rw [List.getElem?_eq_none q] at this; cases this
    exact ⟨true, by simp [hl], fun _ => by rw [hj]; omega⟩
  · obtain ⟨b, hb, hl⟩ := h x hx
    exact ⟨b, by rw [List.getElem?_set_ne e]; exact hb, fun e => by have := hl e; omega⟩

set_option maxRecDepth 100000 in
set_option maxHeartbeats 2000000 in
theorem HashRound_walk (a0 : Int) (a1 : Int) (w0 : (Lit.int .u16 a0).wf = true) (w1 : (Lit.int .u16 a1).wf = true) (w : World) :
    Calls Try.prog 5 #[.int .u16 a0, .int .u16 a1] w fun e w' => e = .returned (.bool true) ∧ Below w.heap.size w w' := by
  obtain ⟨p0, p1⟩ := bounds_u16 w0
  obtain ⟨q0, q1⟩ := bounds_u16 w1
  clear w0 w1
  obtain ⟨k, hk⟩ : ∃ k, 1 + a0 % 500 = k := ⟨_, rfl⟩
  have k0 : 1 ≤ k := by omega
  have k1 : k ≤ 500 := by omega
  have kz : ¬ k = 0 := by omega
  obtain ⟨a, ha⟩ : ∃ a, a1.tmod k = a := ⟨_, rfl⟩
  obtain ⟨A0, A1⟩ := mod_bd a1 k k0
  rw [← Int.tmod_eq_emod_of_nonneg q0, ha] at A0 A1
  obtain ⟨cs, hcs⟩ : ∃ cs : List Value, cs = List.replicate 501 (.bool false) := ⟨_, rfl⟩
  have hz : ∀ w, (zeroValue 34).run Try.prog w = .ok (.agg cs.toArray) w := by intro w; rw [hcs]; kernel_rfl
  have hmet : Met cs a k 0 := by rw [hcs]; exact Met.start a k k1
  clear hcs
  go_enter Try.func5, Try.ntmps5
  go_wp2_with fail
  (with_reducible refine (awake_hash _).mono ?_); rintro e w' ⟨rfl, rfl⟩
  go_wp2_with fail
  obtain ⟨g, hg⟩ : ∃ g, w.heap.size = g := ⟨_, rfl⟩
  have hbk : Bk (w.alloc (.cells cs.toArray 34)) g 34 cs := by rw [← hg]; exact heap_alloc_new w _
  have hb0 : Below w.heap.size w (w.alloc (.cells cs.toArray 34)) := (Below.refl _ _).alloc (Nat.le_refl _) _
  have hgb : w.heap.size ≤ g := Nat.le_of_eq hg
  rw [hg]
  clear hg hz
  obtain ⟨W, hW⟩ : ∃ W, w.alloc (.cells cs.toArray 34) = W := ⟨_, rfl⟩
  rw [hW] at hbk hb0 ⊢
  clear hW
  clear hk
  go_loopw [6, 8] (fun t i wr => ∃ (j y : Nat) (cs : List Value), (j : Int) ≤ k ∧ i = .int .i64 j ∧ t = .int .i64 y ∧ (a + j) % k = y ∧ Bk wr g 34 cs ∧ Met cs a k j ∧ Below w.heap.size w wr) (fun _ i _ => k.toNat - (intOf i).toNat)
  case atStart =>
    obtain ⟨n, rfl⟩ : ∃ n : Nat, a = n := ⟨a.toNat, by omega⟩
    exact ⟨0, n, cs, by omega, rfl, rfl, by simp [Int.emod_eq_of_lt A0 A1], hbk, hmet, hb0⟩
  case round =>
    obtain ⟨j, y, cs, hj, rfl, rfl, hy, hB, hM, hb⟩ := hrel
    clear hbk hmet hb0
    obtain ⟨y0, y1⟩ := mod_bd (a + j) k k0
    have hn := next_mod a k j k0
    rw [hy] at y0 y1 hn
    have HY := Lib.hid hy
    have HN := Lib.hid hn
    clear hy hn
    by_cases hlt : (j : Int) < k
    · have hj2 : ((y : Int) - a) % k = j := by
        rw [← HY.out, Int.emod_sub_emod]
        have : a + (j : Int) - a = j := by omega
        rw [this, Int.emod_eq_of_lt (by omega) hlt]
      have hf := hM.free y y1 hj2
      have hM2 := hM.step y y1 hj2
      have hcell : wr.cell? ⟨g, y, none⟩ = some (.bool false) := (hB.cell y).trans hf
      have hfz := hB.thaw y
      clear hf hj2
      have HM := Lib.hid hM2
      clear hM hM2
      go_wp2_with (go_at_call 11; (with_reducible refine (next_any _ _ (by omega) (by omega) (by omega) (by omega) _).mono ?_); rintro e w' ⟨rfl, rfl⟩)
      obtain ⟨z0, z1⟩ := mod_bd (a + (j + 1 : Nat)) k k0
      obtain ⟨z, hz⟩ : ∃ z : Nat, (a + (j + 1 : Nat)) % k = z := ⟨((a + (j + 1 : Nat)) % k).toNat, by omega⟩
      go_roundw
      case rel => exact ⟨j + 1, z, _, by omega, by go_num, by rw [HN.out, hz], hz, hB.set y _, HM.out, hb.setCell hgb _⟩
      case measure => simp [intOf]; omega
    · have e : (j : Int) = k := by omega
      have e2 : (y : Int) = a := by rw [← HY.out, e, Int.add_emod_right, Int.emod_eq_of_lt A0 A1]
      clear hM
      go_wp2_with fail
      go_ret
      exact ⟨rfl, hb⟩

end Go.Proofs.Ythpjonedpemhkaa
