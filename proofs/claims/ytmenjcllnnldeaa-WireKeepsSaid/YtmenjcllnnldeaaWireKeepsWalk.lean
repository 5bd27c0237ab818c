/- The law WireKeeps, walked: it answers true, whatever the bytes. -/
import Derived.Test.YtmenjcllnnldeaaWireAppend
import Derived.RegionTactic
import Derived.BigQuiet
import Derived.Deep.QuietTactic
namespace Go.Proofs.Ytmenjcllnnldeaa
open Go.ChangeShapes Go.WideShapes Go.ChangeAt Go.RowKit
set_option linter.unusedVariables false

theorem keeps_long (A : Option Addr) (m c : Nat) (h : 600 < m) (hm : m ≤ 9223372036854775807) (w : World) :
    Calls Try.prog 5 #[.slice A m c] w fun e w' => e = .returned (.bool true) ∧ Below w.heap.size w w' := by
  go_enter Try.func5, Try.ntmps5
  go_wp2_with fail
  (with_reducible refine (awake_any _).mono ?_); rintro e wa ⟨rfl, hba⟩
  go_wp2_with fail
  (with_reducible refine (awake_any _).mono ?_); rintro e wb ⟨rfl, hbb⟩
  go_wp2
  go_ret
  exact ⟨rfl, hba.trans (hbb.mono hba.size)⟩

/-- Of the first 'm' cells each is a byte. -/
def Bytish (cs : List Value) (m : Nat) : Prop := ∀ j, j < m → ∃ z : Int, 0 ≤ z ∧ z < 256 ∧ cs[j]? = some (.int .u8 z)

theorem Bytish.set {cs : List Value} {m : Nat} (h : Bytish cs m) (j : Nat) (v : Int) (h0 : 0 ≤ v) (h1 : v < 256) (hj : j < m) : Bytish (cs.set j (.int .u8 v)) m := by
  intro k hk
  by_cases e : j = k
  · subst e
    obtain ⟨z, _, _, hz⟩ := h j hk
    have hl : j < cs.length := by
      rcases Nat.lt_or_ge j cs.length with q | q
      · exact q
      · rw [List.getElem?_eq_none q] at hz; cases hz
    exact ⟨v, h0, h1, by simp [hl]⟩
  · rw [List.getElem?_set_ne e]
    exact h k hk

theorem bytish_map (l : List UInt8) (sp : List Value) : Bytish (l.map bc ++ sp) l.length := by
  intro j hj
  refine ⟨(l[j].toNat : Int), by omega, by have := l[j].toNat_lt; omega, ?_⟩
  simp [hj, List.getElem?_append_left, bc]

/-- From 'k' on the cells are the bytes of 'l'. -/
def Tail (cs : List Value) (l : List UInt8) (k : Nat) : Prop := cs.length = l.length ∧ ∀ j (h : j < l.length), k ≤ j → cs[j]? = some (bc l[j])

theorem Tail.start (l : List UInt8) : Tail (l.map bc) l 0 := ⟨by simp, fun j h _ => by simp [h]⟩
theorem Tail.step {cs : List Value} {l : List UInt8} {k : Nat} (h : Tail cs l k) (u : Value) : Tail (cs.set k u) l (k + 1) :=
  ⟨by simpa using h.1, fun j hj hk => by rw [List.getElem?_set_ne (by omega)]; exact h.2 j hj (by omega)⟩

theorem Bk.drewN {w : World} {g : Nat} {t : TypeId} {cs : List Value} (h : Bk w g t cs) (n : Nat) : Bk (w.drewN n) g t cs := h
theorem RD.drewN {T : TypeId} {w : World} {lo hi h : Nat} {A : Option Addr} {l : List UInt8} {s : Bool} (r : RD T w lo hi h A l s) (n : Nat) : RD T (w.drewN n) lo hi h A l s := r
theorem below_drawn {B : Nat} {a w : World} (h : Below B a w) (n : Nat) : Below B a (w.drewN n) := ⟨h.os, h.tape, h.output, h.size, h.block⟩

set_option maxRecDepth 100000 in
set_option maxHeartbeats 4000000 in
theorem keeps_short (A : Option Addr) (m c : Nat) (l : List UInt8) (hl : Hid (l.length = m)) (h6 : m ≤ 600) (hmc : m ≤ c) (hnc : Hid (A = none → c = 0)) (w : World) (hr : RB w A 0 w.heap.size l) :
    Calls Try.prog 5 #[.slice A m c] w fun e w' => e = .returned (.bool true) ∧ Below w.heap.size w w' := by
  have d6 : decide (600 < (m : Int)) = false := by simp; omega
  have hdl : l.length ≤ 140737488355328 := by rw [hl.out]; omega
  go_enter Try.func5, Try.ntmps5
  go_wp2_with fail
  (with_reducible refine (awake_any _).mono ?_); rintro e wa ⟨rfl, hba⟩
  have hB : w.heap.size ≤ wa.heap.size := hba.size
  go_wp2_with (at_builtin; refine append_bytes _ rfl (.tmp 18) (.tmp 19) rfl wa.heap.size wa.heap.size 0 0 [] rfl (owns_empty wa 5) A m c 0 w.heap.size l rfl (hr.below (hba.alloc hB _) (Nat.le_refl _)) hl hnc.out (by omega) (by simp) w.heap.size w (hba.alloc hB _) hB ?_; intro g cap w1 hown hb1 hsz1)
  simp only [Nat.zero_add, List.nil_append] at hown
  obtain ⟨hrow, hg, hq⟩ := Row.of_own hown
  clear hq
  have hg1 := hrow.lt
  clear hown
  (with_reducible refine (new_any _ _ l m 0 w1.heap.size hl (by omega) _ (hrow.rb 0 w1.heap.size (Nat.zero_le _) hg1) (Nat.le_refl _)).mono ?_); rintro e w2 ⟨hp, A2, rfl, hR2, hb2⟩
  obtain ⟨sp, hsp, hlc, hbk⟩ := hrow
  have hbk2 := hbk.below hb2 hg1
  obtain ⟨lo, hlo⟩ : ∃ lo, lo = w1.heap.size := ⟨_, rfl⟩
  obtain ⟨hi, hhi⟩ : ∃ hi, hi = w2.heap.size := ⟨_, rfl⟩
  have hbw2 : Below w.heap.size w w2 := below_two hb1 hb2 (Nat.le_trans hB hsz1)
  have hby : Bytish (l.map bc ++ sp) m := by have := bytish_map l sp; rwa [hl.out] at this
  have hglo : g < lo := by rw [hlo]; exact hg1
  have hwg : w.heap.size ≤ g := Nat.le_trans hB hg
  rw [← hlo, ← hhi] at hR2
  have hhi2 : hi ≤ w2.heap.size := by rw [hhi]; exact Nat.le_refl _
  clear hbk hsp hlc hb2 hb1 hsz1 hg1 hlo hhi hba
  go_wp2_with fail
  go_loopw [5] (fun i wr => ∃ (k : Nat) (cs : List Value), k ≤ m ∧ i = .int .i64 k ∧ Bk wr g 5 cs ∧ Bytish cs m ∧ RD 44 wr lo hi hp A2 l false ∧ Below w.heap.size w wr ∧ hi ≤ wr.heap.size)
    (fun i _ => m - (intOf i).toNat)
  case atStart => exact ⟨0, _, Nat.zero_le _, rfl, hbk2, hby, hR2, hbw2, hhi2⟩
  case round =>
    obtain ⟨k, cs, hk, rfl, hB1, hy1, hR, hbl, hhr⟩ := hrel
    clear hR2 hbw2 hhi2 hbk2 hby
    by_cases hlt : k < m
    · obtain ⟨z, z0, z1, hz⟩ := hy1 k hlt
      have hcell : wr.cell? ⟨g, k, none⟩ = some (.int .u8 z) := (hB1.cell k).trans hz
      have hfz := hB1.thaw k
      clear hz
      go_wp2
      go_roundw
      case rel =>
        refine ⟨k + 1, _, by omega, by go_num, hB1.set k _, hy1.set k _ (by omega) (by omega) hlt, hR.set (.inl hglo) _, hbl.setCell hwg _, by simpa [World.setCell] using hhr⟩
      case measure => simp [intOf]; omega
    · obtain rfl : m = k := by omega
      clear hB1 hy1 hlt hk
      go_wp2_with fail
      (with_reducible refine (rest_any _ _ hp _ _ _ _ hR hdl).mono ?_); rintro e w3 ⟨rfl, hB3, hb3⟩
      rw [hl.out]
      obtain ⟨X, hX⟩ : ∃ X, X = wr.heap.size := ⟨_, rfl⟩
      have hR3 := hR.below hb3 hhr
      have hhX : hi ≤ X := by rw [hX]; exact hhr
      have hbl3 : Below w.heap.size w w3 := below_two hbl hb3 hbl.size
      have hwX : w.heap.size ≤ X := by rw [hX]; exact hbl.size
      have hhi3 : hi ≤ w3.heap.size := Nat.le_trans hhr hb3.size
      have hcl : (l.map bc).length = m := by rw [List.length_map, hl.out]
      rw [← hX] at hB3 ⊢
      have HCL := Lib.hid hcl
      clear hR hbl hb3 hX hhr hcl
      go_wp2_with fail
      go_loopw [7] (fun i wr => ∃ (k : Nat) (cs : List Value), k ≤ m ∧ i = .int .i64 k ∧ Bk wr X 5 cs ∧ cs.length = m ∧ RD 44 wr lo hi hp A2 l false ∧ Below w.heap.size w wr ∧ hi ≤ wr.heap.size)
        (fun i _ => m - (intOf i).toNat)
      case atStart => exact ⟨0, _, Nat.zero_le _, rfl, hB3, HCL.out, hR3, hbl3, hhi3⟩
      case round =>
        obtain ⟨k, cs, hk, rfl, hB1, hy1, hR, hbl, hhr⟩ := hrel
        have HY := Lib.hid hy1
        clear hR3 hbl3 hhi3 hB3 hy1
        by_cases hlt : k < m
        · obtain ⟨v, hcell⟩ : ∃ v, wr.cell? ⟨X, k, none⟩ = some v := ⟨_, (hB1.cell k).trans (List.getElem?_eq_getElem (by rw [HY.out]; exact hlt))⟩
          have hfz := hB1.thaw k
          go_wp2
          go_roundw
          case rel => exact ⟨k + 1, _, by omega, by go_num, hB1.set k _, by rw [List.length_set, HY.out], hR.set (.inr hhX) _, hbl.setCell hwX _, by simpa [World.setCell] using hhr⟩
          case measure => simp [intOf]; omega
        · obtain rfl : m = k := by omega
          clear hB1 HY hlt hk
          go_wp2_with fail
          (with_reducible refine (bytes_ok _ _ hp _ l m _ hR hdl (by rw [hl.out]; exact Nat.le_refl _) hhr).mono ?_); rintro e w3 ⟨rfl, hR4, hB4, hb4⟩
          rw [List.take_of_length_le (by rw [hl.out]; exact Nat.le_refl _)] at hB4
          rw [List.drop_eq_nil_of_le (by rw [hl.out]; exact Nat.le_refl _)] at hR4
          obtain ⟨Y, hY⟩ : ∃ Y, Y = wr.heap.size := ⟨_, rfl⟩
          have hhY : hi ≤ Y := by rw [hY]; exact hhr
          have hwY : w.heap.size ≤ Y := by rw [hY]; exact hbl.size
          obtain ⟨A4, hA4⟩ : ∃ A4, A4 = cutA A2 m l.length := ⟨_, rfl⟩
          rw [← hY] at hB4 ⊢
          rw [← hA4] at hR4
          have hbl4 : Below w.heap.size w w3 := hbl.trans (hb4.mono (Nat.le_trans hwg (Nat.le_of_lt hglo)))
          have hhi4 : hi ≤ w3.heap.size := Nat.le_trans hhr hb4.size
          clear hR hbl hb4 hY hhr hA4
          go_wp2_with fail
          go_loopw [9] (fun i wr => ∃ (k : Nat) (cs : List Value), k ≤ m ∧ i = .int .i64 k ∧ Bk wr Y 5 cs ∧ Tail cs l k ∧ RD 44 wr lo hi hp A4 [] false ∧ Below w.heap.size w wr ∧ hi ≤ wr.heap.size)
            (fun i _ => m - (intOf i).toNat)
          case atStart => exact ⟨0, _, Nat.zero_le _, rfl, hB4, Tail.start l, hR4, hbl4, hhi4⟩
          case round =>
            obtain ⟨k, cs, hk, rfl, hB1, hy1, hR, hbl, hhr⟩ := hrel
            clear hR4 hbl4 hhi4 hB4
            by_cases hlt : k < m
            · have hkl : k < l.length := by rw [hl.out]; exact hlt
              obtain ⟨ad, rfl, g1, g2, hc⟩ := hr (by omega)
              obtain ⟨z, hz⟩ : ∃ z : Int, z = (l[k].toNat : Int) := ⟨_, rfl⟩
              have hcb : wr.cell? (ad.add k) = some (.int .u8 z) := by rw [hbl.cell (by rw [add_block]; exact g2), hc k hkl, hz]; rfl
              have hcy : wr.cell? ⟨Y, k, none⟩ = some (.int .u8 z) := by rw [hB1.cell k, hy1.2 k hkl (Nat.le_refl _), hz]; rfl
              have hfz := hB1.thaw k
              have hk0 : (0 : Int) ≤ (k : Int) := by omega
              have hk1 : (k : Int) < (m : Int) := by omega
              clear hz hc hkl
              go_wp2
              go_quiet (fail)
              go_wp2
              go_roundw
              case rel => exact ⟨k + 1, _, by omega, by go_num, (hB1.drewN _).set k _, hy1.step _, (hR.drewN _).set (.inr hhY) _, (below_drawn hbl _).setCell hwY _, by simpa [World.setCell] using hhr⟩
              case measure => simp [intOf]; omega
            · obtain rfl : m = k := by omega
              clear hB1 hy1 hlt hk
              go_wp2_with ((with_reducible refine (rest_any _ _ hp _ _ _ _ hR (by simp)).mono ?_); rintro e w5 ⟨rfl, hB5, hb5⟩)
              go_ret
              exact ⟨rfl, below_two hbl hb5 hbl.size⟩

theorem WireKeeps_walk (a0 : Option Addr) (len0 cap0 : Nat) (z0 : List Int) (w : World) (w0 : IsRow .u8 w a0 len0 cap0 z0) :
    Calls Try.prog 5 #[.slice a0 len0 cap0] w fun e w' => e = .returned (.bool true) ∧ Below w.heap.size w w' := by
  obtain ⟨l, hl, hr, hc, hm⟩ := bytes_in w0
  by_cases h : 600 < len0
  · exact keeps_long _ _ _ h hm w
  · exact keeps_short a0 len0 cap0 l hl (by omega) hc (Lib.hid (none_cap w0)) w hr

end Go.Proofs.Ytmenjcllnnldeaa
