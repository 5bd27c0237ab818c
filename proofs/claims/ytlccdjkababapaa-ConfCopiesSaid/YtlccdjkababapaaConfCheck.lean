/- Check, the document's Check and Port: contracts. -/
import Derived.Test.YtlccdjkababapaaConfRef
import Derived.Test.YtlccdjkababapaaConfIds
import Derived.Test.YtlccdjkababapaaIdsRight
import Derived.LoopTactic
import Derived.Deep.CutBlock
namespace Go.Proofs.Ytlccdjkababapaa
open Go.ChangeShapes Go.WideShapes Go.ChangeAt Go.RowKit
set_option linter.unusedVariables false

/-- A port that may not be. -/
def badB (p : PV) : Bool := !inI p.co 1 65535
def checkI (c : Cf) (L : List PV) : Int :=
  if rightB c.ad = false then 1 else if timesB c = false then 3 else if inI c.ag 10 1000000 = false then 3 else if inI c.tb 0 64 = false then 3 else if c.n = 0 then 8 else if 4 < c.n then 4 else if L.any badB = true then 3 else 0

theorem port_cells {w : World} {a : Option Addr} {B : Nat} {L : List PV} (h : PortsIn w a B L) {k : Nat} {x : PV} (hx : L[k]? = some x) :
    ∃ ad, a = some ad ∧ ad.block < B ∧ (w.cell? (ad.add (k * 3)) = some (.int .u8 x.pr) ∧ w.cell? ⟨(ad.add (k * 3)).block, (ad.add (k * 3)).off + 1, none⟩ = some (.int .u32 x.co) ∧ w.cell? ⟨(ad.add (k * 3)).block, (ad.add (k * 3)).off + 2, none⟩ = some (.bool x.on)) ∧ PB x := by
  obtain ⟨ad, h1, h2, h3, h4, h5, h6⟩ := h k x hx
  refine ⟨ad, h1, h2, ⟨h3, ?_, ?_⟩, h6⟩
  · have e := Go.Proofs.Ytlccdjkababapaa.add_add ad (k * 3) 1
    rw [← e] at h4
    exact h4
  · have e := Go.Proofs.Ytlccdjkababapaa.add_add ad (k * 3) 2
    rw [← e] at h5
    exact h5

theorem pv_at {L : List PV} {k n : Nat} (hL : L.length = n) (h : k < n) : ∃ x, L[k]? = some x := ⟨L[k]'(by omega), List.getElem?_eq_getElem _⟩

theorem any_step {L : List PV} {k : Nat} {x : PV} (hx : L[k]? = some x) (h : (L.take k).any badB = false) (hb : badB x = false) : (L.take (k + 1)).any badB = false := by
  obtain ⟨hk, e⟩ := List.getElem?_eq_some_iff.mp hx
  rw [List.take_succ_eq_append_getElem hk, List.any_append, h, e]
  simp [hb]
theorem any_hit {L : List PV} {k : Nat} {x : PV} (hx : L[k]? = some x) (hb : badB x = true) : L.any badB = true :=
  List.any_eq_true.mpr ⟨x, List.mem_of_getElem? hx, hb⟩

theorem wrong_is (p : PV) (r : Bool) (hr : Hid (inI p.co 1 65535 = r)) (w : World) :
    Calls Try.prog 23 #[.agg #[.int .u8 p.pr, .int .u32 p.co, .bool p.on]] w fun e w' => e = .returned (.bool (!r)) ∧ Below w.heap.size w w' := by
  go_enter Try.func23, Try.ntmps23
  go_wp2_with fail
  (with_reducible refine (port_is p r hr _).mono ?_); rintro e w1 ⟨rfl, b1⟩
  go_wp2
  go_ret
  exact ⟨rfl, ((Below.refl _ _).alloc (Nat.le_refl _) _).trans (b1.mono (by simp))⟩

set_option maxRecDepth 100000 in
set_option maxHeartbeats 1000000 in
theorem index_is (A : Option Addr) (n cap : Nat) (L : List PV) (hL : L.length = n) (hn : n ≤ 200) (w : World) (hp : PortsIn w A w.heap.size L) :
    Calls Try.prog 30 #[.slice A n cap, .func (.func 23) #[] #[]] w
      fun e w' => ∃ r : Int, e = .returned (.int .i64 r) ∧ decide (0 ≤ r) = L.any badB ∧ Below w.heap.size w w' := by
  have HU := Lib.hid hL
  have HA := Lib.hid hp
  clear hL hp
  go_enter Try.func30, Try.ntmps30
  go_wp2
  go_loopw [8] (fun i wr => ∃ k : Nat, k ≤ n ∧ i = .int .i64 k ∧ Hid ((L.take k).any badB = false) ∧ Below w.heap.size w wr) (fun i _ => n - (intOf i).toNat)
  case atStart => exact ⟨0, Nat.zero_le _, rfl, Lib.hid (by simp), Below.refl _ _⟩
  case round =>
    obtain ⟨k, hk, rfl, ha, B⟩ := hrel
    by_cases hkn : k < n
    · obtain ⟨x, hx⟩ := pv_at HU.out hkn
      have HX := Lib.hid hx
      obtain ⟨ad, rfl, hab, ⟨c0, c1, c2⟩, -⟩ := port_cells (HA.out.below B (Nat.le_refl _)) hx
      have hki : (k : Int) < (n : Int) := by omega
      clear hx
      obtain ⟨q, hq⟩ : ∃ q, inI x.co 1 65535 = q := ⟨_, rfl⟩
      have HQ := Lib.hid hq
      clear hq
      cases q with
      | true =>
        go_wp2_with fail
        (with_reducible refine (wrong_is _ _ HQ _).mono ?_); rintro e w1 ⟨rfl, b1⟩
        clear c0 c1 c2
        go_wp2
        go_roundw
        case rel => exact ⟨k + 1, by omega, by go_num, Lib.hid (any_step HX.out ha.out (by unfold badB; rw [HQ.out]; rfl)), B.trans (b1.mono B.size)⟩
        case measure => simp [intOf]; omega
      | false =>
        go_wp2_with fail
        (with_reducible refine (wrong_is _ _ HQ _).mono ?_); rintro e w1 ⟨rfl, b1⟩
        clear c0 c1 c2
        go_wp2
        go_ret
        exact ⟨k, rfl, by rw [any_hit HX.out (by unfold badB; rw [HQ.out]; rfl)]; exact decide_eq_true (by omega), B.trans (b1.mono B.size)⟩
    · go_wp2
      go_ret
      exact ⟨-1, rfl, by have e := ha.out; rw [List.take_of_length_le (by rw [HU.out]; omega)] at e; rw [e]; rfl, B⟩

theorem contains_is (A : Option Addr) (n cap : Nat) (L : List PV) (hL : L.length = n) (hn : n ≤ 200) (r : Bool) (hr : L.any badB = r) (w : World) (hp : PortsIn w A w.heap.size L) :
    Calls Try.prog 22 #[.slice A n cap, .func (.func 23) #[] #[]] w
      fun e w' => e = .returned (.bool r) ∧ Below w.heap.size w w' := by
  have HI := Lib.hid (index_is A n cap L hL hn w hp)
  rw [hr] at HI
  clear hr hp hL
  go_enter Try.func22, Try.ntmps22
  go_wp2_with fail
  (with_reducible refine (HI.out).mono ?_); rintro e w1 ⟨v, rfl, hv, b1⟩
  have hv := Lib.hid hv
  go_wp2
  go_ret
  exact ⟨ret_bool (by rw [← hv.out]), b1⟩

end Go.Proofs.Ytlccdjkababapaa
