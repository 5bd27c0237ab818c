/- The law ConfPorts, walked. -/
import Derived.Test.YtlccdjkababapaaConfRef
import Derived.Test.YtlccdjkababapaaConfIds
import Derived.LoopTactic
import Derived.Deep.DeepCutAuto
import Derived.Deep.RegionHeld3
namespace Go.Proofs.Ytlccdjkababapaa
open Go.ChangeShapes Go.WideShapes Go.ChangeAt Go.RowKit
set_option linter.unusedVariables false

/-- The configuration lies in its box; all that is older lies as it lay. -/
def BX (w : World) (X : Nat) (c : Cf) (wx : World) : Prop := CX wx X c ∧ Below w.heap.size w wx
theorem BX.below {w : World} {X : Nat} {c : Cf} {wx wy : World} (h : BX w X c wx) (hb : Below wx.heap.size wx wy) : BX w X c wy := ⟨h.1.below hb h.1.lt, h.2.trans (hb.mono h.2.size)⟩
theorem BX.drew {w : World} {X : Nat} {c : Cf} {wx : World} (h : BX w X c wx) : BX w X c wx.drew := ⟨h.1.drew, h.2.drew⟩
theorem BX.cells {w : World} {X : Nat} {c : Cf} {wx : World} (h : BX w X c wx) : wx.cell? ⟨X, 0, none⟩ = some (.int .u64 c.ad) ∧ wx.cell? ⟨X, 1, none⟩ = some (.int .u16 c.pr) ∧ wx.cell? ⟨X, 2, none⟩ = some (.int .i64 c.ma) ∧ wx.cell? ⟨X, 3, none⟩ = some (.int .i64 c.he) ∧ wx.cell? ⟨X, 4, none⟩ = some (.int .i64 c.de) ∧ wx.cell? ⟨X, 5, none⟩ = some (.int .i64 c.ag) ∧ wx.cell? ⟨X, 6, none⟩ = some (.int .i64 c.tb) ∧ wx.cell? ⟨X, 7, none⟩ = some (.slice c.A c.n c.cap) := h.1.cells
theorem BX.ports {w : World} {X : Nat} {c : Cf} {wx : World} {L : List PV} (h : BX w X c wx) (hp : PortsIn w c.A w.heap.size L) : PortsIn wx c.A wx.heap.size L := (hp.below h.2 (Nat.le_refl _)).wide h.2.size

theorem pid_bd {w : World} {A : Option Addr} {B : Nat} {L : List PV} (h : PortsIn w A B L) {k : Nat} (hk : k < L.length) : ∃ pr : Int, 0 ≤ pr ∧ pr ≤ 255 ∧ pidI L k = pr * 256 + ((k : Int) + 1) := by
  have hx : L[k]? = some L[k] := List.getElem?_eq_getElem hk
  obtain ⟨_, _, _, _, _, _, ⟨⟨q0, q1⟩, _⟩⟩ := h k _ hx
  exact ⟨_, q0, q1, pid_at hx⟩
theorem pid_not0 {w : World} {A : Option Addr} {B : Nat} {L : List PV} (h : PortsIn w A B L) {k : Nat} (hk : k < L.length) : (pidI L k == 0) = false := by
  obtain ⟨pr, q0, q1, e⟩ := pid_bd h hk
  rw [e, beq_eq_false_iff_ne]
  omega
theorem pid_ne {w : World} {A : Option Addr} {B : Nat} {L : List PV} (h : PortsIn w A B L) (h2 : L.length ≤ 200) {k j : Nat} (hk : k < L.length) (hj : j < k) : (pidI L k == pidI L j) = false := by
  obtain ⟨pr, q0, q1, e⟩ := pid_bd h hk
  obtain ⟨ps, r0, r1, e2⟩ := pid_bd h (show j < L.length by omega)
  rw [e, e2, beq_eq_false_iff_ne]
  omega

set_option maxRecDepth 100000 in
set_option maxHeartbeats 2000000 in
theorem ConfPorts_walk (c : Cf) (L : List PV) (w : World) (hb : CB c) (hL : L.length = c.n) (hc : c.A = none → c.cap = 0) (hp : PortsIn w c.A w.heap.size L) :
    Calls Try.prog 4 #[.agg #[.int .u64 c.ad, .int .u16 c.pr, .int .i64 c.ma, .int .i64 c.he, .int .i64 c.de, .int .i64 c.ag, .int .i64 c.tb, .slice c.A c.n c.cap]] w fun e w' => e = .returned (.bool true) ∧ Below w.heap.size w w' := by
  obtain ⟨wb, hwb, hx, B⟩ := cf_box w c
  have R := Lib.hid (show BX w w.heap.size c wb from ⟨hx, B⟩)
  have hnm : c.n ≤ 9223372036854775807 := hb.2.2.2.2.2.2.2
  have HL := Lib.hid hL
  have HP := Lib.hid hp
  obtain ⟨q, hq⟩ : ∃ q, decide (c.n ≤ 200) = q := ⟨_, rfl⟩
  have HF := fun W => Lib.hid (few_is c hnm W)
  rw [hq] at HF
  have HQ := Lib.hid hq
  clear hb hL hc hp hx B hq
  go_enter Try.func4, Try.ntmps4
  go_upto_region 1 with fail
  clear hwb
  go_wp2_with fail
  (with_reducible refine (awake_conf _).mono ?_); rintro e w1 ⟨rfl, b1⟩
  have R1 := Lib.hid (R.out.below b1)
  clear R b1
  obtain ⟨x0, x1, x2, x3, x4, x5, x6, x7⟩ := R1.out.cells
  go_wp2_with fail
  (with_reducible refine (HF _).out.mono ?_); rintro e w2 ⟨rfl, b2⟩
  have R2 := Lib.hid (R1.out.below b2)
  clear R1 b2 x0 x1 x2 x3 x4 x5 x6 x7
  cases q with
  | false =>
    go_wp2_with fail
    (with_reducible refine (awake_conf _).mono ?_); rintro e w3 ⟨rfl, b3⟩
    go_wp2
    go_ret
    exact ⟨rfl, (R2.out.below b3).2⟩
  | true =>
    have hn : c.n ≤ 200 := of_decide_eq_true HQ.out
    clear HQ HF
    obtain ⟨X, hX⟩ : ∃ X, w.heap.size = X := ⟨_, rfl⟩
    rw [hX] at R2 ⊢
    clear hX
    go_wp2
    go_loopw [3] (fun i wr => ∃ k : Nat, k ≤ c.n ∧ i = .int .i64 k ∧ Hid (BX w X c wr)) (fun i _ => c.n - (intOf i).toNat)
    case atStart => exact ⟨0, Nat.zero_le _, rfl, R2⟩
    case round =>
      clear R2
      obtain ⟨k, hk, rfl, R⟩ := hrel
      obtain ⟨x0, x1, x2, x3, x4, x5, x6, x7⟩ := R.out.cells
      by_cases hkn : k < c.n
      · have hki : (k : Int) < (c.n : Int) := by omega
        have n0 := pid_not0 HP.out (show k < L.length by rw [HL.out]; exact hkn)
        have HK := fun W h => Lib.hid (portid_is c L HL.out hn k (by omega) (by omega) W h)
        go_wp2_with fail
        (with_reducible refine (HK _ (R.out.ports HP.out)).out.mono ?_); rintro e w5 ⟨rfl, b5⟩
        have R5 := Lib.hid (R.out.below b5)
        clear R b5 x0 x1 x2 x3 x4 x5 x6 x7
        go_wp2
        clear n0
        go_loopw [4] (fun i wr => ∃ j : Nat, j ≤ k ∧ i = .int .i64 j ∧ Hid (BX w X c wr)) (fun i _ => k - (intOf i).toNat)
        case atStart => exact ⟨0, Nat.zero_le _, rfl, R5⟩
        case round =>
          clear R5
          obtain ⟨j, hj, rfl, R⟩ := hrel
          by_cases hjk : j < k
          · have hji : (j : Int) < (k : Int) := by omega
            have n1 := pid_ne HP.out (by rw [HL.out]; exact hn) (show k < L.length by rw [HL.out]; exact hkn) hjk
            have HJ := fun W h => Lib.hid (portid_is c L HL.out hn j (by omega) (by omega) W h)
            go_wp2_with fail
            have K0 := Lib.hid R.out.drew.cells
            go_region_held3 (fun w' => w'.cell? ⟨X, 0, none⟩ = some (.int .u64 c.ad) ∧ w'.cell? ⟨X, 1, none⟩ = some (.int .u16 c.pr) ∧ w'.cell? ⟨X, 2, none⟩ = some (.int .i64 c.ma) ∧ w'.cell? ⟨X, 3, none⟩ = some (.int .i64 c.he) ∧ w'.cell? ⟨X, 4, none⟩ = some (.int .i64 c.de) ∧ w'.cell? ⟨X, 5, none⟩ = some (.int .i64 c.ag) ∧ w'.cell? ⟨X, 6, none⟩ = some (.int .i64 c.tb) ∧ w'.cell? ⟨X, 7, none⟩ = some (.slice c.A c.n c.cap)) (first | exact K0.out | exact K6.out | exact K7.out | assumption) (first
              | (go_at_call 17; (with_reducible refine (HK _ (R.out.drew.ports HP.out)).out.mono ?_); rintro e w6 ⟨rfl, b6⟩; have R6 := Lib.hid (R.out.drew.below b6); have K6 := Lib.hid R6.out.cells; clear b6)
              | (go_at_call 17; (with_reducible refine (HJ _ (R6.out.ports HP.out)).out.mono ?_); rintro e w7 ⟨rfl, b7⟩; have R7 := Lib.hid (R6.out.below b7); have K7 := Lib.hid R7.out.cells; clear b7))
            all_goals go_wp2
            all_goals go_roundw
            case rel => exact ⟨j + 1, by omega, by go_num, R7⟩
            case measure => simp [intOf]; omega
          · have hji : ¬ (j : Int) < (k : Int) := by omega
            go_wp2
            go_roundw
            case rel => exact ⟨k + 1, by omega, by go_num, R⟩
            case measure => simp [intOf]; omega
      · have hki : ¬ (k : Int) < (c.n : Int) := by omega
        have HM := fun W h => Lib.hid (portid_is c L HL.out hn (-1) (by omega) (by omega) W h)
        have HE := fun W h => Lib.hid (portid_is c L HL.out hn c.n (by omega) (by omega) W h)
        rw [pid_neg L (by decide)] at HM
        rw [pid_out L (by rw [HL.out]; exact Int.le_refl _)] at HE
        go_wp2_with fail
        (with_reducible refine (HM _ (R.out.ports HP.out)).out.mono ?_); rintro e w5 ⟨rfl, b5⟩
        have R5 := Lib.hid (R.out.below b5)
        clear R b5 x0 x1 x2 x3 x4 x5 x6 x7
        obtain ⟨x0, x1, x2, x3, x4, x5, x6, x7⟩ := R5.out.cells
        go_wp2_with fail
        (with_reducible refine (HE _ (R5.out.ports HP.out)).out.mono ?_); rintro e w6 ⟨rfl, b6⟩
        go_wp2
        go_ret
        exact ⟨rfl, (R5.out.below b6).2⟩

end Go.Proofs.Ytlccdjkababapaa
