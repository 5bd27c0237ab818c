/- The numbers of a bridge and of its ports: Id, PortId, and the document's. -/
import Derived.Test.YtkdbhioneoknjaaConfFew
import Derived.Test.YtkdbhioneoknjaaIdsTwo
import Derived.Deep.RegionHeld3
import Derived.Deep.DeepCutAuto
namespace Go.Proofs.Ytkdbhioneoknjaa
open Go.ChangeShapes Go.WideShapes Go.ChangeAt Go.RowKit
set_option linter.unusedVariables false

def idI (c : Cf) : Int := c.pr * 281474976710656 + c.ad % 281474976710656
def pidI (L : List PV) (i : Int) : Int := if 0 ≤ i then (match L[i.toNat]? with | some p => p.pr * 256 + (i + 1) | none => 0) else 0

theorem pid_neg (L : List PV) {i : Int} (h : i < 0) : pidI L i = 0 := by unfold pidI; rw [if_neg (by omega)]
theorem pid_out (L : List PV) {i : Int} (h : L.length ≤ i) : pidI L i = 0 := by
  unfold pidI
  split
  · rw [List.getElem?_eq_none (by omega)]
  · rfl
theorem pid_at {L : List PV} {k : Nat} {p : PV} (h : L[k]? = some p) : pidI L k = p.pr * 256 + ((k : Int) + 1) := by
  unfold pidI
  rw [if_pos (by omega), Int.toNat_natCast, h]

theorem id_is (c : Cf) (hb : CB c) (w : World) :
    Calls Try.prog 40 #[.agg #[.int .u64 c.ad, .int .u16 c.pr, .int .i64 c.ma, .int .i64 c.he, .int .i64 c.de, .int .i64 c.ag, .int .i64 c.tb, .slice c.A c.n c.cap]] w fun e w' => e = .returned (.int .u64 (idI c)) ∧ Below w.heap.size w w' := by
  have HI := fun W => Lib.hid (bridge_any c.pr c.ad hb.2.1.1 hb.2.1.2 hb.1.1 hb.1.2 W)
  clear hb
  go_enter Try.func40, Try.ntmps40
  go_wp2_with fail
  (with_reducible refine (HI _).out.mono ?_); rintro e w1 ⟨rfl, rfl⟩
  go_wp2
  go_ret
  exact ⟨rfl, (Below.refl _ _).alloc (Nat.le_refl _) _⟩

set_option maxHeartbeats 1000000 in
theorem rid_is (c : Cf) (hb : CB c) (w : World) :
    Calls Try.prog 45 #[.agg #[.int .u64 c.ad, .int .u16 c.pr, .int .i64 c.ma, .int .i64 c.he, .int .i64 c.de, .int .i64 c.ag, .int .i64 c.tb, .slice c.A c.n c.cap]] w fun e w' => e = .returned (.int .u64 (idI c)) ∧ Below w.heap.size w w' := by
  have HI := fun W => Lib.hid (least_any c.ad hb.1.1 hb.1.2 W)
  obtain ⟨⟨a0, a1⟩, ⟨p0, p1⟩, -⟩ := hb
  obtain ⟨wb, hwb, hx, B⟩ := cf_box w c
  obtain ⟨x0, x1, -⟩ := hx.cells
  go_enter Try.func45, Try.ntmps45
  go_upto_region 1 with fail
  clear hwb
  go_region_held3 (fun w' => w'.cell? ⟨w.heap.size, 0, none⟩ = some (.int .u64 c.ad) ∧ w'.cell? ⟨w.heap.size, 1, none⟩ = some (.int .u16 c.pr)) (first | exact ⟨x0, x1⟩ | assumption) ((go_at_call 58; (with_reducible refine (HI _).out.mono ?_); rintro e w1 ⟨rfl, rfl⟩))
  all_goals go_wp2_with fail
  all_goals go_ret
  all_goals exact ⟨ret_int (by unfold idI; simp only [IntKind.wrap_u64]; omega), B.drew⟩

theorem portid_is (c : Cf) (L : List PV) (hL : L.length = c.n) (hf : c.n ≤ 200) (i : Int) (i0 : -9223372036854775808 ≤ i) (i1 : i ≤ 9223372036854775807) (w : World) (hp : PortsIn w c.A w.heap.size L) :
    Calls Try.prog 44 #[.agg #[.int .u64 c.ad, .int .u16 c.pr, .int .i64 c.ma, .int .i64 c.he, .int .i64 c.de, .int .i64 c.ag, .int .i64 c.tb, .slice c.A c.n c.cap], .int .i64 i] w fun e w' => e = .returned (.int .u16 (pidI L i)) ∧ Below w.heap.size w w' := by
  obtain ⟨wb, hwb, hx, B⟩ := cf_box w c
  obtain ⟨-, -, -, -, -, -, -, x7⟩ := hx.cells
  by_cases hn : i < 0
  · rw [pid_neg L hn]
    clear hp hL hf
    go_enter Try.func44, Try.ntmps44
    go_wp2
    go_ret
    exact ⟨rfl, B⟩
  · by_cases hk : (c.n : Int) ≤ i
    · rw [pid_out L (by rw [hL]; exact hk)]
      clear hp hL
      have hn' : 0 ≤ i := by omega
      clear hn
      go_enter Try.func44, Try.ntmps44
      go_wp2
      go_ret
      exact ⟨rfl, B⟩
    · obtain ⟨k, rfl⟩ : ∃ k : Nat, i = k := ⟨i.toNat, by omega⟩
      have hkn : k < c.n := by omega
      obtain ⟨p, hpk⟩ : ∃ p, L[k]? = some p := ⟨L[k]'(by omega), List.getElem?_eq_getElem _⟩
      rw [pid_at hpk]
      obtain ⟨ad, hA, -, y0, -, -, ⟨⟨q0, q1⟩, -⟩⟩ := (hp.below B (Nat.le_refl _)) k p hpk
      have HP := fun W => Lib.hid (port_any p.pr k q0 q1 (by omega) (by omega) W)
      rw [hA] at hwb x7 ⊢
      clear hp hL hpk hn hk i0 i1 hx
      go_enter Try.func44, Try.ntmps44
      go_wp2_with fail
      (with_reducible refine (HP _).out.mono ?_); rintro e w1 ⟨rfl, rfl⟩
      go_wp2
      go_ret
      exact ⟨rfl, B⟩

end Go.Proofs.Ytkdbhioneoknjaa
