/- What Tick and Flush make of an entry: their closures. -/
import Derived.Test.YtokepfgknffdfaaFdbBase
import Derived.RegionTactic
import Derived.BigRegion
import Derived.Deep.DeepCutAuto
import Derived.Lib.MinMax
namespace Go.Proofs.Ytokepfgknffdfaa
open Go.ChangeShapes Go.WideShapes Go.ChangeAt Go.RowKit
set_option linter.unusedVariables false

/-- An age, a tick later. -/
def olderA (a : Int) : Int := min (a + 1) 1073741824

theorem olderA_bd (a : Int) (h0 : 0 ≤ a) : 0 ≤ olderA a ∧ olderA a ≤ 1073741824 := by unfold olderA; omega

/-- What an entry becomes, and whether it stays. -/
def tickN (limit : Int) (v : Int × Int) : (Int × Int) × Bool := ((v.1, olderA v.2), decide (olderA v.2 < limit))
def flushN (port : Int) (v : Int × Int) : (Int × Int) × Bool := (v, !decide (v.1 = port))

/-- What such a closure answers. -/
def NextEnd (W : World) (r : (Int × Int) × Bool) (e : Ending) (W' : World) : Prop :=
  e = .returned (.tuple #[.agg #[.int .i64 r.1.1, .int .i64 r.1.2], .bool r.2]) ∧ Below W.heap.size W W'

set_option maxHeartbeats 1000000 in
theorem tick1_is (W : World) (bl : Nat) (limit : Int) (hc : W.cell? ⟨bl, 0, none⟩ = some (.int .i64 limit)) (v : Int × Int) (h0 : 0 ≤ v.2) (h1 : v.2 ≤ 1073741824) :
    Calls Try.prog 25 #[.agg #[.int .i64 v.1, .int .i64 v.2], .pointer (some ⟨bl, 0, none⟩)] W (NextEnd W (tickN limit v)) := by
  obtain ⟨p, a⟩ := v
  dsimp only at h0 h1 ⊢
  have hlt := block_lt_of_cell hc
  obtain ⟨o, ho⟩ : ∃ o, olderA a = o := ⟨_, rfl⟩
  have hoo : min (a + 1) 1073741824 = o := ho
  have ob := olderA_bd a h0
  rw [ho] at ob
  obtain ⟨d, hd⟩ : ∃ d, decide (o < limit) = d := ⟨_, rfl⟩
  have hr : tickN limit (p, a) = ((p, o), d) := by unfold tickN; dsimp only; rw [ho, hd]
  rw [hr]
  unfold NextEnd
  dsimp only
  have HD := Lib.hid hd
  clear hd hr
  go_enter Try.func25, Try.ntmps25
  go_wp2
  go_region
  all_goals go_wp2
  have hD := HD.out
  exact bodyPost_ret (v := .tuple #[.agg #[.int .i64 p, .int .i64 o], .bool d]) (by simp [results, Try.results25, go_sem, hD]) rfl ⟨rfl, (((Below.refl _ _).alloc (Nat.le_refl _) _).alloc (by simp) _).drew⟩

set_option maxHeartbeats 1000000 in
theorem flush1_is (W : World) (bl : Nat) (port : Int) (hc : W.cell? ⟨bl, 0, none⟩ = some (.int .i64 port)) (v : Int × Int) :
    Calls Try.prog 26 #[.agg #[.int .i64 v.1, .int .i64 v.2], .pointer (some ⟨bl, 0, none⟩)] W (NextEnd W (flushN port v)) := by
  obtain ⟨p, a⟩ := v
  have hlt := block_lt_of_cell hc
  obtain ⟨d, hd⟩ : ∃ d, (!decide (p = port)) = d := ⟨_, rfl⟩
  have hr : flushN port (p, a) = ((p, a), d) := by unfold flushN; dsimp only; rw [hd]
  rw [hr]
  unfold NextEnd
  dsimp only
  have HD := Lib.hid hd
  clear hd hr
  go_enter Try.func26, Try.ntmps26
  go_wp2
  go_region
  all_goals go_wp2
  have hD := HD.out
  exact bodyPost_ret (v := .tuple #[.agg #[.int .i64 p, .int .i64 a], .bool d]) (by simp [results, Try.results26, go_sem, ← hD, bne]; rfl) rfl ⟨rfl, (((Below.refl _ _).alloc (Nat.le_refl _) _).alloc (by simp) _).drew⟩

end Go.Proofs.Ytokepfgknffdfaa
