/- The law BpduPuts, walked: it answers true, whatever the Bpdu. -/
import Derived.Test.YtgkamfnhohcfbaaBpduRefPut
import Derived.Deep.RegionWith
import Derived.Deep.DrawnRows
import Derived.Deep.RegionHeld3
namespace Go.Proofs.Ytgkamfnhohcfbaa
open Go.ChangeShapes Go.WideShapes Go.ChangeAt Go.RowKit
set_option linter.unusedVariables false

/-- A Bpdu's bytes, and how many. -/
def bpL (tc ch ak : Bool) (ro co br po ag ma he de : Int) : List UInt8 := if tc then tcnB else bpB ch ak ro co br po ag ma he de
def bpN (tc : Bool) : Nat := if tc then 4 else 35

theorem put_any (tc ch ak : Bool) (ro co br po ag ma he de : Int) (hin : BpIn ro co br po ag ma he de) (w : World) : Calls Try.prog 9 #[.agg #[.bool tc, .bool ch, .bool ak, .int .u64 ro, .int .u32 co, .int .u64 br, .int .u16 po, .int .u16 ag, .int .u16 ma, .int .u16 he, .int .u16 de]] w (BPutEnd (bpL tc ch ak ro co br po ag ma he de) (bpN tc) w) := by
  cases tc
  · exact put_cfg ch ak ro co br po ag ma he de hin w
  · exact put_tcn ch ak ro co br po ag ma he de w

theorem refput_any (tc ch ak : Bool) (ro co br po ag ma he de : Int) (hin : BpIn ro co br po ag ma he de) (w : World) : Calls Try.prog 10 #[.agg #[.bool tc, .bool ch, .bool ak, .int .u64 ro, .int .u32 co, .int .u64 br, .int .u16 po, .int .u16 ag, .int .u16 ma, .int .u16 he, .int .u16 de]] w (RefBPutEnd (bpL tc ch ak ro co br po ag ma he de) (bpN tc) w) := by
  cases tc
  · exact refput_cfg ch ak ro co br po ag ma he de hin w
  · exact refput_tcn ch ak ro co br po ag ma he de w

set_option maxHeartbeats 2000000 in
theorem puts_all (tc ch ak : Bool) (ro co br po ag ma he de : Int) (hin : BpIn ro co br po ag ma he de) (w : World) :
    Calls Try.prog 3 #[.agg #[.bool tc, .bool ch, .bool ak, .int .u64 ro, .int .u32 co, .int .u64 br, .int .u16 po, .int .u16 ag, .int .u16 ma, .int .u16 he, .int .u16 de]] w fun e w' => e = .returned (.bool true) ∧ Below w.heap.size w w' := by
  obtain ⟨l, hl⟩ : ∃ l, l = bpL tc ch ak ro co br po ag ma he de := ⟨_, rfl⟩
  obtain ⟨n, hn⟩ : ∃ n, n = bpN tc := ⟨_, rfl⟩
  have HP := Lib.hid (put_any tc ch ak ro co br po ag ma he de hin)
  have HR := Lib.hid (refput_any tc ch ak ro co br po ag ma he de hin)
  rw [← hl, ← hn] at HP HR
  clear hl hn hin
  go_enter Try.func3, Try.ntmps3
  go_wp2_with fail
  obtain ⟨w0, hB0, hb0, hs0, hw0⟩ := bboxed w tc ch ak ro co br po ag ma he de
  rw [← hw0]
  clear hw0
  (with_reducible refine (awake_any _).mono ?_); rintro e w1 ⟨rfl, hba⟩
  have hB1 := hB0.below hba hs0
  have hbw1 := below_two hb0 hba hb0.size
  have hs1 := Nat.lt_of_lt_of_le hs0 hba.size
  clear hB0 hb0 hba hs0
  obtain ⟨c0, c1, c2, c3, c4, c5, c6, c7, c8, c9, c10⟩ := hB1.cells
  have hBd : BB w1.drew w.heap.size tc ch ak ro co br po ag ma he de := hB1
  have hsd : w.heap.size < w1.drew.heap.size := hs1
  have hbd : Below w.heap.size w w1.drew := hbw1.drew
  go_wp2
  refine wp_region_noPanic ?_
  go_region_held (fun w' => w'.cell? ⟨w.heap.size, 0, none⟩ = some (.bool tc) ∧ w'.cell? ⟨w.heap.size, 1, none⟩ = some (.bool ch) ∧ w'.cell? ⟨w.heap.size, 2, none⟩ = some (.bool ak) ∧ w'.cell? ⟨w.heap.size, 3, none⟩ = some (.int .u64 ro) ∧ w'.cell? ⟨w.heap.size, 4, none⟩ = some (.int .u32 co) ∧ w'.cell? ⟨w.heap.size, 5, none⟩ = some (.int .u64 br) ∧
    w'.cell? ⟨w.heap.size, 6, none⟩ = some (.int .u16 po) ∧ w'.cell? ⟨w.heap.size, 7, none⟩ = some (.int .u16 ag) ∧ w'.cell? ⟨w.heap.size, 8, none⟩ = some (.int .u16 ma) ∧ w'.cell? ⟨w.heap.size, 9, none⟩ = some (.int .u16 he) ∧ w'.cell? ⟨w.heap.size, 10, none⟩ = some (.int .u16 de))
    (first | exact hBd.cells | exact hB4.cells | exact hB5.cells | exact hB6.cells | exact hB7.cells | assumption) (first
    | (go_at_call 9; (with_reducible refine (HP.out _).mono ?_); rintro e w4 ⟨g4, rfl, hg4, hP4, hl4, hb4⟩; have hB4 := hBd.below hb4 hsd; have hbw4 := below_two hbd hb4 hbd.size; have hs4 := Nat.lt_of_lt_of_le hsd hb4.size; have HL4 := Lib.hid hl4; clear hl4; have hcv4 := conv_bk g4 l hP4 n n HL4)
    | (go_at_call 10; (with_reducible refine (HR.out _).mono ?_); rintro e w5 ⟨g5, cap5, rfl, hg5, hrow5, hl5, hb5⟩; have hB5 := hB4.below hb5 hs4; have hbw5 := below_two hbw4 hb5 hbw4.size; have hcv5 := conv_bk g4 l (hP4.below hb5 hP4.lt) n n HL4; have hcr5 := conv_any (hrow5.rb 0 (g5 + 1) (Nat.zero_le _) (Nat.lt_succ_self _)) n cap5 HL4; clear hl5)
    | (go_at_call 10; (with_reducible refine (HR.out _).mono ?_); rintro e w6 ⟨g6, cap6, rfl, hg6, hrow6, hl6, hb6⟩; have hB6 := hBd.below hb6 hsd; have hbw6 := below_two hbd hb6 hbd.size; have hs6 := Nat.lt_of_lt_of_le hsd hb6.size; have HL6 := Lib.hid hl6; clear hl6; have hr6 := hrow6.rb 0 w6.heap.size (Nat.zero_le _) hrow6.lt; have hcr6 := conv_any hr6 n cap6 HL6)
    | (go_at_call 9; (with_reducible refine (HP.out _).mono ?_); rintro e w7 ⟨g7, rfl, hg7, hP7, hl7, hb7⟩; have hB7 := hB6.below hb7 hs6; have hbw7 := below_two hbw6 hb7 hbw6.size; have hcv7 := conv_bk g7 l hP7 n n HL6; have hcr7 := conv_any (hr6.below hb7 (Nat.le_refl _)) n cap6 HL6; clear hl7))
  all_goals refine NoPanic.normal ?_
  all_goals go_wp2
  all_goals go_ret
  all_goals first | exact ⟨rfl, hbw5⟩ | exact ⟨rfl, hbw7⟩

theorem BpduPuts_walk (tc ch ak : Bool) (ro co br po ag ma he de : Int) (w : World) (hin : BpIn ro co br po ag ma he de) :
    Calls Try.prog 3 #[.agg #[.bool tc, .bool ch, .bool ak, .int .u64 ro, .int .u32 co, .int .u64 br, .int .u16 po, .int .u16 ag, .int .u16 ma, .int .u16 he, .int .u16 de]] w fun e w' => e = .returned (.bool true) ∧ Below w.heap.size w w' := puts_all tc ch ak ro co br po ag ma he de hin w

end Go.Proofs.Ytgkamfnhohcfbaa
