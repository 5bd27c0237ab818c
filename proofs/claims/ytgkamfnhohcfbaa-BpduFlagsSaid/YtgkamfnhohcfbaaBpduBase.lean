/- A Bpdu in a box, its flags, and its bytes, as the program puts them; the document's example. -/
import Derived.Test.YtgkamfnhohcfbaaWirePutB
import Derived.Test.YtgkamfnhohcfbaaWireAppend
namespace Go.Proofs.Ytgkamfnhohcfbaa
open Go.ChangeShapes Go.WideShapes Go.ChangeAt Go.RowKit
set_option linter.unusedVariables false

/-- A Bpdu in a block of its own. -/
def BB (w : World) (g : Nat) (tc ch ak : Bool) (ro co br po ag ma he de : Int) : Prop := Bk w g 28 [.bool tc, .bool ch, .bool ak, .int .u64 ro, .int .u32 co, .int .u64 br, .int .u16 po, .int .u16 ag, .int .u16 ma, .int .u16 he, .int .u16 de]

theorem BB.new (w : World) (tc ch ak : Bool) (ro co br po ag ma he de : Int) : BB (w.alloc (.cells #[.bool tc, .bool ch, .bool ak, .int .u64 ro, .int .u32 co, .int .u64 br, .int .u16 po, .int .u16 ag, .int .u16 ma, .int .u16 he, .int .u16 de] 28)) w.heap.size tc ch ak ro co br po ag ma he de := heap_alloc_new w _

theorem BB.below {w w' : World} {g B : Nat} {tc ch ak : Bool} {ro co br po ag ma he de : Int} (h : BB w g tc ch ak ro co br po ag ma he de) (hb : Below B w w') (hg : g < B) : BB w' g tc ch ak ro co br po ag ma he de := Bk.below h hb hg

theorem BB.cells {w : World} {g : Nat} {tc ch ak : Bool} {ro co br po ag ma he de : Int} (h : BB w g tc ch ak ro co br po ag ma he de) :
    w.cell? ⟨g, 0, none⟩ = some (.bool tc) ∧ w.cell? ⟨g, 1, none⟩ = some (.bool ch) ∧ w.cell? ⟨g, 2, none⟩ = some (.bool ak) ∧ w.cell? ⟨g, 3, none⟩ = some (.int .u64 ro) ∧ w.cell? ⟨g, 4, none⟩ = some (.int .u32 co) ∧ w.cell? ⟨g, 5, none⟩ = some (.int .u64 br) ∧
    w.cell? ⟨g, 6, none⟩ = some (.int .u16 po) ∧ w.cell? ⟨g, 7, none⟩ = some (.int .u16 ag) ∧ w.cell? ⟨g, 8, none⟩ = some (.int .u16 ma) ∧ w.cell? ⟨g, 9, none⟩ = some (.int .u16 he) ∧ w.cell? ⟨g, 10, none⟩ = some (.int .u16 de) :=
  ⟨h.cell 0, h.cell 1, h.cell 2, h.cell 3, h.cell 4, h.cell 5, h.cell 6, h.cell 7, h.cell 8, h.cell 9, h.cell 10⟩

theorem BB.thaws {w : World} {g : Nat} {tc ch ak : Bool} {ro co br po ag ma he de : Int} (h : BB w g tc ch ak ro co br po ag ma he de) :
    w.frozen? ⟨g, 0, none⟩ = false ∧ w.frozen? ⟨g, 1, none⟩ = false ∧ w.frozen? ⟨g, 2, none⟩ = false ∧ w.frozen? ⟨g, 3, none⟩ = false ∧ w.frozen? ⟨g, 4, none⟩ = false ∧ w.frozen? ⟨g, 5, none⟩ = false ∧
    w.frozen? ⟨g, 6, none⟩ = false ∧ w.frozen? ⟨g, 7, none⟩ = false ∧ w.frozen? ⟨g, 8, none⟩ = false ∧ w.frozen? ⟨g, 9, none⟩ = false ∧ w.frozen? ⟨g, 10, none⟩ = false :=
  ⟨h.thaw 0, h.thaw 1, h.thaw 2, h.thaw 3, h.thaw 4, h.thaw 5, h.thaw 6, h.thaw 7, h.thaw 8, h.thaw 9, h.thaw 10⟩

theorem bboxed (w : World) (tc ch ak : Bool) (ro co br po ag ma he de : Int) :
    ∃ w0, BB w0 w.heap.size tc ch ak ro co br po ag ma he de ∧ Below w.heap.size w w0 ∧ w.heap.size < w0.heap.size ∧ w0 = w.alloc (.cells #[.bool tc, .bool ch, .bool ak, .int .u64 ro, .int .u32 co, .int .u64 br, .int .u16 po, .int .u16 ag, .int .u16 ma, .int .u16 he, .int .u16 de] 28) :=
  ⟨_, BB.new w tc ch ak ro co br po ag ma he de, below_new (Nat.le_refl _), by simp, rfl⟩

/-- The numbers of a Bpdu fit their kinds. -/
def BpIn (ro co br po ag ma he de : Int) : Prop :=
  (0 ≤ ro ∧ ro < 18446744073709551616) ∧ (0 ≤ co ∧ co < 4294967296) ∧ (0 ≤ br ∧ br < 18446744073709551616) ∧ (0 ≤ po ∧ po < 65536) ∧ (0 ≤ ag ∧ ag < 65536) ∧ (0 ≤ ma ∧ ma < 65536) ∧ (0 ≤ he ∧ he < 65536) ∧ (0 ≤ de ∧ de < 65536)

/-- The byte of flags. -/
def flI (ch ak : Bool) : Int := (if ch then 1 else 0) + (if ak then 128 else 0)

theorem flI_lo (ch ak : Bool) : 0 ≤ flI ch ak ∧ flI ch ak < 256 := by cases ch <;> cases ak <;> decide

theorem flags_any (tc ch ak : Bool) (ro co br po ag ma he de : Int) (w : World) :
    Calls Try.prog 16 #[.agg #[.bool tc, .bool ch, .bool ak, .int .u64 ro, .int .u32 co, .int .u64 br, .int .u16 po, .int .u16 ag, .int .u16 ma, .int .u16 he, .int .u16 de]] w fun e w' => e = .returned (.int .u8 (flI ch ak)) ∧ Below w.heap.size w w' := by
  cases ch <;> cases ak
  all_goals
    go_enter Try.func16, Try.ntmps16
    go_wp2
    go_ret
    exact ⟨ret_int (by decide), below_new (Nat.le_refl _)⟩

/-- What 'Put' leaves: a block of its own, the bytes. -/
def BPutEnd (l : List UInt8) (n : Nat) (w : World) (e : Ending) (w' : World) : Prop :=
  ∃ g, e = .returned (.slice (some ⟨g, 0, none⟩) n n) ∧ w.heap.size ≤ g ∧ Bk w' g 5 (l.map bc) ∧ l.length = n ∧ Below w.heap.size w w'

/-- A TCN's bytes. -/
def tcnB : List UInt8 := beB 0 3 ++ beB 128 1

theorem put_tcn (ch ak : Bool) (ro co br po ag ma he de : Int) (w : World) :
    Calls Try.prog 9 #[.agg #[.bool true, .bool ch, .bool ak, .int .u64 ro, .int .u32 co, .int .u64 br, .int .u16 po, .int .u16 ag, .int .u16 ma, .int .u16 he, .int .u16 de]] w (BPutEnd tcnB 4 w) := by
  go_enter Try.func9, Try.ntmps9
  go_wp2_with fail
  obtain ⟨w0, hB0, hb0, hs0, hw0⟩ := bboxed w true ch ak ro co br po ag ma he de
  rw [← hw0]
  clear hw0
  (with_reducible refine (put8 none 0 [] 0 0 0 3 3 0 (Lib.hid rfl) (by omega) (by omega) (by omega) (Lib.hid rfl) (by omega) _ (RB.nil _ _ _ _) (Nat.zero_le _)).mono ?_); rintro e w1 ⟨rfl, hP1, hb1⟩
  rw [List.nil_append] at hP1
  have hB1 := hB0.below hb1 hs0
  have hbw1 := below_two hb0 hb1 hb0.size
  have hs1 := Nat.lt_of_lt_of_le hs0 hb1.size
  have hl1 : Hid ((beB 0 3).length = 3) := Lib.hid (beB_len 0 3)
  obtain ⟨c0, c1, c2, c3, c4, c5, c6, c7, c8, c9, c10⟩ := hB1.cells
  go_wp2_with fail
  (with_reducible refine (put8 _ 3 (beB 0 3) 3 0 w1.heap.size 1 1 128 (Lib.hid rfl) (by omega) (by omega) (by omega) hl1 (by omega) _ (hP1.rb 0 w1.heap.size (Nat.zero_le _) hP1.lt) (Nat.le_refl _)).mono ?_); rintro e w2 ⟨rfl, hP2, hb2⟩
  go_wp2
  go_ret
  exact ⟨_, rfl, Nat.le_of_lt hs1, hP2, by decide, below_two hbw1 hb2 hbw1.size⟩

end Go.Proofs.Ytgkamfnhohcfbaa
