/- Several texts in one, one behind the other: WirePutB, BpduBase, BpduPut, BpduRefPut, SendMem, SpanNum, SendPure, SendAllPure, SendOncePure, SendRefOut, SendRefTcn, SendRefDet, TreeTwice, HeardPure. -/
import Derived.Test.YtnmnihlhcokjpaaDoorPk01
import Derived.Deep.DeepCutAuto
import Derived.Test.YtnmnihlhcokjpaaDoorPk02
import Derived.Test.YtnmnihlhcokjpaaDoorPk05
import Derived.Test.YtnmnihlhcokjpaaDoorRows
import Derived.Lib.MinMax
import Derived.Test.YtnmnihlhcokjpaaDoorPk03

/- Put of 8 and of 32 bits, and of a bridge's number. -/
namespace Go.Proofs.YtnmnihlhcokjpaaDoor
set_option maxRecDepth 100000
open Go.ChangeShapes Go.WideShapes Go.ChangeAt Go.RowKit
set_option linter.unusedVariables false

theorem put8 (A : Option Addr) (c : Nat) (l : List UInt8) (m lo hi k : Nat) (sz n : Int) (hsz : Hid (sz = k)) (hk : k ≤ 1000) (h0 : 0 ≤ n) (h1 : n < 256) (hn : Hid (l.length = m)) (hm : m ≤ 100000) (w : World) (hr : RB w A lo hi l) (hhi : hi ≤ w.heap.size) :
    Calls Tryd.prog 80 #[.slice A m c, .int .u8 n, .int .i64 sz] w fun e w' => e = .returned (.slice (some ⟨w.heap.size, 0, none⟩) (m + k) (m + k)) ∧ Bk w' w.heap.size 5 ((l ++ beB n k).map bc) ∧ Below w.heap.size w w' := by
  obtain rfl := hsz.out
  obtain rfl := hn.out
  clear hsz hn
  have hmm : min (k : Int) 1000 = (k : Int) := by omega
  have hmk := make_sum l.length k (by omega)
  go_enter Tryd.func80, Tryd.ntmps80
  go_wp2_with (with_reducible refine wpList_copy_splice rfl (.tmp 18) (.tmp 19) 94 94 rfl 5 Tryd.underlying94 Tryd.sizeByte _ _ _ _ _ _ rfl rfl w.heap.size 0 (List.replicate (l.length + k) (Value.int .u8 0)) 5 (heap_alloc_new w _) (l.map bc) (len_min2 l k) (copy_src hr (below_new hhi) _) (fit_front l k) (one_bcs l) w.heap.size w (below_new (Nat.le_refl _)) (Nat.le_refl _) ?_; intro w1 hg hb)
  clear hmm hmk
  go_loopw [8, 24] (fun t i wr => ∃ j : Nat, j ≤ k ∧ i = .int .i64 j ∧ t = .int .u64 (shiftK n j) ∧ Bk wr w.heap.size 5 (rowP l n k j) ∧ Below w.heap.size w wr) (fun _ i _ => k - (intOf i).toNat)
  case atStart => exact ⟨0, Nat.zero_le _, rfl, rfl, by have h := hg.out; rw [rowP_start l n k] at h; exact h, hb⟩
  case round =>
    obtain ⟨j, hj, rfl, rfl, hB, hbl⟩ := hrel
    obtain ⟨q0, q1⟩ := shiftK_lo n h0 (by omega) j
    clear hg hb
    by_cases hlt : j < k
    · obtain ⟨idx, hidx⟩ : ∃ idx : Nat, idx = l.length + k - 1 - j := ⟨_, rfl⟩
      have hil : idx < (rowP l n k j).length := by rw [rowP_len l n k j hj]; omega
      obtain ⟨v, hcell⟩ : ∃ v, wr.cell? ⟨w.heap.size, idx, none⟩ = some v := ⟨_, (hB.cell idx).trans (List.getElem?_eq_getElem hil)⟩
      have hfz := hB.thaw idx
      have hi1 : (l.length : Int) + (k : Int) - 1 - (j : Int) = (idx : Int) := by omega
      have hi2 : idx < l.length + k := by omega
      have HI := Lib.hid hidx
      clear hidx hil
      go_wp2
      go_roundw
      case rel => exact ⟨j + 1, by omega, by go_num, by rw [shiftK_succ], by have h := hB.set idx (.int .u8 (shiftK n j % 256)); rw [HI.out, rowP_step l n k j hlt, ← HI.out] at h; exact h, hbl.setCell (Nat.le_refl _) _⟩
      case measure => simp [intOf]; omega
    · obtain rfl : j = k := by omega
      go_wp2
      go_ret
      refine ⟨rfl, ?_, hbl⟩
      rw [rowP_end] at hB
      exact hB

theorem put32 (A : Option Addr) (c : Nat) (l : List UInt8) (m lo hi k : Nat) (sz n : Int) (hsz : Hid (sz = k)) (hk : k ≤ 1000) (h0 : 0 ≤ n) (h1 : n < 4294967296) (hn : Hid (l.length = m)) (hm : m ≤ 100000) (w : World) (hr : RB w A lo hi l) (hhi : hi ≤ w.heap.size) :
    Calls Tryd.prog 83 #[.slice A m c, .int .u32 n, .int .i64 sz] w fun e w' => e = .returned (.slice (some ⟨w.heap.size, 0, none⟩) (m + k) (m + k)) ∧ Bk w' w.heap.size 5 ((l ++ beB n k).map bc) ∧ Below w.heap.size w w' := by
  obtain rfl := hsz.out
  obtain rfl := hn.out
  clear hsz hn
  have hmm : min (k : Int) 1000 = (k : Int) := by omega
  have hmk := make_sum l.length k (by omega)
  go_enter Tryd.func83, Tryd.ntmps83
  go_wp2_with (with_reducible refine wpList_copy_splice rfl (.tmp 18) (.tmp 19) 94 94 rfl 5 Tryd.underlying94 Tryd.sizeByte _ _ _ _ _ _ rfl rfl w.heap.size 0 (List.replicate (l.length + k) (Value.int .u8 0)) 5 (heap_alloc_new w _) (l.map bc) (len_min2 l k) (copy_src hr (below_new hhi) _) (fit_front l k) (one_bcs l) w.heap.size w (below_new (Nat.le_refl _)) (Nat.le_refl _) ?_; intro w1 hg hb)
  clear hmm hmk
  go_loopw [8, 24] (fun t i wr => ∃ j : Nat, j ≤ k ∧ i = .int .i64 j ∧ t = .int .u64 (shiftK n j) ∧ Bk wr w.heap.size 5 (rowP l n k j) ∧ Below w.heap.size w wr) (fun _ i _ => k - (intOf i).toNat)
  case atStart => exact ⟨0, Nat.zero_le _, rfl, rfl, by have h := hg.out; rw [rowP_start l n k] at h; exact h, hb⟩
  case round =>
    obtain ⟨j, hj, rfl, rfl, hB, hbl⟩ := hrel
    obtain ⟨q0, q1⟩ := shiftK_lo n h0 (by omega) j
    clear hg hb
    by_cases hlt : j < k
    · obtain ⟨idx, hidx⟩ : ∃ idx : Nat, idx = l.length + k - 1 - j := ⟨_, rfl⟩
      have hil : idx < (rowP l n k j).length := by rw [rowP_len l n k j hj]; omega
      obtain ⟨v, hcell⟩ : ∃ v, wr.cell? ⟨w.heap.size, idx, none⟩ = some v := ⟨_, (hB.cell idx).trans (List.getElem?_eq_getElem hil)⟩
      have hfz := hB.thaw idx
      have hi1 : (l.length : Int) + (k : Int) - 1 - (j : Int) = (idx : Int) := by omega
      have hi2 : idx < l.length + k := by omega
      have HI := Lib.hid hidx
      clear hidx hil
      go_wp2
      go_roundw
      case rel => exact ⟨j + 1, by omega, by go_num, by rw [shiftK_succ], by have h := hB.set idx (.int .u8 (shiftK n j % 256)); rw [HI.out, rowP_step l n k j hlt, ← HI.out] at h; exact h, hbl.setCell (Nat.le_refl _) _⟩
      case measure => simp [intOf]; omega
    · obtain rfl : j = k := by omega
      go_wp2
      go_ret
      refine ⟨rfl, ?_, hbl⟩
      rw [rowP_end] at hB
      exact hB

theorem putN (A : Option Addr) (c : Nat) (l : List UInt8) (m lo hi k : Nat) (sz n : Int) (hsz : Hid (sz = k)) (hk : k ≤ 1000) (h0 : 0 ≤ n) (h1 : n < 18446744073709551616) (hn : Hid (l.length = m)) (hm : m ≤ 100000) (w : World) (hr : RB w A lo hi l) (hhi : hi ≤ w.heap.size) :
    Calls Tryd.prog 82 #[.slice A m c, .int .u64 n, .int .i64 sz] w fun e w' => e = .returned (.slice (some ⟨w.heap.size, 0, none⟩) (m + k) (m + k)) ∧ Bk w' w.heap.size 5 ((l ++ beB n k).map bc) ∧ Below w.heap.size w w' := by
  obtain rfl := hsz.out
  obtain rfl := hn.out
  clear hsz hn
  have hmm : min (k : Int) 1000 = (k : Int) := by omega
  have hmk := make_sum l.length k (by omega)
  go_enter Tryd.func82, Tryd.ntmps82
  go_wp2_with (with_reducible refine wpList_copy_splice rfl (.tmp 18) (.tmp 19) 94 94 rfl 5 Tryd.underlying94 Tryd.sizeByte _ _ _ _ _ _ rfl rfl w.heap.size 0 (List.replicate (l.length + k) (Value.int .u8 0)) 5 (heap_alloc_new w _) (l.map bc) (len_min2 l k) (copy_src hr (below_new hhi) _) (fit_front l k) (one_bcs l) w.heap.size w (below_new (Nat.le_refl _)) (Nat.le_refl _) ?_; intro w1 hg hb)
  clear hmm hmk
  go_loopw [8, 23] (fun t i wr => ∃ j : Nat, j ≤ k ∧ i = .int .i64 j ∧ t = .int .u64 (shiftK n j) ∧ Bk wr w.heap.size 5 (rowP l n k j) ∧ Below w.heap.size w wr) (fun _ i _ => k - (intOf i).toNat)
  case atStart => exact ⟨0, Nat.zero_le _, rfl, rfl, by have h := hg.out; rw [rowP_start l n k] at h; exact h, hb⟩
  case round =>
    obtain ⟨j, hj, rfl, rfl, hB, hbl⟩ := hrel
    obtain ⟨q0, q1⟩ := shiftK_lo n h0 (by omega) j
    clear hg hb
    by_cases hlt : j < k
    · obtain ⟨idx, hidx⟩ : ∃ idx : Nat, idx = l.length + k - 1 - j := ⟨_, rfl⟩
      have hil : idx < (rowP l n k j).length := by rw [rowP_len l n k j hj]; omega
      obtain ⟨v, hcell⟩ : ∃ v, wr.cell? ⟨w.heap.size, idx, none⟩ = some v := ⟨_, (hB.cell idx).trans (List.getElem?_eq_getElem hil)⟩
      have hfz := hB.thaw idx
      have hi1 : (l.length : Int) + (k : Int) - 1 - (j : Int) = (idx : Int) := by omega
      have hi2 : idx < l.length + k := by omega
      have HI := Lib.hid hidx
      clear hidx hil
      go_wp2
      go_roundw
      case rel => exact ⟨j + 1, by omega, by go_num, by rw [shiftK_succ], by have h := hB.set idx (.int .u8 (shiftK n j % 256)); rw [HI.out, rowP_step l n k j hlt, ← HI.out] at h; exact h, hbl.setCell (Nat.le_refl _) _⟩
      case measure => simp [intOf]; omega
    · obtain rfl : j = k := by omega
      go_wp2
      go_ret
      refine ⟨rfl, ?_, hbl⟩
      rw [rowP_end] at hB
      exact hB

end Go.Proofs.YtnmnihlhcokjpaaDoor

/- A Bpdu in a box, its flags, and its bytes, as the program puts them; the document's example. -/
namespace Go.Proofs.YtnmnihlhcokjpaaDoor
set_option maxRecDepth 100000
open Go.ChangeShapes Go.WideShapes Go.ChangeAt Go.RowKit
set_option linter.unusedVariables false

/-- A Bpdu in a block of its own. -/
def BB (w : World) (g : Nat) (tc ch ak : Bool) (ro co br po ag ma he de : Int) : Prop := Bk w g 101 [.bool tc, .bool ch, .bool ak, .int .u64 ro, .int .u32 co, .int .u64 br, .int .u16 po, .int .u16 ag, .int .u16 ma, .int .u16 he, .int .u16 de]

theorem BB.new (w : World) (tc ch ak : Bool) (ro co br po ag ma he de : Int) : BB (w.alloc (.cells #[.bool tc, .bool ch, .bool ak, .int .u64 ro, .int .u32 co, .int .u64 br, .int .u16 po, .int .u16 ag, .int .u16 ma, .int .u16 he, .int .u16 de] 101)) w.heap.size tc ch ak ro co br po ag ma he de := heap_alloc_new w _

theorem BB.below {w w' : World} {g B : Nat} {tc ch ak : Bool} {ro co br po ag ma he de : Int} (h : BB w g tc ch ak ro co br po ag ma he de) (hb : Below B w w') (hg : g < B) : BB w' g tc ch ak ro co br po ag ma he de := Bk.below h hb hg

theorem BB.cells {w : World} {g : Nat} {tc ch ak : Bool} {ro co br po ag ma he de : Int} (h : BB w g tc ch ak ro co br po ag ma he de) :
    w.cell? ⟨g, 0, none⟩ = some (.bool tc) ∧ w.cell? ⟨g, 1, none⟩ = some (.bool ch) ∧ w.cell? ⟨g, 2, none⟩ = some (.bool ak) ∧ w.cell? ⟨g, 3, none⟩ = some (.int .u64 ro) ∧ w.cell? ⟨g, 4, none⟩ = some (.int .u32 co) ∧ w.cell? ⟨g, 5, none⟩ = some (.int .u64 br) ∧
    w.cell? ⟨g, 6, none⟩ = some (.int .u16 po) ∧ w.cell? ⟨g, 7, none⟩ = some (.int .u16 ag) ∧ w.cell? ⟨g, 8, none⟩ = some (.int .u16 ma) ∧ w.cell? ⟨g, 9, none⟩ = some (.int .u16 he) ∧ w.cell? ⟨g, 10, none⟩ = some (.int .u16 de) :=
  ⟨h.cell 0, h.cell 1, h.cell 2, h.cell 3, h.cell 4, h.cell 5, h.cell 6, h.cell 7, h.cell 8, h.cell 9, h.cell 10⟩

theorem BB.thaws {w : World} {g : Nat} {tc ch ak : Bool} {ro co br po ag ma he de : Int} (h : BB w g tc ch ak ro co br po ag ma he de) :
    w.frozen? ⟨g, 0, none⟩ = false ∧ w.frozen? ⟨g, 1, none⟩ = false ∧ w.frozen? ⟨g, 2, none⟩ = false ∧ w.frozen? ⟨g, 3, none⟩ = false ∧ w.frozen? ⟨g, 4, none⟩ = false ∧ w.frozen? ⟨g, 5, none⟩ = false ∧
    w.frozen? ⟨g, 6, none⟩ = false ∧ w.frozen? ⟨g, 7, none⟩ = false ∧ w.frozen? ⟨g, 8, none⟩ = false ∧ w.frozen? ⟨g, 9, none⟩ = false ∧ w.frozen? ⟨g, 10, none⟩ = false :=
  ⟨h.thaw 0, h.thaw 1, h.thaw 2, h.thaw 3, h.thaw 4, h.thaw 5, h.thaw 6, h.thaw 7, h.thaw 8, h.thaw 9, h.thaw 10⟩

theorem bboxed (w : World) (tc ch ak : Bool) (ro co br po ag ma he de : Int) :
    ∃ w0, BB w0 w.heap.size tc ch ak ro co br po ag ma he de ∧ Below w.heap.size w w0 ∧ w.heap.size < w0.heap.size ∧ w0 = w.alloc (.cells #[.bool tc, .bool ch, .bool ak, .int .u64 ro, .int .u32 co, .int .u64 br, .int .u16 po, .int .u16 ag, .int .u16 ma, .int .u16 he, .int .u16 de] 101) :=
  ⟨_, BB.new w tc ch ak ro co br po ag ma he de, below_new (Nat.le_refl _), by simp, rfl⟩

/-- The numbers of a Bpdu fit their kinds. -/
def BpIn (ro co br po ag ma he de : Int) : Prop :=
  (0 ≤ ro ∧ ro < 18446744073709551616) ∧ (0 ≤ co ∧ co < 4294967296) ∧ (0 ≤ br ∧ br < 18446744073709551616) ∧ (0 ≤ po ∧ po < 65536) ∧ (0 ≤ ag ∧ ag < 65536) ∧ (0 ≤ ma ∧ ma < 65536) ∧ (0 ≤ he ∧ he < 65536) ∧ (0 ≤ de ∧ de < 65536)

/-- The byte of flags. -/
def flI (ch ak : Bool) : Int := (if ch then 1 else 0) + (if ak then 128 else 0)

theorem flI_lo (ch ak : Bool) : 0 ≤ flI ch ak ∧ flI ch ak < 256 := by cases ch <;> cases ak <;> decide

theorem flags_any (tc ch ak : Bool) (ro co br po ag ma he de : Int) (w : World) :
    Calls Tryd.prog 81 #[.agg #[.bool tc, .bool ch, .bool ak, .int .u64 ro, .int .u32 co, .int .u64 br, .int .u16 po, .int .u16 ag, .int .u16 ma, .int .u16 he, .int .u16 de]] w fun e w' => e = .returned (.int .u8 (flI ch ak)) ∧ Below w.heap.size w w' := by
  cases ch <;> cases ak
  all_goals
    go_enter Tryd.func81, Tryd.ntmps81
    go_wp2
    go_ret
    exact ⟨ret_int (by decide), below_new (Nat.le_refl _)⟩

/-- What 'Put' leaves: a block of its own, the bytes. -/
def BPutEnd (l : List UInt8) (n : Nat) (w : World) (e : Ending) (w' : World) : Prop :=
  ∃ g, e = .returned (.slice (some ⟨g, 0, none⟩) n n) ∧ w.heap.size ≤ g ∧ Bk w' g 5 (l.map bc) ∧ l.length = n ∧ Below w.heap.size w w'

/-- A TCN's bytes. -/
def tcnB : List UInt8 := beB 0 3 ++ beB 128 1

theorem put_tcn (ch ak : Bool) (ro co br po ag ma he de : Int) (w : World) :
    Calls Tryd.prog 73 #[.agg #[.bool true, .bool ch, .bool ak, .int .u64 ro, .int .u32 co, .int .u64 br, .int .u16 po, .int .u16 ag, .int .u16 ma, .int .u16 he, .int .u16 de]] w (BPutEnd tcnB 4 w) := by
  go_enter Tryd.func73, Tryd.ntmps73
  go_wp2_with fail
  obtain ⟨w0, hB0, hb0, hs0, hw0⟩ := bboxed w true ch ak ro co br po ag ma he de
  rw [← hw0]
  clear hw0
  (with_reducible refine (put8 none 0 [] 0 0 0 3 3 0 (Lib.hid rfl) (by omega) (by omega) (by omega) (Lib.hid rfl) (by omega) _ (RB.nil _ _ _ _) (Nat.zero_le _)).mono ?_); rintro e w1 ⟨rfl, hP1, hb1⟩
  rw [List.nil_append] at hP1
  have hB1 := hB0.below hb1 hs0
  have hbw1 := below_two hb0 hb1 hb0.size
  have hs1 := Nat.lt_of_lt_of_le hs0 hb1.size
  have hl1 : Hid ((beB 0 3).length = 3) := Lib.hid (beB_len 0 3)
  obtain ⟨c0, c1, c2, c3, c4, c5, c6, c7, c8, c9, c10⟩ := hB1.cells
  go_wp2_with fail
  (with_reducible refine (put8 _ 3 (beB 0 3) 3 0 w1.heap.size 1 1 128 (Lib.hid rfl) (by omega) (by omega) (by omega) hl1 (by omega) _ (hP1.rb 0 w1.heap.size (Nat.zero_le _) hP1.lt) (Nat.le_refl _)).mono ?_); rintro e w2 ⟨rfl, hP2, hb2⟩
  go_wp2
  go_ret
  exact ⟨_, rfl, Nat.le_of_lt hs1, hP2, by decide, below_two hbw1 hb2 hbw1.size⟩

end Go.Proofs.YtnmnihlhcokjpaaDoor

/- Put of a configuration, and the document's example. -/
namespace Go.Proofs.YtnmnihlhcokjpaaDoor
set_option maxRecDepth 100000
open Go.ChangeShapes Go.WideShapes Go.ChangeAt Go.RowKit
set_option linter.unusedVariables false

/-- The first 25 bytes of a configuration. -/
def bpHead (ch ak : Bool) (ro co br : Int) : List UInt8 := ((((beB 0 3 ++ beB 0 1) ++ beB (flI ch ak) 1) ++ beB ro 8) ++ beB co 4) ++ beB br 8

/-- The first bytes of a configuration, behind so many numbers of two bytes. -/
def bpPre (h : List UInt8) (po ag ma he de : Int) : Nat → List UInt8
  | 0 => h
  | 1 => h ++ beB po 2
  | 2 => (h ++ beB po 2) ++ beB ag 2
  | 3 => ((h ++ beB po 2) ++ beB ag 2) ++ beB ma 2
  | 4 => (((h ++ beB po 2) ++ beB ag 2) ++ beB ma 2) ++ beB he 2
  | _ => ((((h ++ beB po 2) ++ beB ag 2) ++ beB ma 2) ++ beB he 2) ++ beB de 2

/-- A configuration's bytes. -/
def bpB (ch ak : Bool) (ro co br po ag ma he de : Int) : List UInt8 := bpPre (bpHead ch ak ro co br) po ag ma he de 5

theorem bpHead_len (ch ak : Bool) (ro co br : Int) : (bpHead ch ak ro co br).length = 25 := by simp [bpHead, beB_len]

theorem bpB_len (ch ak : Bool) (ro co br po ag ma he de : Int) : (bpB ch ak ro co br po ag ma he de).length = 35 := by simp [bpB, bpPre, bpHead_len, beB_len]

/-- Behind so many rounds. -/
def PW (w : World) (h : List UInt8) (po ag ma he de : Int) (j : Nat) (b : Value) (wr : World) : Prop :=
  ∃ g, b = .slice (some ⟨g, 0, none⟩) (25 + 2 * j) (25 + 2 * j) ∧ w.heap.size ≤ g ∧ Bk wr g 5 ((bpPre h po ag ma he de j).map bc) ∧ Below w.heap.size w wr

theorem put_cfg (ch ak : Bool) (ro co br po ag ma he de : Int) (hin : BpIn ro co br po ag ma he de) (w : World) :
    Calls Tryd.prog 73 #[.agg #[.bool false, .bool ch, .bool ak, .int .u64 ro, .int .u32 co, .int .u64 br, .int .u16 po, .int .u16 ag, .int .u16 ma, .int .u16 he, .int .u16 de]] w (BPutEnd (bpB ch ak ro co br po ag ma he de) 35 w) := by
  obtain ⟨⟨r0, r1⟩, ⟨o0, o1⟩, ⟨b0, b1⟩, ⟨p0, p1⟩, ⟨a0, a1⟩, ⟨m0, m1⟩, ⟨h0, h1⟩, ⟨d0, d1⟩⟩ := hin
  obtain ⟨fl, hfl⟩ : ∃ fl, fl = flI ch ak := ⟨_, rfl⟩
  have fl0 := flI_lo ch ak
  rw [← hfl] at fl0
  obtain ⟨fl0, fl1⟩ := fl0
  have HFL := Lib.hid hfl
  clear hfl
  have ix0 : ∀ w : World, (Instr.index 123 (.agg #[.int .u16 po, .int .u16 ag, .int .u16 ma, .int .u16 he, .int .u16 de]) (.int .i64 0)).run Tryd.prog w = .ok (.int .u16 po) w := fun _ => by kernel_rfl
  have ix1 : ∀ w : World, (Instr.index 123 (.agg #[.int .u16 po, .int .u16 ag, .int .u16 ma, .int .u16 he, .int .u16 de]) (.int .i64 1)).run Tryd.prog w = .ok (.int .u16 ag) w := fun _ => by kernel_rfl
  have ix2 : ∀ w : World, (Instr.index 123 (.agg #[.int .u16 po, .int .u16 ag, .int .u16 ma, .int .u16 he, .int .u16 de]) (.int .i64 2)).run Tryd.prog w = .ok (.int .u16 ma) w := fun _ => by kernel_rfl
  have ix3 : ∀ w : World, (Instr.index 123 (.agg #[.int .u16 po, .int .u16 ag, .int .u16 ma, .int .u16 he, .int .u16 de]) (.int .i64 3)).run Tryd.prog w = .ok (.int .u16 he) w := fun _ => by kernel_rfl
  have ix4 : ∀ w : World, (Instr.index 123 (.agg #[.int .u16 po, .int .u16 ag, .int .u16 ma, .int .u16 he, .int .u16 de]) (.int .i64 4)).run Tryd.prog w = .ok (.int .u16 de) w := fun _ => by kernel_rfl
  go_enter Tryd.func73, Tryd.ntmps73
  go_wp2_with fail
  obtain ⟨w0, hB0, hb0, hs0, hw0⟩ := bboxed w false ch ak ro co br po ag ma he de
  rw [← hw0]
  clear hw0
  (with_reducible refine (put8 none 0 [] 0 0 0 3 3 0 (Lib.hid rfl) (by omega) (by omega) (by omega) (Lib.hid rfl) (by omega) _ (RB.nil _ _ _ _) (Nat.zero_le _)).mono ?_); rintro e w1 ⟨rfl, hP1, hb1⟩
  rw [List.nil_append] at hP1
  have hB1 := hB0.below hb1 hs0
  have hbw1 := below_two hb0 hb1 hb0.size
  have hs1 := Nat.lt_of_lt_of_le hs0 hb1.size
  obtain ⟨l1, hl1⟩ : ∃ l, l = beB 0 3 := ⟨_, rfl⟩
  have hn1 : Hid (l1.length = 3) := by show _ = _; rw [hl1, beB_len]
  rw [← hl1] at hP1
  have HL1 := Lib.hid hl1
  clear hl1 hB0 hb0 hb1 hs0
  obtain ⟨c0, c1, c2, c3, c4, c5, c6, c7, c8, c9, c10⟩ := hB1.cells
  go_wp2_with fail
  (with_reducible refine (put8 _ 3 l1 3 0 w1.heap.size 1 1 0 (Lib.hid rfl) (by omega) (by omega) (by omega) hn1 (by omega) _ (hP1.rb 0 w1.heap.size (Nat.zero_le _) hP1.lt) (Nat.le_refl _)).mono ?_); rintro e w2 ⟨rfl, hP2, hb2⟩
  have hB2 := hB1.below hb2 hs1
  have hbw2 := below_two hbw1 hb2 hbw1.size
  have hs2 := Nat.lt_of_lt_of_le hs1 hb2.size
  obtain ⟨l2, hl2⟩ : ∃ l, l = l1 ++ beB 0 1 := ⟨_, rfl⟩
  have hn2 : Hid (l2.length = 4) := by show _ = _; rw [hl2, List.length_append, hn1.out, beB_len]
  rw [← hl2] at hP2
  have HL2 := Lib.hid hl2
  clear hl2 hB1 hb2 hbw1 hP1 c0 c1 c2 c3 c4 c5 c6 c7 c8 c9 c10
  obtain ⟨c0, c1, c2, c3, c4, c5, c6, c7, c8, c9, c10⟩ := hB2.cells
  go_wp2_with fail
  (with_reducible refine (flags_any false ch ak ro co br po ag ma he de _).mono ?_); rintro e w3 ⟨rfl, hb3⟩
  rw [← HFL.out]
  have hB3 := hB2.below hb3 hs2
  have hbw3 := below_two hbw2 hb3 hbw2.size
  have hs3 := Nat.lt_of_lt_of_le hs2 hb3.size
  have hP3 := hP2.below hb3 hP2.lt
  clear hB2 hb3 hbw2 hP2 c0 c1 c2 c3 c4 c5 c6 c7 c8 c9 c10
  go_wp2_with fail
  (with_reducible refine (put8 _ 4 l2 4 0 w3.heap.size 1 1 fl (Lib.hid rfl) (by omega) fl0 fl1 hn2 (by omega) _ (hP3.rb 0 w3.heap.size (Nat.zero_le _) hP3.lt) (Nat.le_refl _)).mono ?_); rintro e w4 ⟨rfl, hP4, hb4⟩
  have hB4 := hB3.below hb4 hs3
  have hbw4 := below_two hbw3 hb4 hbw3.size
  have hs4 := Nat.lt_of_lt_of_le hs3 hb4.size
  obtain ⟨l4, hl4⟩ : ∃ l, l = l2 ++ beB fl 1 := ⟨_, rfl⟩
  have hn4 : Hid (l4.length = 5) := by show _ = _; rw [hl4, List.length_append, hn2.out, beB_len]
  rw [← hl4] at hP4
  have HL4 := Lib.hid hl4
  clear hl4 hB3 hb4 hbw3 hP3
  obtain ⟨c0, c1, c2, c3, c4, c5, c6, c7, c8, c9, c10⟩ := hB4.cells
  go_wp2_with fail
  (with_reducible refine (putN _ 5 l4 5 0 w4.heap.size 8 8 ro (Lib.hid rfl) (by omega) r0 r1 hn4 (by omega) _ (hP4.rb 0 w4.heap.size (Nat.zero_le _) hP4.lt) (Nat.le_refl _)).mono ?_); rintro e w5 ⟨rfl, hP5, hb5⟩
  have hB5 := hB4.below hb5 hs4
  have hbw5 := below_two hbw4 hb5 hbw4.size
  have hs5 := Nat.lt_of_lt_of_le hs4 hb5.size
  obtain ⟨l5, hl5⟩ : ∃ l, l = l4 ++ beB ro 8 := ⟨_, rfl⟩
  have hn5 : Hid (l5.length = 13) := by show _ = _; rw [hl5, List.length_append, hn4.out, beB_len]
  rw [← hl5] at hP5
  have HL5 := Lib.hid hl5
  clear hl5 hB4 hb5 hbw4 hP4 c0 c1 c2 c3 c4 c5 c6 c7 c8 c9 c10
  obtain ⟨c0, c1, c2, c3, c4, c5, c6, c7, c8, c9, c10⟩ := hB5.cells
  go_wp2_with fail
  (with_reducible refine (put32 _ 13 l5 13 0 w5.heap.size 4 4 co (Lib.hid rfl) (by omega) o0 o1 hn5 (by omega) _ (hP5.rb 0 w5.heap.size (Nat.zero_le _) hP5.lt) (Nat.le_refl _)).mono ?_); rintro e w6 ⟨rfl, hP6, hb6⟩
  have hB6 := hB5.below hb6 hs5
  have hbw6 := below_two hbw5 hb6 hbw5.size
  have hs6 := Nat.lt_of_lt_of_le hs5 hb6.size
  obtain ⟨l6, hl6⟩ : ∃ l, l = l5 ++ beB co 4 := ⟨_, rfl⟩
  have hn6 : Hid (l6.length = 17) := by show _ = _; rw [hl6, List.length_append, hn5.out, beB_len]
  rw [← hl6] at hP6
  have HL6 := Lib.hid hl6
  clear hl6 hB5 hb6 hbw5 hP5 c0 c1 c2 c3 c4 c5 c6 c7 c8 c9 c10
  obtain ⟨c0, c1, c2, c3, c4, c5, c6, c7, c8, c9, c10⟩ := hB6.cells
  go_wp2_with fail
  (with_reducible refine (putN _ 17 l6 17 0 w6.heap.size 8 8 br (Lib.hid rfl) (by omega) b0 b1 hn6 (by omega) _ (hP6.rb 0 w6.heap.size (Nat.zero_le _) hP6.lt) (Nat.le_refl _)).mono ?_); rintro e w7 ⟨rfl, hP7, hb7⟩
  have hB7 := hB6.below hb7 hs6
  have hbw7 := below_two hbw6 hb7 hbw6.size
  have hs7 := Nat.lt_of_lt_of_le hs6 hb7.size
  obtain ⟨l7, hl7⟩ : ∃ l, l = l6 ++ beB br 8 := ⟨_, rfl⟩
  have hn7 : Hid (l7.length = 25) := by show _ = _; rw [hl7, List.length_append, hn6.out, beB_len]
  rw [← hl7] at hP7
  have HL7 := Lib.hid hl7
  clear hl7 hB6 hb7 hbw6 hP6 c0 c1 c2 c3 c4 c5 c6 c7 c8 c9 c10
  obtain ⟨c0, c1, c2, c3, c4, c5, c6, c7, c8, c9, c10⟩ := hB7.cells
  have hH : Hid (bpHead ch ak ro co br = l7) := by show _ = _; rw [HL7.out, HL6.out, HL5.out, HL4.out, HL2.out, HL1.out, HFL.out]; rfl
  have hz6 := Nat.le_of_lt hs6
  go_wp2_with fail
  clear c0 c1 c2 c3 c4 c5 c6 c7 c8 c9 c10
  go_loopw [3, 40] (fun b i wr => ∃ j : Nat, j ≤ 5 ∧ i = .int .i64 j ∧ PW w l7 po ag ma he de j b wr) (fun _ i _ => 5 - (intOf i).toNat)
  case atStart => exact ⟨0, by omega, rfl, _, rfl, hz6, hP7, hbw7⟩
  case round =>
    obtain ⟨j, hj, rfl, g, rfl, hg, hP, hbr⟩ := hrel
    clear hP7 hB7 hbw7 hs7
    match j, hj with
    | 0, _ =>
      obtain ⟨lx, hlx⟩ : ∃ l, l = (l7) := ⟨_, rfl⟩
      have hnx : Hid (lx.length = 25) := by show _ = _; rw [hlx]; first | exact hn7.out | simp [beB_len, hn7.out]
      have hPx : Bk wr g 5 (lx.map bc) := by rw [hlx]; exact hP
      have HLX := Lib.hid hlx
      have hgz := hP.lt
      clear hlx hP
      go_wp2_with fail
      (with_reducible refine (put16 _ 25 lx 25 0 wr.heap.size 2 2 po (Lib.hid rfl) (by omega) p0 p1 hnx (by omega) _ (hPx.rb 0 wr.heap.size (Nat.zero_le _) hgz) (Nat.le_refl _)).mono ?_); rintro e wx ⟨rfl, hPy, hby⟩
      have hbx := below_two hbr hby hbr.size
      have hgx := hbr.size
      clear hPx hbr hby
      go_wp2
      go_roundw
      case rel => exact ⟨1, by omega, by go_num, _, rfl, hgx, by rw [HLX.out] at hPy; exact hPy, hbx⟩
      case measure => simp [intOf]
    | 1, _ =>
      obtain ⟨lx, hlx⟩ : ∃ l, l = (l7 ++ beB po 2) := ⟨_, rfl⟩
      have hnx : Hid (lx.length = 27) := by show _ = _; rw [hlx]; first | exact hn7.out | simp [beB_len, hn7.out]
      have hPx : Bk wr g 5 (lx.map bc) := by rw [hlx]; exact hP
      have HLX := Lib.hid hlx
      have hgz := hP.lt
      clear hlx hP
      go_wp2_with fail
      (with_reducible refine (put16 _ 27 lx 27 0 wr.heap.size 2 2 ag (Lib.hid rfl) (by omega) a0 a1 hnx (by omega) _ (hPx.rb 0 wr.heap.size (Nat.zero_le _) hgz) (Nat.le_refl _)).mono ?_); rintro e wx ⟨rfl, hPy, hby⟩
      have hbx := below_two hbr hby hbr.size
      have hgx := hbr.size
      clear hPx hbr hby
      go_wp2
      go_roundw
      case rel => exact ⟨2, by omega, by go_num, _, rfl, hgx, by rw [HLX.out] at hPy; exact hPy, hbx⟩
      case measure => simp [intOf]
    | 2, _ =>
      obtain ⟨lx, hlx⟩ : ∃ l, l = ((l7 ++ beB po 2) ++ beB ag 2) := ⟨_, rfl⟩
      have hnx : Hid (lx.length = 29) := by show _ = _; rw [hlx]; first | exact hn7.out | simp [beB_len, hn7.out]
      have hPx : Bk wr g 5 (lx.map bc) := by rw [hlx]; exact hP
      have HLX := Lib.hid hlx
      have hgz := hP.lt
      clear hlx hP
      go_wp2_with fail
      (with_reducible refine (put16 _ 29 lx 29 0 wr.heap.size 2 2 ma (Lib.hid rfl) (by omega) m0 m1 hnx (by omega) _ (hPx.rb 0 wr.heap.size (Nat.zero_le _) hgz) (Nat.le_refl _)).mono ?_); rintro e wx ⟨rfl, hPy, hby⟩
      have hbx := below_two hbr hby hbr.size
      have hgx := hbr.size
      clear hPx hbr hby
      go_wp2
      go_roundw
      case rel => exact ⟨3, by omega, by go_num, _, rfl, hgx, by rw [HLX.out] at hPy; exact hPy, hbx⟩
      case measure => simp [intOf]
    | 3, _ =>
      obtain ⟨lx, hlx⟩ : ∃ l, l = (((l7 ++ beB po 2) ++ beB ag 2) ++ beB ma 2) := ⟨_, rfl⟩
      have hnx : Hid (lx.length = 31) := by show _ = _; rw [hlx]; first | exact hn7.out | simp [beB_len, hn7.out]
      have hPx : Bk wr g 5 (lx.map bc) := by rw [hlx]; exact hP
      have HLX := Lib.hid hlx
      have hgz := hP.lt
      clear hlx hP
      go_wp2_with fail
      (with_reducible refine (put16 _ 31 lx 31 0 wr.heap.size 2 2 he (Lib.hid rfl) (by omega) h0 h1 hnx (by omega) _ (hPx.rb 0 wr.heap.size (Nat.zero_le _) hgz) (Nat.le_refl _)).mono ?_); rintro e wx ⟨rfl, hPy, hby⟩
      have hbx := below_two hbr hby hbr.size
      have hgx := hbr.size
      clear hPx hbr hby
      go_wp2
      go_roundw
      case rel => exact ⟨4, by omega, by go_num, _, rfl, hgx, by rw [HLX.out] at hPy; exact hPy, hbx⟩
      case measure => simp [intOf]
    | 4, _ =>
      obtain ⟨lx, hlx⟩ : ∃ l, l = ((((l7 ++ beB po 2) ++ beB ag 2) ++ beB ma 2) ++ beB he 2) := ⟨_, rfl⟩
      have hnx : Hid (lx.length = 33) := by show _ = _; rw [hlx]; first | exact hn7.out | simp [beB_len, hn7.out]
      have hPx : Bk wr g 5 (lx.map bc) := by rw [hlx]; exact hP
      have HLX := Lib.hid hlx
      have hgz := hP.lt
      clear hlx hP
      go_wp2_with fail
      (with_reducible refine (put16 _ 33 lx 33 0 wr.heap.size 2 2 de (Lib.hid rfl) (by omega) d0 d1 hnx (by omega) _ (hPx.rb 0 wr.heap.size (Nat.zero_le _) hgz) (Nat.le_refl _)).mono ?_); rintro e wx ⟨rfl, hPy, hby⟩
      have hbx := below_two hbr hby hbr.size
      have hgx := hbr.size
      clear hPx hbr hby
      go_wp2
      go_roundw
      case rel => exact ⟨5, by omega, by go_num, _, rfl, hgx, by rw [HLX.out] at hPy; exact hPy, hbx⟩
      case measure => simp [intOf]
    | 5, _ =>
      go_wp2
      go_ret
      exact ⟨g, rfl, hg, by unfold bpB; rw [hH.out]; exact hP, bpB_len ch ak ro co br po ag ma he de, hbr⟩

end Go.Proofs.YtnmnihlhcokjpaaDoor

/- The document's bytes of numbers and of a Bpdu: the same. -/
namespace Go.Proofs.YtnmnihlhcokjpaaDoor
set_option maxRecDepth 100000
open Go.ChangeShapes Go.WideShapes Go.ChangeAt Go.RowKit
set_option linter.unusedVariables false

/-- What the document's 'Put' of a number leaves: a row of the call's own. -/
def RPut (n : Int) (k : Nat) (w : World) (e : Ending) (w' : World) : Prop :=
  ∃ v, e = .returned v ∧ w'.ownsRow w.heap.size 5 1 v k ((beB n k).map bc) ∧ Below w.heap.size w w'

/-- The same where there are bytes. -/
def RPutS (n : Int) (k : Nat) (w : World) (e : Ending) (w' : World) : Prop :=
  ∃ g c, e = .returned (.slice (some ⟨g, 0, none⟩) k c) ∧ RB w' (some ⟨g, 0, none⟩) 0 w'.heap.size (beB n k) ∧ Below w.heap.size w w'

/-- What the document's 'Put' leaves. -/
def RefBPutEnd (l : List UInt8) (n : Nat) (w : World) (e : Ending) (w' : World) : Prop :=
  ∃ g c, e = .returned (.slice (some ⟨g, 0, none⟩) n c) ∧ w.heap.size ≤ g ∧ Row w' g c l ∧ l.length = n ∧ Below w.heap.size w w'

end Go.Proofs.YtnmnihlhcokjpaaDoor

/- What goes out: a Bpdu under a name, its bytes; an Out's row; Outs in memory. -/
namespace Go.Proofs.YtnmnihlhcokjpaaDoor
set_option maxRecDepth 100000
open Go.ChangeShapes Go.WideShapes Go.ChangeAt Go.RowKit
set_option linter.unusedVariables false

/-- Boxes, where all below a block stays. -/
theorem Hs.under {w wx wy : World} {l : List (Nat × TypeId × List Value)} {B : Nat} (h : Hs w l wx) (b : Below B wx wy) (hl : ∀ x ∈ l, x.1 < B) (hB : w.heap.size ≤ B) : Hs w l wy := by
  have h' := hs_iff.1 h
  exact hs_iff.2 ⟨fun x hx => ⟨Bk.below (h'.1 x hx).1 b (hl x hx), (h'.1 x hx).2⟩, h'.2.1, h.old.trans (b.mono hB)⟩

/-- A Bpdu. -/
structure Bq where
  tc : Bool
  ch : Bool
  ak : Bool
  ro : Int
  co : Int
  br : Int
  po : Int
  ag : Int
  ma : Int
  he : Int
  de : Int
def lB (x : Bq) : List Value := [.bool x.tc, .bool x.ch, .bool x.ak, .int .u64 x.ro, .int .u32 x.co, .int .u64 x.br, .int .u16 x.po, .int .u16 x.ag, .int .u16 x.ma, .int .u16 x.he, .int .u16 x.de]
def BqIn (x : Bq) : Prop := BpIn x.ro x.co x.br x.po x.ag x.ma x.he x.de
def tcnQ : Bq := ⟨true, false, false, 0, 0, 0, 0, 0, 0, 0, 0⟩
/-- Its bytes, and how many. -/
def bqB (x : Bq) : List UInt8 := if x.tc = true then tcnB else bpB x.ch x.ak x.ro x.co x.br x.po x.ag x.ma x.he x.de
def bqN (x : Bq) : Nat := if x.tc = true then 4 else 35
theorem bqB_len (x : Bq) : (bqB x).length = bqN x := by
  unfold bqB bqN
  split
  · decide
  · exact bpB_len _ _ _ _ _ _ _ _ _ _
theorem bqN_le (x : Bq) : bqN x ≤ 35 := by unfold bqN; split <;> omega
theorem bq_put (x : Bq) (hin : BqIn x) (w : World) : Calls Tryd.prog 73 #[.agg (lB x).toArray] w (BPutEnd (bqB x) (bqN x) w) := by
  obtain ⟨tc, ch, ak, ro, co, br, po, ag, ma, he, de⟩ := x
  cases tc with
  | true => exact put_tcn ch ak ro co br po ag ma he de w
  | false => exact put_cfg ch ak ro co br po ag ma he de hin w
/-- What goes out by a port: the port, the sender, the Bpdu. -/
structure Ou where
  i : Int
  fr : Int
  x : Bq
/-- The frame's data. -/
def ouB (o : Ou) : List UInt8 := 66 :: 66 :: 3 :: bqB o.x
def ouN (o : Ou) : Nat := 3 + bqN o.x
theorem ouB_len (o : Ou) : (ouB o).length = ouN o := by
  unfold ouB ouN
  simp only [List.length_cons, bqB_len]
  omega
/-- An Out, where its data lies in block g. -/
structure Oc where
  o : Ou
  g : Nat
  cap : Nat
def lO (c : Oc) : List Value := [.int .i64 c.o.i, .int .u64 1652522221568, .int .u64 c.o.fr, .int .u16 (ouN c.o), .slice (some ⟨c.g, 0, none⟩) (ouN c.o) c.cap]
theorem lO_len (c : Oc) : (lO c).length = 5 := rfl
theorem lO_one (c : Oc) : (lO c).all (·.oneCell') = true := rfl
/-- Its data lies there. -/
def OcAt (w : World) (B : Nat) (c : Oc) : Prop := B ≤ c.g ∧ Row w c.g c.cap (ouB c.o)
theorem OcAt.below {w w' : World} {B : Nat} {c : Oc} (h : OcAt w B c) (b : Below w.heap.size w w') : OcAt w' B c := ⟨h.1, h.2.below b h.2.lt⟩

/-- What Out hands out. -/
def OutEnd (w : World) (o : Ou) (e : Ending) (w' : World) : Prop := ∃ g cap, e = .returned (.agg (lO ⟨o, g, cap⟩).toArray) ∧ OcAt w' w.heap.size ⟨o, g, cap⟩ ∧ Below w.heap.size w w'

end Go.Proofs.YtnmnihlhcokjpaaDoor

/- Times: contracts of the functions of span and of the document's answers, for every argument. -/
namespace Go.Proofs.YtnmnihlhcokjpaaDoor
set_option maxRecDepth 100000
open Go.ChangeShapes Go.WideShapes Go.ChangeAt Go.RowKit
set_option linter.unusedVariables false

/-- Whole seconds, and begun ones. -/
def floorI (t : Int) : Int := max t 0 / 256
def ceilI (t : Int) : Int := (max t 0 + 255) / 256
def olderI (t : Int) : Int := cutI (cutI t + 256)

theorem field_any (t : Int) (h0 : -9223372036854775808 ≤ t) (h1 : t ≤ 9223372036854775807) (w : World) :
    Calls Tryd.prog 79 #[.int .i64 t] w fun e w' => e = .returned (.int .u16 (cutI t)) ∧ w = w' := by
  obtain ⟨b0, b1⟩ := cutI_bd t
  go_enter Tryd.func79, Tryd.ntmps79
  go_wp2_with (go_at_call 52; (with_reducible refine (cut_any _ h0 h1 _).mono ?_); rintro e w' ⟨rfl, rfl⟩)
  go_ret
  exact ⟨rfl, rfl⟩

theorem older_any (t : Int) (h0 : -9223372036854775808 ≤ t) (h1 : t ≤ 9223372036854775807) (w : World) :
    Calls Tryd.prog 78 #[.int .i64 t] w fun e w' => e = .returned (.int .i64 (olderI t)) ∧ w = w' := by
  obtain ⟨b0, b1⟩ := cutI_bd t
  go_enter Tryd.func78, Tryd.ntmps78
  go_wp2_with (go_at_call 52; (with_reducible refine (cut_any _ (by omega) (by omega) _).mono ?_); rintro e w' ⟨rfl, rfl⟩)
  go_ret
  exact ⟨rfl, rfl⟩

end Go.Proofs.YtnmnihlhcokjpaaDoor

/- What a port tells, and what becomes of the view: no program but what an Out's row is. -/
namespace Go.Proofs.YtnmnihlhcokjpaaDoor
set_option maxRecDepth 100000
open Go.ChangeShapes Go.WideShapes Go.ChangeAt Go.RowKit
set_option linter.unusedVariables false

/-- The Age that is told. -/
def toldI (t : Th) (L : List Po) : Int := if t.ro = t.ow then 0 else if 0 ≤ t.rp then (match L[t.rp.toNat]? with | some p => olderI p.av | none => 0) else 0
theorem toldI_bd (t : Th) (L : List Po) : 0 ≤ toldI t L ∧ toldI t L ≤ 65535 := by
  unfold toldI
  split
  · omega
  · split
    · split
      · exact cutI_bd _
      · omega
    · omega
/-- The configuration. -/
def confQ (t : Th) (a : Int) (p : Po) : Bq := ⟨false, t.ch, p.ak, t.ro, t.co, t.ow, p.id, cutI a, cutI t.n1, cutI t.n2, cutI t.n3⟩
def sentP (p : Po) : Po := { p with ak := false, pe := false, ho := true, hv := 0 }
def owingP (p : Po) : Po := { p with pe := true }
/-- A port told: its view's ports, and what goes out. -/
def confR (t : Th) (L : List Po) (i : Int) : List Po × List Ou :=
  if 0 ≤ i then (match L[i.toNat]? with
    | none => (L, [])
    | some p => if p.ho = true then (L.set i.toNat (owingP p), []) else if t.n1 ≤ toldI t L then (L, []) else (L.set i.toNat (sentP p), [⟨i, t.ow % 281474976710656, confQ t (toldI t L) p⟩]))
  else (L, [])
theorem confR_neg {t : Th} {L : List Po} {i : Int} (h : i < 0) : confR t L i = (L, []) := by unfold confR; rw [if_neg (by omega)]
theorem confR_out {t : Th} {L : List Po} {i : Int} (h : L.length ≤ i) : confR t L i = (L, []) := by
  unfold confR
  split
  · rw [List.getElem?_eq_none (by omega)]
  · rfl
theorem confR_at {t : Th} {L : List Po} {k : Nat} {p : Po} (h : L[k]? = some p) : confR t L k = if p.ho = true then (L.set k (owingP p), []) else if t.n1 ≤ toldI t L then (L, []) else (L.set k (sentP p), [⟨k, t.ow % 281474976710656, confQ t (toldI t L) p⟩]) := by
  unfold confR
  rw [if_pos (by omega), Int.toNat_natCast, h]

/-- Outs in a row of the call's own, their data in blocks of the call's own. -/
def OutsR (w : World) (base : Nat) (v : Value) (M : List Ou) : Prop := ∃ C : List Oc, C.map (·.o) = M ∧ OwnL lO 5 98 w base v C ∧ ∀ c ∈ C, OcAt w base c
theorem OutsR.nil (w : World) (base : Nat) : OutsR w base (.slice none 0 0) [] := ⟨[], rfl, OwnL.nil _ _ _, fun c h => by cases h⟩
theorem OutsR.below {w w' : World} {base : Nat} {v : Value} {M : List Ou} (h : OutsR w base v M) (b : Below w.heap.size w w') : OutsR w' base v M := by
  obtain ⟨C, h1, h2, h3⟩ := h
  exact ⟨C, h1, h2.below b, fun c hc => (h3 c hc).below b⟩
theorem OutsR.heap {w w' : World} {base : Nat} {v : Value} {M : List Ou} (h : OutsR w base v M) (hh : ∀ k, base ≤ k → w'.heap[k]? = w.heap[k]?) : OutsR w' base v M := by
  obtain ⟨C, h1, h2, h3⟩ := h
  refine ⟨C, h1, ⟨h2.1, h2.2.imp id ?_⟩, fun c hc => ?_⟩
  · rintro ⟨g, cap', cur, hv, hg, e, r⟩
    exact ⟨g, cap', cur, hv, hg, (hh g hg).trans e, r⟩
  · obtain ⟨hg, sp, y1, y2, y3⟩ := h3 c hc
    exact ⟨hg, sp, y1, y2, (hh c.g hg).trans y3⟩
theorem OutsR.mono {w : World} {base base' : Nat} {v : Value} {M : List Ou} (h : OutsR w base v M) (hb : base' ≤ base) : OutsR w base' v M := by
  obtain ⟨C, h1, h2, h3⟩ := h
  exact ⟨C, h1, h2.mono hb, fun c hc => ⟨Nat.le_trans hb (h3 c hc).1, (h3 c hc).2⟩⟩
/-- What telling hands out. -/
def ConfEnd (w : World) (t : Th) (n : Nat) (R : List Po × List Ou) (e : Ending) (w' : World) : Prop :=
  ∃ D cap v, e = .returned (.tuple #[.agg (lT t D n cap).toArray, v]) ∧ (D = none → cap = 0) ∧ TS w [] D R.1 w' ∧ OutsR w' w.heap.size v R.2

end Go.Proofs.YtnmnihlhcokjpaaDoor

/- All designated ports tell, one behind the other: no program. -/
namespace Go.Proofs.YtnmnihlhcokjpaaDoor
set_option maxRecDepth 100000
open Go.ChangeShapes Go.WideShapes Go.ChangeAt Go.RowKit
set_option linter.unusedVariables false

theorem confR_len (t : Th) (L : List Po) (i : Int) : (confR t L i).1.length = L.length := by
  unfold confR
  split
  · split
    · rfl
    · split
      · exact List.length_set ..
      · split
        · rfl
        · exact List.length_set ..
  · rfl
theorem confR_few (t : Th) (L : List Po) (i : Int) : (confR t L i).2.length ≤ 1 := by
  unfold confR
  split
  · split
    · simp
    · split
      · simp
      · split <;> simp
  · simp
theorem confR_bd {t : Th} {L : List Po} (hb : ∀ x ∈ L, PoB x) (i : Int) : ∀ x ∈ (confR t L i).1, PoB x := by
  unfold confR
  split
  · split
    · exact hb
    · rename_i p hp
      have hP := hb p (List.mem_of_getElem? hp)
      split
      · intro x hx
        rcases List.mem_or_eq_of_mem_set hx with q | rfl
        · exact hb x q
        · exact hP
      · split
        · exact hb
        · intro x hx
          rcases List.mem_or_eq_of_mem_set hx with q | rfl
          · exact hb x q
          · unfold PoB sentP at *
            dsimp only at *
            omega
  · exact hb

/-- Does a port tell? -/
def tellsB (t : Th) (p : Po) : Bool := decide (p.hb = t.ow) && (decide (p.hp = p.id) && !decide (p.st = 0))
def allStep (t : Th) (s : List Po × List Ou) (i : Nat) : List Po × List Ou := match s.1[i]? with
  | some p => if tellsB t p = true then ((confR t s.1 i).1, s.2 ++ (confR t s.1 i).2) else s
  | none => s
/-- The first k have told. -/
def allR (t : Th) (L : List Po) : Nat → List Po × List Ou
  | 0 => (L, [])
  | k + 1 => allStep t (allR t L k) k
theorem allStep_yes {t : Th} {s : List Po × List Ou} {i : Nat} {p : Po} (h : s.1[i]? = some p) (hp : tellsB t p = true) : allStep t s i = ((confR t s.1 i).1, s.2 ++ (confR t s.1 i).2) := by unfold allStep; rw [h]; simp only [hp, if_true]
theorem allStep_no {t : Th} {s : List Po × List Ou} {i : Nat} {p : Po} (h : s.1[i]? = some p) (hp : tellsB t p = false) : allStep t s i = s := by unfold allStep; rw [h]; simp [hp]
theorem allStep_bd (t : Th) (s : List Po × List Ou) (i : Nat) (hb : ∀ x ∈ s.1, PoB x) : (allStep t s i).1.length = s.1.length ∧ (allStep t s i).2.length ≤ s.2.length + 1 ∧ ∀ x ∈ (allStep t s i).1, PoB x := by
  unfold allStep
  split
  · split
    · refine ⟨confR_len _ _ _, ?_, confR_bd hb _⟩
      rw [List.length_append]
      have := confR_few t s.1 i
      omega
    · exact ⟨rfl, Nat.le_succ _, hb⟩
  · exact ⟨rfl, Nat.le_succ _, hb⟩
theorem allR_bd {t : Th} {L : List Po} (hb : ∀ x ∈ L, PoB x) : ∀ k, (allR t L k).1.length = L.length ∧ (allR t L k).2.length ≤ k ∧ ∀ x ∈ (allR t L k).1, PoB x
  | 0 => ⟨rfl, Nat.zero_le _, hb⟩
  | k + 1 => by
    obtain ⟨h1, h2, h3⟩ := allR_bd hb k
    obtain ⟨g1, g2, g3⟩ := allStep_bd t (allR t L k) k h3
    exact ⟨g1.trans h1, by show (allStep t (allR t L k) k).2.length ≤ _; omega, g3⟩

/-- What telling by all hands out. -/
def AllEnd (w : World) (t : Th) (n : Nat) (R : List Po × List Ou) (e : Ending) (w' : World) : Prop :=
  ∃ D cap v, e = .returned (.tuple #[.agg (lT t D n cap).toArray, v]) ∧ (D = none → cap = 0) ∧ PoAt w' D w'.heap.size R.1 ∧ OutsR w' w.heap.size v R.2 ∧ Below w.heap.size w w'

end Go.Proofs.YtnmnihlhcokjpaaDoor

/- All designated ports tell: port by port; what goes out, in the order of the ports; told again at once. No program. -/
namespace Go.Proofs.YtnmnihlhcokjpaaDoor
set_option maxRecDepth 100000
open Go.ChangeShapes Go.WideShapes Go.ChangeAt Go.RowKit
set_option linter.unusedVariables false

/-- What becomes of a port, where what is told is of the age a. -/
def stepP (t : Th) (a : Int) (p : Po) : Po := if tellsB t p = true then (if p.ho = true then owingP p else if t.n1 ≤ a then p else sentP p) else p
theorem stepP_av (t : Th) (a : Int) (p : Po) : (stepP t a p).av = p.av := by
  unfold stepP
  split
  · split
    · rfl
    · split <;> rfl
  · rfl
theorem toldI_av {t : Th} {L L' : List Po} (h : ∀ j : Nat, (L'[j]?).map Po.av = (L[j]?).map Po.av) : toldI t L' = toldI t L := by
  unfold toldI
  split
  · rfl
  · split
    · have e := h t.rp.toNat
      cases h1 : L[t.rp.toNat]? with
      | none => cases h2 : L'[t.rp.toNat]? with
        | none => rfl
        | some y => rw [h1, h2] at e; cases e
      | some x => cases h2 : L'[t.rp.toNat]? with
        | none => rw [h1, h2] at e; cases e
        | some y =>
          rw [h1, h2] at e
          have e' : y.av = x.av := Option.some.inj e
          show olderI y.av = olderI x.av
          rw [e']
    · rfl
theorem mixL_av (t : Th) (a : Int) (k : Nat) (L : List Po) (j : Nat) : ((mixL (fun _ p => stepP t a p) k L)[j]?).map Po.av = (L[j]?).map Po.av := by
  rw [mixL_get]
  cases L[j]? with
  | none => rfl
  | some x =>
    show some _ = some _
    dsimp only
    split
    · rw [stepP_av]
    · rfl
theorem allR_fst (t : Th) (L : List Po) : ∀ k, (allR t L k).1 = mixL (fun _ p => stepP t (toldI t L) p) k L
  | 0 => (mixL_zero _ _).symm
  | k + 1 => by
    have ih := allR_fst t L k
    show (allStep t (allR t L k) k).1 = _
    cases hk : L[k]? with
    | none =>
      have e : (allR t L k).1[k]? = none := by rw [ih, mixL_get, hk]; rfl
      unfold allStep
      rw [e]
      show (allR t L k).1 = _
      rw [ih]
      apply List.ext_getElem?
      intro j
      rw [mixL_get, mixL_get]
      by_cases hj : j = k
      · subst hj; rw [hk]; rfl
      · by_cases hl : j < k
        · simp only [hl, show j < k + 1 by omega]
        · simp only [hl, show ¬ j < k + 1 by omega]
    | some p =>
      have e : (allR t L k).1[k]? = some p := by rw [ih]; exact mixL_at hk
      cases ht : tellsB t p with
      | false =>
        rw [allStep_no e ht, ih]
        exact mixL_same hk (by unfold stepP; rw [ht]; rfl)
      | true =>
        rw [allStep_yes e ht]
        show (confR t (allR t L k).1 k).1 = _
        have ha : toldI t (allR t L k).1 = toldI t L := toldI_av (by rw [ih]; exact mixL_av t _ k L)
        rw [confR_at e, ha]
        by_cases h1 : p.ho = true
        · have hf : stepP t (toldI t L) p = owingP p := by unfold stepP; rw [if_pos ht, if_pos h1]
          rw [if_pos h1, ← mixL_set hk, ih, hf]
        · rw [if_neg h1]
          by_cases h2 : t.n1 ≤ toldI t L
          · have hf : stepP t (toldI t L) p = p := by unfold stepP; rw [if_pos ht, if_neg h1, if_pos h2]
            rw [if_pos h2, ih]
            exact mixL_same hk hf
          · have hf : stepP t (toldI t L) p = sentP p := by unfold stepP; rw [if_pos ht, if_neg h1, if_neg h2]
            rw [if_neg h2, ← mixL_set hk, ih, hf]
theorem allR_told (t : Th) (L : List Po) (k : Nat) : toldI t (allR t L k).1 = toldI t L := toldI_av (by rw [allR_fst]; exact mixL_av t _ k L)
end Go.Proofs.YtnmnihlhcokjpaaDoor

/- The document's Out: contract. -/
namespace Go.Proofs.YtnmnihlhcokjpaaDoor
set_option maxRecDepth 100000
open Go.ChangeShapes Go.WideShapes Go.ChangeAt Go.RowKit
set_option linter.unusedVariables false

end Go.Proofs.YtnmnihlhcokjpaaDoor

/- The document's Tcn: contract. -/
namespace Go.Proofs.YtnmnihlhcokjpaaDoor
set_option maxRecDepth 100000
open Go.ChangeShapes Go.WideShapes Go.ChangeAt Go.RowKit
set_option linter.unusedVariables false
set_option linter.unusedSimpArgs false

/-- The TCN that goes out by the port to the root. -/
def tcnR (t : Th) (n : Nat) : List Ou := if 0 ≤ t.rp ∧ t.rp < n then [⟨t.rp, t.ow % 281474976710656, tcnQ⟩] else []
def OutsEnd (w : World) (M : List Ou) (e : Ending) (w' : World) : Prop := ∃ v, e = .returned v ∧ OutsR w' w.heap.size v M ∧ Below w.heap.size w w'
/-- One Out, just laid in a row. -/
theorem outs_one {w w' : World} {c : Oc} (hb : w.heap.size ≤ w'.heap.size) (h : OcAt w' w.heap.size c) : OutsR (w'.alloc (.cells (lO c).toArray 98)) w.heap.size (.slice (some ⟨w'.heap.size, 0, none⟩) 1 1) [c.o] :=
  ⟨[c], rfl, ⟨rfl, .inr ⟨w'.heap.size, 1, (lO c).toArray, rfl, hb, heap_alloc_new _ _, Nat.le_refl _, by decide, rfl, rfl⟩⟩, fun d hd => by obtain rfl := List.mem_singleton.1 hd; exact h.below (new_below _ _)⟩

end Go.Proofs.YtnmnihlhcokjpaaDoor

/- The document's Detect: contract. -/
namespace Go.Proofs.YtnmnihlhcokjpaaDoor
set_option maxRecDepth 100000
open Go.ChangeShapes Go.WideShapes Go.ChangeAt Go.RowKit
set_option linter.unusedVariables false
set_option linter.unusedSimpArgs false

/-- The view when a change is detected, and what goes out. -/
def detT (t : Th) : Th := if t.ro = t.ow then { t with de := true, ch := true, zo := true, zv := 0 } else if t.de = true then t else { t with de := true, xo := true, xv := 0 }
def detO (t : Th) (n : Nat) : List Ou := if t.ro = t.ow then [] else if t.de = true then [] else tcnR t n
def DetEnd (w : World) (t : Th) (A : Option Addr) (n cap : Nat) (e : Ending) (w' : World) : Prop := ∃ v, e = .returned (.tuple #[.agg (lT (detT t) A n cap).toArray, v]) ∧ OutsR w' w.heap.size v (detO t n) ∧ Below w.heap.size w w'
end Go.Proofs.YtnmnihlhcokjpaaDoor

/- Behind an Update: what holds of a view, and that doing it twice changes nothing; behind States: no memory. -/
namespace Go.Proofs.YtnmnihlhcokjpaaDoor
set_option maxRecDepth 100000
set_option linter.unusedVariables false

/-- Costs that all configurations, and all that is heard, have. -/
def CostB (p : Po) : Prop := 1 ≤ p.co ∧ p.co ≤ 65535 ∧ 0 ≤ p.hc ∧ p.hc < 2147483648

theorem desB_become (t : Th) (p : Po) : desB (becomeP t p) t.ow = true := by simp [desB, becomeP]
theorem desP_yes {t : Th} {p : Po} (h : takesB t p = true) : desP t p = becomeP t p := by unfold desP; rw [if_pos h]
theorem desP_no {t : Th} {p : Po} (h : takesB t p = false) : desP t p = p := by unfold desP; rw [if_neg (by rw [h]; decide)]
theorem desP_id (t : Th) (p : Po) : (desP t p).id = p.id := by
  cases h : takesB t p with
  | false => rw [desP_no h]
  | true => rw [desP_yes h]; rfl
theorem may_parts {p : Po} {o : Int} (h : mayB p o = true) : desB p o = false ∧ p.st ≠ 0 ∧ p.hr < o := by
  unfold mayB at h
  simp only [Bool.and_eq_true, Bool.not_eq_true', decide_eq_true_eq] at h
  exact h
theorem may_of {p : Po} {o : Int} (h1 : desB p o = false) (h2 : p.st ≠ 0) (h3 : p.hr < o) : mayB p o = true := by
  unfold mayB
  simp only [Bool.and_eq_true, Bool.not_eq_true', decide_eq_true_eq]
  exact ⟨h1, h2, h3⟩
theorem may_des {p : Po} {o : Int} (h : desB p o = true) : mayB p o = false := by unfold mayB; rw [h]; rfl

/-- What Select finds. -/
theorem sel_cases (t : Th) (L : List Po) :
    (bst t.ow L L.length = none ∧ selectT t L = { t with rp := -1, ro := t.ow, co := 0 } ∧ ∀ (i : Nat) p, L[i]? = some p → mayB p t.ow = false) ∨
    (∃ (j : Nat) (p : Po), L[j]? = some p ∧ bst t.ow L L.length = some j ∧ selectT t L = { t with rp := (j : Int), ro := p.hr, co := farI p.hc p.co } ∧ mayB p t.ow = true ∧ Top t.ow L L.length j) := by
  have hb := bst_spec t.ow L L.length
  revert hb
  cases e : bst t.ow L L.length with
  | none =>
    intro hb
    exact .inl ⟨rfl, by unfold selectT; rw [e]; rfl, fun i p hp => hb i (po_lt hp) p hp⟩
  | some j =>
    intro hb
    obtain ⟨hj, hT⟩ := hb
    have hT' := hT
    obtain ⟨p, h1, h2, _⟩ := hT'
    exact .inr ⟨j, p, h1, rfl, by unfold selectT; rw [e]; simp only [selT, h1], h2, hT⟩

theorem upd_least {t : Th} {L : List Po} {i : Nat} {x : Po} (hx : L[i]? = some x) (h1 : x.st ≠ 0) (h2 : desB x t.ow = false) : ¬ x.hr < (selectT t L).ro := by
  intro h3
  rcases sel_cases t L with ⟨_, e, hn⟩ | ⟨j, p, hj, _, e, hm, hT⟩
  · rw [e] at h3
    have := hn i x hx
    rw [may_of h2 h1 h3] at this
    cases this
  · rw [e] at h3
    have h3' : x.hr < p.hr := h3
    obtain ⟨m1, m2, m3⟩ := may_parts hm
    have hmx := may_of h2 h1 (show x.hr < t.ow by omega)
    obtain ⟨p0, q1, q2, q3⟩ := hT
    rw [hj] at q1
    cases q1
    by_cases hij : i = j
    · subst hij
      rw [hj] at hx
      cases hx
      omega
    · have := q3 i (po_lt hx) hij x hx hmx
      rw [← Bool.not_eq_true, betterB_iff] at this
      exact this (.inl h3')
theorem sel_ow (t : Th) (L : List Po) : (selectT t L).ow = t.ow := by
  rcases sel_cases t L with ⟨_, e, _⟩ | ⟨j, p, _, _, e, _⟩ <;> rw [e]

/-- Behind States. -/
def foreB (t : Th) (j : Nat) (y : Po) : Bool := decide ((j : Int) = t.rp) || desB y t.ow
theorem rise_parts (p : Po) : (riseP p).id = p.id ∧ (riseP p).hb = p.hb ∧ (riseP p).hp = p.hp ∧ (riseP p).ak = p.ak ∧ (riseP p).pe = p.pe ∧ (riseP p).ao = p.ao ∧ (riseP p).av = p.av ∧ (riseP p).st ≠ 1 ∧ ((riseP p).st = 0 ↔ p.st = 0) := by
  unfold riseP
  split
  · rename_i h
    refine ⟨rfl, rfl, rfl, rfl, rfl, rfl, rfl, by (show ¬ (2 : Int) = 1; decide), ?_⟩
    show (2 : Int) = 0 ↔ _
    omega
  · rename_i h
    exact ⟨rfl, rfl, rfl, rfl, rfl, rfl, rfl, h, Iff.rfl⟩
theorem rise_twice {p : Po} (h : p.st ≠ 1) : riseP p = p := by unfold riseP; rw [if_neg h]
theorem block_parts (p : Po) : (blockP p).1.id = p.id ∧ (blockP p).1.hb = p.hb ∧ (blockP p).1.hp = p.hp ∧ (blockP p).1.ak = p.ak ∧ (blockP p).1.pe = p.pe ∧ ((blockP p).1.st = 0 ∨ (blockP p).1.st = 1) ∧ ((blockP p).1.st = 0 ↔ p.st = 0) := by
  unfold blockP
  split
  · rename_i h
    exact ⟨rfl, rfl, rfl, rfl, rfl, h, Iff.rfl⟩
  · rename_i h
    refine ⟨rfl, rfl, rfl, rfl, rfl, .inr rfl, ?_⟩
    simp only
    omega
theorem block_twice {p : Po} (h : p.st = 0 ∨ p.st = 1) : blockP p = (p, false) := by unfold blockP; rw [if_pos h]
theorem owes_twice {p : Po} (h : p.ak = false) (h' : p.pe = false) : owesP p = p := by cases p; simp_all [owesP]
theorem rest_twice {p : Po} (h : p.ao = false) (h' : p.av = 0) : restP p = p := by cases p; simp_all [restP]
theorem desB_keep {p q : Po} {o : Int} (h1 : q.id = p.id) (h2 : q.hb = p.hb) (h3 : q.hp = p.hp) : desB q o = desB p o := by unfold desB; rw [h1, h2, h3]
theorem st_all (t : Th) (j : Nat) (y : Po) :
    desB (stP t j y).1 t.ow = desB y t.ow ∧ ((stP t j y).1.st = 0 ↔ y.st = 0) ∧ ((stP t j y).1.st ≠ 0 → ((stP t j y).1.st = 1 ↔ foreB t j y = false)) ∧ (foreB t j y = false → (stP t j y).1.pe = false ∧ (stP t j y).1.ak = false) ∧ stP t j (stP t j y).1 = ((stP t j y).1, false) := by
  unfold stP foreB
  by_cases h : (j : Int) = t.rp
  · simp only [h, if_true, decide_true, Bool.true_or]
    obtain ⟨a1, a2, a3, a4, a5, a6, a7, a8, a9⟩ := rise_parts (owesP y)
    refine ⟨desB_keep a1 a2 a3, a9, fun _ => ⟨fun e => absurd e a8, (fun e => by cases e)⟩, (fun e => by cases e), ?_⟩
    rw [owes_twice a4 a5, rise_twice a8]
  · simp only [h, if_false, decide_false, Bool.false_or]
    cases d : desB y t.ow with
    | true =>
      obtain ⟨a1, a2, a3, a4, a5, a6, a7, a8, a9⟩ := rise_parts (restP y)
      have hd : desB (riseP (restP y)) t.ow = true := (desB_keep a1 a2 a3).trans d
      simp only [if_true]
      refine ⟨hd, a9, fun _ => ⟨fun e => absurd e a8, (fun e => by cases e)⟩, (fun e => by cases e), ?_⟩
      rw [hd, if_pos rfl, rest_twice a6 a7, rise_twice a8]
    | false =>
      obtain ⟨a1, a2, a3, a4, a5, a6, a7⟩ := block_parts (owesP y)
      have hd : desB (blockP (owesP y)).1 t.ow = false := (desB_keep a1 a2 a3).trans d
      simp only [Bool.false_eq_true, if_false]
      refine ⟨hd, a7, fun e => ⟨fun _ => trivial, fun _ => by rcases a6 with q | q; exact absurd q e; exact q⟩, fun _ => ⟨a5, a4⟩, ?_⟩
      rw [hd]
      simp only [Bool.false_eq_true, if_false]
      rw [owes_twice a4 a5, block_twice a6]
end Go.Proofs.YtnmnihlhcokjpaaDoor

/- What a bridge does with what it hears, as a function of the view and its ports: no program. -/
namespace Go.Proofs.YtnmnihlhcokjpaaDoor
set_option maxRecDepth 100000
open Go.ChangeShapes Go.WideShapes Go.ChangeAt Go.RowKit
set_option linter.unusedVariables false

/-- A view settles: the view, its ports, and what goes out. -/
def settleR (t : Th) (L : List Po) : (Th × List Po) × List Ou :=
  if lostB (selectT t L) (desL (selectT t L) L) L.length = true then ((detT (selectT t L), statesL (selectT t L) (desL (selectT t L) L)), detO (selectT t L) L.length)
  else ((selectT t L, statesL (selectT t L) (desL (selectT t L) L)), [])
def confV (x : Bq) : Vec := ⟨x.ro, x.co, x.br, x.po⟩
/-- A port that holds what it heard. -/
def heldP (p : Po) (x : Bq) : Po := { p with hr := x.ro, hc := x.co, hb := x.br, hp := x.po, ao := true, av := x.ag }
/-- The bridge took itself for the root, and doesn't any more. -/
def lateT (root : Bool) (u : Th) : Th := if root = true ∧ u.ro ≠ u.ow then (if u.de = true then { u with ho := false, hv := 0, zo := false, zv := 0, xo := true, xv := 0 } else { u with ho := false, hv := 0 }) else u
def lateO (root : Bool) (u : Th) (n : Nat) : List Ou := if root = true ∧ u.ro ≠ u.ow then (if u.de = true then tcnR u n else []) else []
/-- Its port to the root told it. -/
def toldT (u : Th) (x : Bq) : Th := { u with n1 := x.ma, n2 := x.he, n3 := x.de, ch := x.ch }
def ackedT (u : Th) (x : Bq) : Th := if x.ak = true then { u with de := false, xo := false, xv := 0 } else u
/-- What takes the place of what the port holds. -/
def tookR (t : Th) (L : List Po) (k : Nat) (p : Po) (x : Bq) : (Th × List Po) × List Ou :=
  let s := settleR t (L.set k (heldP p x))
  let u := lateT (decide (t.ro = t.ow)) s.1.1
  let o := s.2 ++ lateO (decide (t.ro = t.ow)) s.1.1 L.length
  if u.rp = (k : Int) then ((ackedT (toldT u x) x, (allR (toldT u x) s.1.2 L.length).1), o ++ (allR (toldT u x) s.1.2 L.length).2)
  else ((u, s.1.2), o)
/-- A port hears a configuration. -/
def heardR (t : Th) (L : List Po) (i : Int) (x : Bq) : (Th × List Po) × List Ou :=
  if 0 ≤ i then (match L[i.toNat]? with
    | none => ((t, L), [])
    | some p => if p.st = 0 then ((t, L), []) else if supB (confV x) (heldV p) t.ow = true then tookR t L i.toNat p x
        else if desB p t.ow = true then ((t, (confR t L i).1), (confR t L i).2) else ((t, L), []))
  else ((t, L), [])
/-- A port hears a TCN. -/
def tcnHeardR (t : Th) (L : List Po) (i : Int) : (Th × List Po) × List Ou :=
  if 0 ≤ i then (match L[i.toNat]? with
    | none => ((t, L), [])
    | some p => if p.st = 0 then ((t, L), []) else if desB p t.ow = true then
        ((detT t, (confR (detT t) (L.set i.toNat { p with ak := true }) i).1), detO t L.length ++ (confR (detT t) (L.set i.toNat { p with ak := true }) i).2) else ((t, L), []))
  else ((t, L), [])
/-- What later steps keep of the root, and of the port to it. -/
def RootOf (u t : Th) : Prop := u.ow = t.ow ∧ u.ro = t.ro ∧ u.co = t.co ∧ u.rp = t.rp
theorem root_det (t : Th) : RootOf (detT t) t := by
  unfold detT RootOf
  split
  · exact ⟨rfl, rfl, rfl, rfl⟩
  · split <;> exact ⟨rfl, rfl, rfl, rfl⟩
theorem RootOf.trans {a b c : Th} (h : RootOf a b) (k : RootOf b c) : RootOf a c := ⟨h.1.trans k.1, h.2.1.trans k.2.1, h.2.2.1.trans k.2.2.1, h.2.2.2.trans k.2.2.2⟩
theorem root_settle (t : Th) (L : List Po) : RootOf (settleR t L).1.1 (selectT t L) := by
  unfold settleR
  split
  · exact root_det _
  · exact ⟨rfl, rfl, rfl, rfl⟩
theorem settle_ports (t : Th) (L : List Po) : (settleR t L).1.2 = statesL (selectT t L) (desL (selectT t L) L) := by unfold settleR; split <;> rfl
/-- A port behind a settling. -/
theorem settle_at {t : Th} {L : List Po} {k : Nat} {y : Po} (h : (settleR t L).1.2[k]? = some y) : ∃ x, L[k]? = some x ∧ y = (stP (selectT t L) k (desP (selectT t L) x)).1 := by
  rw [settle_ports] at h
  unfold statesL desL at h
  rw [allL_get, allL_get] at h
  cases hx : L[k]? with
  | none => rw [hx] at h; cases h
  | some x => rw [hx] at h; exact ⟨x, rfl, (Option.some.inj h).symm⟩
theorem st_held (t : Th) (j : Nat) (y : Po) : (stP t j y).1.hr = y.hr ∧ (stP t j y).1.hc = y.hc ∧ (stP t j y).1.hb = y.hb ∧ (stP t j y).1.hp = y.hp ∧ (stP t j y).1.id = y.id ∧ (stP t j y).1.co = y.co := by
  unfold stP
  split
  · unfold riseP owesP
    split <;> exact ⟨rfl, rfl, rfl, rfl, rfl, rfl⟩
  · split
    · unfold riseP restP
      split <;> exact ⟨rfl, rfl, rfl, rfl, rfl, rfl⟩
    · unfold blockP owesP
      split <;> exact ⟨rfl, rfl, rfl, rfl, rfl, rfl⟩
end Go.Proofs.YtnmnihlhcokjpaaDoor
