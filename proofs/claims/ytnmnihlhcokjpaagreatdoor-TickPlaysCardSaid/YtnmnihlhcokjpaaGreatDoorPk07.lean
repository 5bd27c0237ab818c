/- Several texts in one, one behind the other: WirePutB, BpduBase, BpduPut. -/
import Derived.Test.YtnmnihlhcokjpaaGreatDoorPk01

/- Put of 8 and of 32 bits, and of a bridge's number. -/
namespace Go.Proofs.YtnmnihlhcokjpaaGreatDoor
set_option maxRecDepth 100000
open Go.ChangeShapes Go.WideShapes Go.ChangeAt Go.RowKit
set_option linter.unusedVariables false

theorem put8 (A : Option Addr) (c : Nat) (l : List UInt8) (m lo hi k : Nat) (sz n : Int) (hsz : Hid (sz = k)) (hk : k ≤ 1000) (h0 : 0 ≤ n) (h1 : n < 256) (hn : Hid (l.length = m)) (hm : m ≤ 100000) (w : World) (hr : RB w A lo hi l) (hhi : hi ≤ w.heap.size) :
    Calls Tryz.prog 124 #[.slice A m c, .int .u8 n, .int .i64 sz] w fun e w' => e = .returned (.slice (some ⟨w.heap.size, 0, none⟩) (m + k) (m + k)) ∧ Bk w' w.heap.size 5 ((l ++ beB n k).map bc) ∧ Below w.heap.size w w' := by
  obtain rfl := hsz.out
  obtain rfl := hn.out
  clear hsz hn
  have hmm : min (k : Int) 1000 = (k : Int) := by omega
  have hmk := make_sum l.length k (by omega)
  go_enter Tryz.func124, Tryz.ntmps124
  go_wp2_with (with_reducible refine wpList_copy_splice rfl (.tmp 18) (.tmp 19) 79 79 rfl 5 Tryz.underlying79 Tryz.sizeByte _ _ _ _ _ _ rfl rfl w.heap.size 0 (List.replicate (l.length + k) (Value.int .u8 0)) 5 (heap_alloc_new w _) (l.map bc) (len_min2 l k) (copy_src hr (below_new hhi) _) (fit_front l k) (one_bcs l) w.heap.size w (below_new (Nat.le_refl _)) (Nat.le_refl _) ?_; intro w1 hg hb)
  clear hmm hmk
  go_loopw [8, 24] (fun t i wr => ∃ j : Nat, j ≤ k ∧ i = .int .i64 j ∧ t = .int .u64 (shiftK n j) ∧ Bk wr w.heap.size 5 (rowP l n k j) ∧ Below w.heap.size w wr) (fun _ i _ => k - (intOf i).toNat)
  case atStart => exact ⟨0, Nat.zero_le _, rfl, rfl, by have h := hg.out; rw [rowP_start l n k] at h; exact h, hb⟩
  case round =>
    obtain ⟨j, hj, rfl, rfl, hB, hbl⟩ := hrel
    obtain ⟨q0, q1⟩ := shiftK_lo n h0 (by omega) j
    clear hg hb
    by_cases hlt : j < k
    · obtain ⟨idx, hidx⟩ : ∃ idx : Nat, idx = l.length + k - 1 - j := ⟨_, rfl⟩
      have hil : idx < (rowP l n k j).length := by rw [rowP_len l n k j hj]; omega
      obtain ⟨v, hcell⟩ : ∃ v, wr.cell? ⟨w.heap.size, idx, none⟩ = some v := ⟨_, (hB.cell idx).trans (List.getElem?_eq_getElem hil)⟩
      have hfz := hB.thaw idx
      have hi1 : (l.length : Int) + (k : Int) - 1 - (j : Int) = (idx : Int) := by omega
      have hi2 : idx < l.length + k := by omega
      have HI := Lib.hid hidx
      clear hidx hil
      go_wp2
      go_roundw
      case rel => exact ⟨j + 1, by omega, by go_num, by rw [shiftK_succ], by have h := hB.set idx (.int .u8 (shiftK n j % 256)); rw [HI.out, rowP_step l n k j hlt, ← HI.out] at h; exact h, hbl.setCell (Nat.le_refl _) _⟩
      case measure => simp [intOf]; omega
    · obtain rfl : j = k := by omega
      go_wp2
      go_ret
      refine ⟨rfl, ?_, hbl⟩
      rw [rowP_end] at hB
      exact hB

theorem put32 (A : Option Addr) (c : Nat) (l : List UInt8) (m lo hi k : Nat) (sz n : Int) (hsz : Hid (sz = k)) (hk : k ≤ 1000) (h0 : 0 ≤ n) (h1 : n < 4294967296) (hn : Hid (l.length = m)) (hm : m ≤ 100000) (w : World) (hr : RB w A lo hi l) (hhi : hi ≤ w.heap.size) :
    Calls Tryz.prog 127 #[.slice A m c, .int .u32 n, .int .i64 sz] w fun e w' => e = .returned (.slice (some ⟨w.heap.size, 0, none⟩) (m + k) (m + k)) ∧ Bk w' w.heap.size 5 ((l ++ beB n k).map bc) ∧ Below w.heap.size w w' := by
  obtain rfl := hsz.out
  obtain rfl := hn.out
  clear hsz hn
  have hmm : min (k : Int) 1000 = (k : Int) := by omega
  have hmk := make_sum l.length k (by omega)
  go_enter Tryz.func127, Tryz.ntmps127
  go_wp2_with (with_reducible refine wpList_copy_splice rfl (.tmp 18) (.tmp 19) 79 79 rfl 5 Tryz.underlying79 Tryz.sizeByte _ _ _ _ _ _ rfl rfl w.heap.size 0 (List.replicate (l.length + k) (Value.int .u8 0)) 5 (heap_alloc_new w _) (l.map bc) (len_min2 l k) (copy_src hr (below_new hhi) _) (fit_front l k) (one_bcs l) w.heap.size w (below_new (Nat.le_refl _)) (Nat.le_refl _) ?_; intro w1 hg hb)
  clear hmm hmk
  go_loopw [8, 24] (fun t i wr => ∃ j : Nat, j ≤ k ∧ i = .int .i64 j ∧ t = .int .u64 (shiftK n j) ∧ Bk wr w.heap.size 5 (rowP l n k j) ∧ Below w.heap.size w wr) (fun _ i _ => k - (intOf i).toNat)
  case atStart => exact ⟨0, Nat.zero_le _, rfl, rfl, by have h := hg.out; rw [rowP_start l n k] at h; exact h, hb⟩
  case round =>
    obtain ⟨j, hj, rfl, rfl, hB, hbl⟩ := hrel
    obtain ⟨q0, q1⟩ := shiftK_lo n h0 (by omega) j
    clear hg hb
    by_cases hlt : j < k
    · obtain ⟨idx, hidx⟩ : ∃ idx : Nat, idx = l.length + k - 1 - j := ⟨_, rfl⟩
      have hil : idx < (rowP l n k j).length := by rw [rowP_len l n k j hj]; omega
      obtain ⟨v, hcell⟩ : ∃ v, wr.cell? ⟨w.heap.size, idx, none⟩ = some v := ⟨_, (hB.cell idx).trans (List.getElem?_eq_getElem hil)⟩
      have hfz := hB.thaw idx
      have hi1 : (l.length : Int) + (k : Int) - 1 - (j : Int) = (idx : Int) := by omega
      have hi2 : idx < l.length + k := by omega
      have HI := Lib.hid hidx
      clear hidx hil
      go_wp2
      go_roundw
      case rel => exact ⟨j + 1, by omega, by go_num, by rw [shiftK_succ], by have h := hB.set idx (.int .u8 (shiftK n j % 256)); rw [HI.out, rowP_step l n k j hlt, ← HI.out] at h; exact h, hbl.setCell (Nat.le_refl _) _⟩
      case measure => simp [intOf]; omega
    · obtain rfl : j = k := by omega
      go_wp2
      go_ret
      refine ⟨rfl, ?_, hbl⟩
      rw [rowP_end] at hB
      exact hB

theorem putN (A : Option Addr) (c : Nat) (l : List UInt8) (m lo hi k : Nat) (sz n : Int) (hsz : Hid (sz = k)) (hk : k ≤ 1000) (h0 : 0 ≤ n) (h1 : n < 18446744073709551616) (hn : Hid (l.length = m)) (hm : m ≤ 100000) (w : World) (hr : RB w A lo hi l) (hhi : hi ≤ w.heap.size) :
    Calls Tryz.prog 126 #[.slice A m c, .int .u64 n, .int .i64 sz] w fun e w' => e = .returned (.slice (some ⟨w.heap.size, 0, none⟩) (m + k) (m + k)) ∧ Bk w' w.heap.size 5 ((l ++ beB n k).map bc) ∧ Below w.heap.size w w' := by
  obtain rfl := hsz.out
  obtain rfl := hn.out
  clear hsz hn
  have hmm : min (k : Int) 1000 = (k : Int) := by omega
  have hmk := make_sum l.length k (by omega)
  go_enter Tryz.func126, Tryz.ntmps126
  go_wp2_with (with_reducible refine wpList_copy_splice rfl (.tmp 18) (.tmp 19) 79 79 rfl 5 Tryz.underlying79 Tryz.sizeByte _ _ _ _ _ _ rfl rfl w.heap.size 0 (List.replicate (l.length + k) (Value.int .u8 0)) 5 (heap_alloc_new w _) (l.map bc) (len_min2 l k) (copy_src hr (below_new hhi) _) (fit_front l k) (one_bcs l) w.heap.size w (below_new (Nat.le_refl _)) (Nat.le_refl _) ?_; intro w1 hg hb)
  clear hmm hmk
  go_loopw [8, 23] (fun t i wr => ∃ j : Nat, j ≤ k ∧ i = .int .i64 j ∧ t = .int .u64 (shiftK n j) ∧ Bk wr w.heap.size 5 (rowP l n k j) ∧ Below w.heap.size w wr) (fun _ i _ => k - (intOf i).toNat)
  case atStart => exact ⟨0, Nat.zero_le _, rfl, rfl, by have h := hg.out; rw [rowP_start l n k] at h; exact h, hb⟩
  case round =>
    obtain ⟨j, hj, rfl, rfl, hB, hbl⟩ := hrel
    obtain ⟨q0, q1⟩ := shiftK_lo n h0 (by omega) j
    clear hg hb
    by_cases hlt : j < k
    · obtain ⟨idx, hidx⟩ : ∃ idx : Nat, idx = l.length + k - 1 - j := ⟨_, rfl⟩
      have hil : idx < (rowP l n k j).length := by rw [rowP_len l n k j hj]; omega
      obtain ⟨v, hcell⟩ : ∃ v, wr.cell? ⟨w.heap.size, idx, none⟩ = some v := ⟨_, (hB.cell idx).trans (List.getElem?_eq_getElem hil)⟩
      have hfz := hB.thaw idx
      have hi1 : (l.length : Int) + (k : Int) - 1 - (j : Int) = (idx : Int) := by omega
      have hi2 : idx < l.length + k := by omega
      have HI := Lib.hid hidx
      clear hidx hil
      go_wp2
      go_roundw
      case rel => exact ⟨j + 1, by omega, by go_num, by rw [shiftK_succ], by have h := hB.set idx (.int .u8 (shiftK n j % 256)); rw [HI.out, rowP_step l n k j hlt, ← HI.out] at h; exact h, hbl.setCell (Nat.le_refl _) _⟩
      case measure => simp [intOf]; omega
    · obtain rfl : j = k := by omega
      go_wp2
      go_ret
      refine ⟨rfl, ?_, hbl⟩
      rw [rowP_end] at hB
      exact hB

end Go.Proofs.YtnmnihlhcokjpaaGreatDoor

/- A Bpdu in a box, its flags, and its bytes, as the program puts them; the document's example. -/
namespace Go.Proofs.YtnmnihlhcokjpaaGreatDoor
set_option maxRecDepth 100000
open Go.ChangeShapes Go.WideShapes Go.ChangeAt Go.RowKit
set_option linter.unusedVariables false

/-- A Bpdu in a block of its own. -/
def BB (w : World) (g : Nat) (tc ch ak : Bool) (ro co br po ag ma he de : Int) : Prop := Bk w g 46 [.bool tc, .bool ch, .bool ak, .int .u64 ro, .int .u32 co, .int .u64 br, .int .u16 po, .int .u16 ag, .int .u16 ma, .int .u16 he, .int .u16 de]

theorem BB.new (w : World) (tc ch ak : Bool) (ro co br po ag ma he de : Int) : BB (w.alloc (.cells #[.bool tc, .bool ch, .bool ak, .int .u64 ro, .int .u32 co, .int .u64 br, .int .u16 po, .int .u16 ag, .int .u16 ma, .int .u16 he, .int .u16 de] 46)) w.heap.size tc ch ak ro co br po ag ma he de := heap_alloc_new w _

theorem BB.below {w w' : World} {g B : Nat} {tc ch ak : Bool} {ro co br po ag ma he de : Int} (h : BB w g tc ch ak ro co br po ag ma he de) (hb : Below B w w') (hg : g < B) : BB w' g tc ch ak ro co br po ag ma he de := Bk.below h hb hg

theorem BB.cells {w : World} {g : Nat} {tc ch ak : Bool} {ro co br po ag ma he de : Int} (h : BB w g tc ch ak ro co br po ag ma he de) :
    w.cell? ⟨g, 0, none⟩ = some (.bool tc) ∧ w.cell? ⟨g, 1, none⟩ = some (.bool ch) ∧ w.cell? ⟨g, 2, none⟩ = some (.bool ak) ∧ w.cell? ⟨g, 3, none⟩ = some (.int .u64 ro) ∧ w.cell? ⟨g, 4, none⟩ = some (.int .u32 co) ∧ w.cell? ⟨g, 5, none⟩ = some (.int .u64 br) ∧
    w.cell? ⟨g, 6, none⟩ = some (.int .u16 po) ∧ w.cell? ⟨g, 7, none⟩ = some (.int .u16 ag) ∧ w.cell? ⟨g, 8, none⟩ = some (.int .u16 ma) ∧ w.cell? ⟨g, 9, none⟩ = some (.int .u16 he) ∧ w.cell? ⟨g, 10, none⟩ = some (.int .u16 de) :=
  ⟨h.cell 0, h.cell 1, h.cell 2, h.cell 3, h.cell 4, h.cell 5, h.cell 6, h.cell 7, h.cell 8, h.cell 9, h.cell 10⟩

theorem BB.thaws {w : World} {g : Nat} {tc ch ak : Bool} {ro co br po ag ma he de : Int} (h : BB w g tc ch ak ro co br po ag ma he de) :
    w.frozen? ⟨g, 0, none⟩ = false ∧ w.frozen? ⟨g, 1, none⟩ = false ∧ w.frozen? ⟨g, 2, none⟩ = false ∧ w.frozen? ⟨g, 3, none⟩ = false ∧ w.frozen? ⟨g, 4, none⟩ = false ∧ w.frozen? ⟨g, 5, none⟩ = false ∧
    w.frozen? ⟨g, 6, none⟩ = false ∧ w.frozen? ⟨g, 7, none⟩ = false ∧ w.frozen? ⟨g, 8, none⟩ = false ∧ w.frozen? ⟨g, 9, none⟩ = false ∧ w.frozen? ⟨g, 10, none⟩ = false :=
  ⟨h.thaw 0, h.thaw 1, h.thaw 2, h.thaw 3, h.thaw 4, h.thaw 5, h.thaw 6, h.thaw 7, h.thaw 8, h.thaw 9, h.thaw 10⟩

theorem bboxed (w : World) (tc ch ak : Bool) (ro co br po ag ma he de : Int) :
    ∃ w0, BB w0 w.heap.size tc ch ak ro co br po ag ma he de ∧ Below w.heap.size w w0 ∧ w.heap.size < w0.heap.size ∧ w0 = w.alloc (.cells #[.bool tc, .bool ch, .bool ak, .int .u64 ro, .int .u32 co, .int .u64 br, .int .u16 po, .int .u16 ag, .int .u16 ma, .int .u16 he, .int .u16 de] 46) :=
  ⟨_, BB.new w tc ch ak ro co br po ag ma he de, below_new (Nat.le_refl _), by simp, rfl⟩

/-- The numbers of a Bpdu fit their kinds. -/
def BpIn (ro co br po ag ma he de : Int) : Prop :=
  (0 ≤ ro ∧ ro < 18446744073709551616) ∧ (0 ≤ co ∧ co < 4294967296) ∧ (0 ≤ br ∧ br < 18446744073709551616) ∧ (0 ≤ po ∧ po < 65536) ∧ (0 ≤ ag ∧ ag < 65536) ∧ (0 ≤ ma ∧ ma < 65536) ∧ (0 ≤ he ∧ he < 65536) ∧ (0 ≤ de ∧ de < 65536)

/-- The byte of flags. -/
def flI (ch ak : Bool) : Int := (if ch then 1 else 0) + (if ak then 128 else 0)

theorem flI_lo (ch ak : Bool) : 0 ≤ flI ch ak ∧ flI ch ak < 256 := by cases ch <;> cases ak <;> decide

theorem flags_any (tc ch ak : Bool) (ro co br po ag ma he de : Int) (w : World) :
    Calls Tryz.prog 125 #[.agg #[.bool tc, .bool ch, .bool ak, .int .u64 ro, .int .u32 co, .int .u64 br, .int .u16 po, .int .u16 ag, .int .u16 ma, .int .u16 he, .int .u16 de]] w fun e w' => e = .returned (.int .u8 (flI ch ak)) ∧ Below w.heap.size w w' := by
  cases ch <;> cases ak
  all_goals
    go_enter Tryz.func125, Tryz.ntmps125
    go_wp2
    go_ret
    exact ⟨ret_int (by decide), below_new (Nat.le_refl _)⟩

/-- What 'Put' leaves: a block of its own, the bytes. -/
def BPutEnd (l : List UInt8) (n : Nat) (w : World) (e : Ending) (w' : World) : Prop :=
  ∃ g, e = .returned (.slice (some ⟨g, 0, none⟩) n n) ∧ w.heap.size ≤ g ∧ Bk w' g 5 (l.map bc) ∧ l.length = n ∧ Below w.heap.size w w'

/-- A TCN's bytes. -/
def tcnB : List UInt8 := beB 0 3 ++ beB 128 1

theorem put_tcn (ch ak : Bool) (ro co br po ag ma he de : Int) (w : World) :
    Calls Tryz.prog 112 #[.agg #[.bool true, .bool ch, .bool ak, .int .u64 ro, .int .u32 co, .int .u64 br, .int .u16 po, .int .u16 ag, .int .u16 ma, .int .u16 he, .int .u16 de]] w (BPutEnd tcnB 4 w) := by
  go_enter Tryz.func112, Tryz.ntmps112
  go_wp2_with fail
  obtain ⟨w0, hB0, hb0, hs0, hw0⟩ := bboxed w true ch ak ro co br po ag ma he de
  rw [← hw0]
  clear hw0
  (with_reducible refine (put8 none 0 [] 0 0 0 3 3 0 (Lib.hid rfl) (by omega) (by omega) (by omega) (Lib.hid rfl) (by omega) _ (RB.nil _ _ _ _) (Nat.zero_le _)).mono ?_); rintro e w1 ⟨rfl, hP1, hb1⟩
  rw [List.nil_append] at hP1
  have hB1 := hB0.below hb1 hs0
  have hbw1 := below_two hb0 hb1 hb0.size
  have hs1 := Nat.lt_of_lt_of_le hs0 hb1.size
  have hl1 : Hid ((beB 0 3).length = 3) := Lib.hid (beB_len 0 3)
  obtain ⟨c0, c1, c2, c3, c4, c5, c6, c7, c8, c9, c10⟩ := hB1.cells
  go_wp2_with fail
  (with_reducible refine (put8 _ 3 (beB 0 3) 3 0 w1.heap.size 1 1 128 (Lib.hid rfl) (by omega) (by omega) (by omega) hl1 (by omega) _ (hP1.rb 0 w1.heap.size (Nat.zero_le _) hP1.lt) (Nat.le_refl _)).mono ?_); rintro e w2 ⟨rfl, hP2, hb2⟩
  go_wp2
  go_ret
  exact ⟨_, rfl, Nat.le_of_lt hs1, hP2, by decide, below_two hbw1 hb2 hbw1.size⟩

end Go.Proofs.YtnmnihlhcokjpaaGreatDoor

/- Put of a configuration, and the document's example. -/
namespace Go.Proofs.YtnmnihlhcokjpaaGreatDoor
set_option maxRecDepth 100000
open Go.ChangeShapes Go.WideShapes Go.ChangeAt Go.RowKit
set_option linter.unusedVariables false

/-- The first 25 bytes of a configuration. -/
def bpHead (ch ak : Bool) (ro co br : Int) : List UInt8 := ((((beB 0 3 ++ beB 0 1) ++ beB (flI ch ak) 1) ++ beB ro 8) ++ beB co 4) ++ beB br 8

/-- The first bytes of a configuration, behind so many numbers of two bytes. -/
def bpPre (h : List UInt8) (po ag ma he de : Int) : Nat → List UInt8
  | 0 => h
  | 1 => h ++ beB po 2
  | 2 => (h ++ beB po 2) ++ beB ag 2
  | 3 => ((h ++ beB po 2) ++ beB ag 2) ++ beB ma 2
  | 4 => (((h ++ beB po 2) ++ beB ag 2) ++ beB ma 2) ++ beB he 2
  | _ => ((((h ++ beB po 2) ++ beB ag 2) ++ beB ma 2) ++ beB he 2) ++ beB de 2

/-- A configuration's bytes. -/
def bpB (ch ak : Bool) (ro co br po ag ma he de : Int) : List UInt8 := bpPre (bpHead ch ak ro co br) po ag ma he de 5

theorem bpHead_len (ch ak : Bool) (ro co br : Int) : (bpHead ch ak ro co br).length = 25 := by simp [bpHead, beB_len]

theorem bpB_len (ch ak : Bool) (ro co br po ag ma he de : Int) : (bpB ch ak ro co br po ag ma he de).length = 35 := by simp [bpB, bpPre, bpHead_len, beB_len]

/-- Behind so many rounds. -/
def PW (w : World) (h : List UInt8) (po ag ma he de : Int) (j : Nat) (b : Value) (wr : World) : Prop :=
  ∃ g, b = .slice (some ⟨g, 0, none⟩) (25 + 2 * j) (25 + 2 * j) ∧ w.heap.size ≤ g ∧ Bk wr g 5 ((bpPre h po ag ma he de j).map bc) ∧ Below w.heap.size w wr

theorem put_cfg (ch ak : Bool) (ro co br po ag ma he de : Int) (hin : BpIn ro co br po ag ma he de) (w : World) :
    Calls Tryz.prog 112 #[.agg #[.bool false, .bool ch, .bool ak, .int .u64 ro, .int .u32 co, .int .u64 br, .int .u16 po, .int .u16 ag, .int .u16 ma, .int .u16 he, .int .u16 de]] w (BPutEnd (bpB ch ak ro co br po ag ma he de) 35 w) := by
  obtain ⟨⟨r0, r1⟩, ⟨o0, o1⟩, ⟨b0, b1⟩, ⟨p0, p1⟩, ⟨a0, a1⟩, ⟨m0, m1⟩, ⟨h0, h1⟩, ⟨d0, d1⟩⟩ := hin
  obtain ⟨fl, hfl⟩ : ∃ fl, fl = flI ch ak := ⟨_, rfl⟩
  have fl0 := flI_lo ch ak
  rw [← hfl] at fl0
  obtain ⟨fl0, fl1⟩ := fl0
  have HFL := Lib.hid hfl
  clear hfl
  have ix0 : ∀ w : World, (Instr.index 140 (.agg #[.int .u16 po, .int .u16 ag, .int .u16 ma, .int .u16 he, .int .u16 de]) (.int .i64 0)).run Tryz.prog w = .ok (.int .u16 po) w := fun _ => by kernel_rfl
  have ix1 : ∀ w : World, (Instr.index 140 (.agg #[.int .u16 po, .int .u16 ag, .int .u16 ma, .int .u16 he, .int .u16 de]) (.int .i64 1)).run Tryz.prog w = .ok (.int .u16 ag) w := fun _ => by kernel_rfl
  have ix2 : ∀ w : World, (Instr.index 140 (.agg #[.int .u16 po, .int .u16 ag, .int .u16 ma, .int .u16 he, .int .u16 de]) (.int .i64 2)).run Tryz.prog w = .ok (.int .u16 ma) w := fun _ => by kernel_rfl
  have ix3 : ∀ w : World, (Instr.index 140 (.agg #[.int .u16 po, .int .u16 ag, .int .u16 ma, .int .u16 he, .int .u16 de]) (.int .i64 3)).run Tryz.prog w = .ok (.int .u16 he) w := fun _ => by kernel_rfl
  have ix4 : ∀ w : World, (Instr.index 140 (.agg #[.int .u16 po, .int .u16 ag, .int .u16 ma, .int .u16 he, .int .u16 de]) (.int .i64 4)).run Tryz.prog w = .ok (.int .u16 de) w := fun _ => by kernel_rfl
  go_enter Tryz.func112, Tryz.ntmps112
  go_wp2_with fail
  obtain ⟨w0, hB0, hb0, hs0, hw0⟩ := bboxed w false ch ak ro co br po ag ma he de
  rw [← hw0]
  clear hw0
  (with_reducible refine (put8 none 0 [] 0 0 0 3 3 0 (Lib.hid rfl) (by omega) (by omega) (by omega) (Lib.hid rfl) (by omega) _ (RB.nil _ _ _ _) (Nat.zero_le _)).mono ?_); rintro e w1 ⟨rfl, hP1, hb1⟩
  rw [List.nil_append] at hP1
  have hB1 := hB0.below hb1 hs0
  have hbw1 := below_two hb0 hb1 hb0.size
  have hs1 := Nat.lt_of_lt_of_le hs0 hb1.size
  obtain ⟨l1, hl1⟩ : ∃ l, l = beB 0 3 := ⟨_, rfl⟩
  have hn1 : Hid (l1.length = 3) := by show _ = _; rw [hl1, beB_len]
  rw [← hl1] at hP1
  have HL1 := Lib.hid hl1
  clear hl1 hB0 hb0 hb1 hs0
  obtain ⟨c0, c1, c2, c3, c4, c5, c6, c7, c8, c9, c10⟩ := hB1.cells
  go_wp2_with fail
  (with_reducible refine (put8 _ 3 l1 3 0 w1.heap.size 1 1 0 (Lib.hid rfl) (by omega) (by omega) (by omega) hn1 (by omega) _ (hP1.rb 0 w1.heap.size (Nat.zero_le _) hP1.lt) (Nat.le_refl _)).mono ?_); rintro e w2 ⟨rfl, hP2, hb2⟩
  have hB2 := hB1.below hb2 hs1
  have hbw2 := below_two hbw1 hb2 hbw1.size
  have hs2 := Nat.lt_of_lt_of_le hs1 hb2.size
  obtain ⟨l2, hl2⟩ : ∃ l, l = l1 ++ beB 0 1 := ⟨_, rfl⟩
  have hn2 : Hid (l2.length = 4) := by show _ = _; rw [hl2, List.length_append, hn1.out, beB_len]
  rw [← hl2] at hP2
  have HL2 := Lib.hid hl2
  clear hl2 hB1 hb2 hbw1 hP1 c0 c1 c2 c3 c4 c5 c6 c7 c8 c9 c10
  obtain ⟨c0, c1, c2, c3, c4, c5, c6, c7, c8, c9, c10⟩ := hB2.cells
  go_wp2_with fail
  (with_reducible refine (flags_any false ch ak ro co br po ag ma he de _).mono ?_); rintro e w3 ⟨rfl, hb3⟩
  rw [← HFL.out]
  have hB3 := hB2.below hb3 hs2
  have hbw3 := below_two hbw2 hb3 hbw2.size
  have hs3 := Nat.lt_of_lt_of_le hs2 hb3.size
  have hP3 := hP2.below hb3 hP2.lt
  clear hB2 hb3 hbw2 hP2 c0 c1 c2 c3 c4 c5 c6 c7 c8 c9 c10
  go_wp2_with fail
  (with_reducible refine (put8 _ 4 l2 4 0 w3.heap.size 1 1 fl (Lib.hid rfl) (by omega) fl0 fl1 hn2 (by omega) _ (hP3.rb 0 w3.heap.size (Nat.zero_le _) hP3.lt) (Nat.le_refl _)).mono ?_); rintro e w4 ⟨rfl, hP4, hb4⟩
  have hB4 := hB3.below hb4 hs3
  have hbw4 := below_two hbw3 hb4 hbw3.size
  have hs4 := Nat.lt_of_lt_of_le hs3 hb4.size
  obtain ⟨l4, hl4⟩ : ∃ l, l = l2 ++ beB fl 1 := ⟨_, rfl⟩
  have hn4 : Hid (l4.length = 5) := by show _ = _; rw [hl4, List.length_append, hn2.out, beB_len]
  rw [← hl4] at hP4
  have HL4 := Lib.hid hl4
  clear hl4 hB3 hb4 hbw3 hP3
  obtain ⟨c0, c1, c2, c3, c4, c5, c6, c7, c8, c9, c10⟩ := hB4.cells
  go_wp2_with fail
  (with_reducible refine (putN _ 5 l4 5 0 w4.heap.size 8 8 ro (Lib.hid rfl) (by omega) r0 r1 hn4 (by omega) _ (hP4.rb 0 w4.heap.size (Nat.zero_le _) hP4.lt) (Nat.le_refl _)).mono ?_); rintro e w5 ⟨rfl, hP5, hb5⟩
  have hB5 := hB4.below hb5 hs4
  have hbw5 := below_two hbw4 hb5 hbw4.size
  have hs5 := Nat.lt_of_lt_of_le hs4 hb5.size
  obtain ⟨l5, hl5⟩ : ∃ l, l = l4 ++ beB ro 8 := ⟨_, rfl⟩
  have hn5 : Hid (l5.length = 13) := by show _ = _; rw [hl5, List.length_append, hn4.out, beB_len]
  rw [← hl5] at hP5
  have HL5 := Lib.hid hl5
  clear hl5 hB4 hb5 hbw4 hP4 c0 c1 c2 c3 c4 c5 c6 c7 c8 c9 c10
  obtain ⟨c0, c1, c2, c3, c4, c5, c6, c7, c8, c9, c10⟩ := hB5.cells
  go_wp2_with fail
  (with_reducible refine (put32 _ 13 l5 13 0 w5.heap.size 4 4 co (Lib.hid rfl) (by omega) o0 o1 hn5 (by omega) _ (hP5.rb 0 w5.heap.size (Nat.zero_le _) hP5.lt) (Nat.le_refl _)).mono ?_); rintro e w6 ⟨rfl, hP6, hb6⟩
  have hB6 := hB5.below hb6 hs5
  have hbw6 := below_two hbw5 hb6 hbw5.size
  have hs6 := Nat.lt_of_lt_of_le hs5 hb6.size
  obtain ⟨l6, hl6⟩ : ∃ l, l = l5 ++ beB co 4 := ⟨_, rfl⟩
  have hn6 : Hid (l6.length = 17) := by show _ = _; rw [hl6, List.length_append, hn5.out, beB_len]
  rw [← hl6] at hP6
  have HL6 := Lib.hid hl6
  clear hl6 hB5 hb6 hbw5 hP5 c0 c1 c2 c3 c4 c5 c6 c7 c8 c9 c10
  obtain ⟨c0, c1, c2, c3, c4, c5, c6, c7, c8, c9, c10⟩ := hB6.cells
  go_wp2_with fail
  (with_reducible refine (putN _ 17 l6 17 0 w6.heap.size 8 8 br (Lib.hid rfl) (by omega) b0 b1 hn6 (by omega) _ (hP6.rb 0 w6.heap.size (Nat.zero_le _) hP6.lt) (Nat.le_refl _)).mono ?_); rintro e w7 ⟨rfl, hP7, hb7⟩
  have hB7 := hB6.below hb7 hs6
  have hbw7 := below_two hbw6 hb7 hbw6.size
  have hs7 := Nat.lt_of_lt_of_le hs6 hb7.size
  obtain ⟨l7, hl7⟩ : ∃ l, l = l6 ++ beB br 8 := ⟨_, rfl⟩
  have hn7 : Hid (l7.length = 25) := by show _ = _; rw [hl7, List.length_append, hn6.out, beB_len]
  rw [← hl7] at hP7
  have HL7 := Lib.hid hl7
  clear hl7 hB6 hb7 hbw6 hP6 c0 c1 c2 c3 c4 c5 c6 c7 c8 c9 c10
  obtain ⟨c0, c1, c2, c3, c4, c5, c6, c7, c8, c9, c10⟩ := hB7.cells
  have hH : Hid (bpHead ch ak ro co br = l7) := by show _ = _; rw [HL7.out, HL6.out, HL5.out, HL4.out, HL2.out, HL1.out, HFL.out]; rfl
  have hz6 := Nat.le_of_lt hs6
  go_wp2_with fail
  clear c0 c1 c2 c3 c4 c5 c6 c7 c8 c9 c10
  go_loopw [3, 40] (fun b i wr => ∃ j : Nat, j ≤ 5 ∧ i = .int .i64 j ∧ PW w l7 po ag ma he de j b wr) (fun _ i _ => 5 - (intOf i).toNat)
  case atStart => exact ⟨0, by omega, rfl, _, rfl, hz6, hP7, hbw7⟩
  case round =>
    obtain ⟨j, hj, rfl, g, rfl, hg, hP, hbr⟩ := hrel
    clear hP7 hB7 hbw7 hs7
    match j, hj with
    | 0, _ =>
      obtain ⟨lx, hlx⟩ : ∃ l, l = (l7) := ⟨_, rfl⟩
      have hnx : Hid (lx.length = 25) := by show _ = _; rw [hlx]; first | exact hn7.out | simp [beB_len, hn7.out]
      have hPx : Bk wr g 5 (lx.map bc) := by rw [hlx]; exact hP
      have HLX := Lib.hid hlx
      have hgz := hP.lt
      clear hlx hP
      go_wp2_with fail
      (with_reducible refine (put16 _ 25 lx 25 0 wr.heap.size 2 2 po (Lib.hid rfl) (by omega) p0 p1 hnx (by omega) _ (hPx.rb 0 wr.heap.size (Nat.zero_le _) hgz) (Nat.le_refl _)).mono ?_); rintro e wx ⟨rfl, hPy, hby⟩
      have hbx := below_two hbr hby hbr.size
      have hgx := hbr.size
      clear hPx hbr hby
      go_wp2
      go_roundw
      case rel => exact ⟨1, by omega, by go_num, _, rfl, hgx, by rw [HLX.out] at hPy; exact hPy, hbx⟩
      case measure => simp [intOf]
    | 1, _ =>
      obtain ⟨lx, hlx⟩ : ∃ l, l = (l7 ++ beB po 2) := ⟨_, rfl⟩
      have hnx : Hid (lx.length = 27) := by show _ = _; rw [hlx]; first | exact hn7.out | simp [beB_len, hn7.out]
      have hPx : Bk wr g 5 (lx.map bc) := by rw [hlx]; exact hP
      have HLX := Lib.hid hlx
      have hgz := hP.lt
      clear hlx hP
      go_wp2_with fail
      (with_reducible refine (put16 _ 27 lx 27 0 wr.heap.size 2 2 ag (Lib.hid rfl) (by omega) a0 a1 hnx (by omega) _ (hPx.rb 0 wr.heap.size (Nat.zero_le _) hgz) (Nat.le_refl _)).mono ?_); rintro e wx ⟨rfl, hPy, hby⟩
      have hbx := below_two hbr hby hbr.size
      have hgx := hbr.size
      clear hPx hbr hby
      go_wp2
      go_roundw
      case rel => exact ⟨2, by omega, by go_num, _, rfl, hgx, by rw [HLX.out] at hPy; exact hPy, hbx⟩
      case measure => simp [intOf]
    | 2, _ =>
      obtain ⟨lx, hlx⟩ : ∃ l, l = ((l7 ++ beB po 2) ++ beB ag 2) := ⟨_, rfl⟩
      have hnx : Hid (lx.length = 29) := by show _ = _; rw [hlx]; first | exact hn7.out | simp [beB_len, hn7.out]
      have hPx : Bk wr g 5 (lx.map bc) := by rw [hlx]; exact hP
      have HLX := Lib.hid hlx
      have hgz := hP.lt
      clear hlx hP
      go_wp2_with fail
      (with_reducible refine (put16 _ 29 lx 29 0 wr.heap.size 2 2 ma (Lib.hid rfl) (by omega) m0 m1 hnx (by omega) _ (hPx.rb 0 wr.heap.size (Nat.zero_le _) hgz) (Nat.le_refl _)).mono ?_); rintro e wx ⟨rfl, hPy, hby⟩
      have hbx := below_two hbr hby hbr.size
      have hgx := hbr.size
      clear hPx hbr hby
      go_wp2
      go_roundw
      case rel => exact ⟨3, by omega, by go_num, _, rfl, hgx, by rw [HLX.out] at hPy; exact hPy, hbx⟩
      case measure => simp [intOf]
    | 3, _ =>
      obtain ⟨lx, hlx⟩ : ∃ l, l = (((l7 ++ beB po 2) ++ beB ag 2) ++ beB ma 2) := ⟨_, rfl⟩
      have hnx : Hid (lx.length = 31) := by show _ = _; rw [hlx]; first | exact hn7.out | simp [beB_len, hn7.out]
      have hPx : Bk wr g 5 (lx.map bc) := by rw [hlx]; exact hP
      have HLX := Lib.hid hlx
      have hgz := hP.lt
      clear hlx hP
      go_wp2_with fail
      (with_reducible refine (put16 _ 31 lx 31 0 wr.heap.size 2 2 he (Lib.hid rfl) (by omega) h0 h1 hnx (by omega) _ (hPx.rb 0 wr.heap.size (Nat.zero_le _) hgz) (Nat.le_refl _)).mono ?_); rintro e wx ⟨rfl, hPy, hby⟩
      have hbx := below_two hbr hby hbr.size
      have hgx := hbr.size
      clear hPx hbr hby
      go_wp2
      go_roundw
      case rel => exact ⟨4, by omega, by go_num, _, rfl, hgx, by rw [HLX.out] at hPy; exact hPy, hbx⟩
      case measure => simp [intOf]
    | 4, _ =>
      obtain ⟨lx, hlx⟩ : ∃ l, l = ((((l7 ++ beB po 2) ++ beB ag 2) ++ beB ma 2) ++ beB he 2) := ⟨_, rfl⟩
      have hnx : Hid (lx.length = 33) := by show _ = _; rw [hlx]; first | exact hn7.out | simp [beB_len, hn7.out]
      have hPx : Bk wr g 5 (lx.map bc) := by rw [hlx]; exact hP
      have HLX := Lib.hid hlx
      have hgz := hP.lt
      clear hlx hP
      go_wp2_with fail
      (with_reducible refine (put16 _ 33 lx 33 0 wr.heap.size 2 2 de (Lib.hid rfl) (by omega) d0 d1 hnx (by omega) _ (hPx.rb 0 wr.heap.size (Nat.zero_le _) hgz) (Nat.le_refl _)).mono ?_); rintro e wx ⟨rfl, hPy, hby⟩
      have hbx := below_two hbr hby hbr.size
      have hgx := hbr.size
      clear hPx hbr hby
      go_wp2
      go_roundw
      case rel => exact ⟨5, by omega, by go_num, _, rfl, hgx, by rw [HLX.out] at hPy; exact hPy, hbx⟩
      case measure => simp [intOf]
    | 5, _ =>
      go_wp2
      go_ret
      exact ⟨g, rfl, hg, by unfold bpB; rw [hH.out]; exact hP, bpB_len ch ak ro co br po ag ma he de, hbr⟩

end Go.Proofs.YtnmnihlhcokjpaaGreatDoor
