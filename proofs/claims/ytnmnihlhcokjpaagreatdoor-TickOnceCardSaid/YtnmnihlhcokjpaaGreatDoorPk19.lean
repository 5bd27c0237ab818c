/- Several texts in one, one behind the other: WireRead, WireNum, WireOnly, BpduConfig, BpduMath. -/
import Derived.Test.YtnmnihlhcokjpaaGreatDoorPk01
import Derived.Test.YtnmnihlhcokjpaaGreatDoorPk07
import Derived.Deep.DeepCutAuto
import Derived.Deep.RegionHeld3

/- The reader: a copy, a new reader, whether it is short, the next bytes. -/
namespace Go.Proofs.YtnmnihlhcokjpaaGreatDoor
set_option maxRecDepth 100000
open Go.ChangeShapes Go.WideShapes Go.ChangeAt Go.RowKit
set_option linter.unusedVariables false

theorem copyOf_any (A : Option Addr) (c : Nat) (l : List UInt8) (n lo hi : Nat) (hn : Hid (l.length = n)) (hm : n ≤ 140737488355328) (w : World) (hr : RB w A lo hi l) (hhi : hi ≤ w.heap.size) :
    Calls Tryz.prog 98 #[.slice A n c] w fun e w' => e = .returned (.slice (some ⟨w.heap.size, 0, none⟩) n n) ∧ Bk w' w.heap.size 5 (l.map bc) ∧ Below w.heap.size w w' := by
  have hmk := make_bytes n hm
  go_enter Tryz.func98, Tryz.ntmps98
  go_wp2_with (with_reducible refine wpList_copy_splice rfl (.tmp 7) (.tmp 8) 79 79 rfl 5 Tryz.underlying79 Tryz.sizeByte _ _ _ _ _ _ rfl rfl w.heap.size 0 (List.replicate n (Value.int .u8 0)) 5 (heap_alloc_new w _) (l.map bc) (len_min hn.out) (copy_src hr (below_new hhi) _) (fit_all hn.out) (one_bcs l) w.heap.size w (below_new (Nat.le_refl _)) (Nat.le_refl _) ?_; intro w' hg hb)
  go_ret
  refine ⟨rfl, ?_, hb⟩
  have h := hg.out
  rw [splice_all _ _ (by simp [hn.out])] at h
  exact h

theorem new_any (A : Option Addr) (c : Nat) (l : List UInt8) (n lo hi : Nat) (hn : Hid (l.length = n)) (hm : n ≤ 140737488355328) (w : World) (hr : RB w A lo hi l) (hhi : hi ≤ w.heap.size) :
    Calls Tryz.prog 65 #[.slice A n c] w fun e w' => ∃ h A', e = .returned (.pointer (some ⟨h, 0, none⟩)) ∧ RD 136 w' w.heap.size w'.heap.size h A' l false ∧ Below w.heap.size w w' := by
  go_enter Tryz.func65, Tryz.ntmps65
  go_wp2_with ((with_reducible refine (copyOf_any A c l n lo hi hn hm _ hr hhi).mono ?_); rintro e w1 ⟨rfl, HB, hb⟩)
  go_ret
  refine ⟨w1.heap.size, some ⟨w.heap.size, 0, none⟩, rfl, ⟨hb.size, by simp, ?_, ?_⟩, hb.alloc hb.size _⟩
  · rw [hn.out]; exact heap_alloc_new w1 _
  · exact (HB.rb w.heap.size w1.heap.size (Nat.le_refl _) HB.lt).below (below_new (Nat.le_refl _)) (Nat.le_refl _)

theorem short_any (lo hi h : Nat) (A : Option Addr) (l : List UInt8) (s : Bool) (w : World) (hr : RD 136 w lo hi h A l s) :
    Calls Tryz.prog 67 #[.pointer (some ⟨h, 0, none⟩)] w fun e w' => e = .returned (.bool s) ∧ w = w' := by
  have hc := hr.2.2.1.cell 1
  simp at hc
  go_enter Tryz.func67, Tryz.ntmps67
  go_wp2
  go_ret
  exact ⟨rfl, rfl⟩

/-- So many bytes can't be read. -/
def BadN (s : Bool) (len : Nat) (n : Int) : Prop := s = true ∨ n < 0 ∨ (len : Int) < n

end Go.Proofs.YtnmnihlhcokjpaaGreatDoor

/- Num, and the document's own. -/
namespace Go.Proofs.YtnmnihlhcokjpaaGreatDoor
set_option maxRecDepth 100000
open Go.ChangeShapes Go.WideShapes Go.ChangeAt Go.RowKit
set_option linter.unusedVariables false

theorem or8w (y b : Int) (h0 : 0 ≤ y) (h1 : y < 18446744073709551616) (b0 : 0 ≤ b) (b1 : b < 256) : bits .or .u64 (IntKind.u64.wrap (y * 256)) b = (y * 256 + b) % 18446744073709551616 := by
  have e : IntKind.u64.wrap (y * 256) = (y % 72057594037927936) * 256 := by rw [IntKind.wrap_u64]; omega
  rw [e, or8_64 _ b (by omega) (by omega) b0 b1]
  omega

end Go.Proofs.YtnmnihlhcokjpaaGreatDoor

/- The reader's next bytes and numbers, with what else is left as it was: all blocks but its own. -/
namespace Go.Proofs.YtnmnihlhcokjpaaGreatDoor
set_option maxRecDepth 100000
open Go.ChangeShapes Go.WideShapes Go.ChangeAt Go.RowKit
set_option linter.unusedVariables false

/-- Nothing but block 'h' has turned, and nothing is new. -/
def Only (h : Nat) (w w' : World) : Prop := w'.heap.size = w.heap.size ∧ ∀ b, b ≠ h → w'.heap[b]? = w.heap[b]?

theorem Only.bk {h g : Nat} {w w' : World} {t : TypeId} {cs : List Value} (o : Only h w w') (k : Bk w g t cs) (hg : g ≠ h) : Bk w' g t cs := (o.2 g hg).trans k

theorem only_set (w : World) (h i : Nat) (u : Value) : Only h w (w.setCell ⟨h, i, none⟩ u) := ⟨by simp [World.setCell], fun b hb => Below.heap_setCell w _ u b hb⟩

theorem rd_shortO {T : TypeId} {w : World} {lo hi h : Nat} {A : Option Addr} {l : List UInt8} {s : Bool} (r : RD T w lo hi h A l s) :
    RD T (w.setCell ⟨h, 1, none⟩ (.bool true)) lo hi h A l true ∧ Below lo w (w.setCell ⟨h, 1, none⟩ (.bool true)) ∧ Only h w (w.setCell ⟨h, 1, none⟩ (.bool true)) := by
  obtain ⟨h1, h2, h3, h4⟩ := r
  exact ⟨⟨h1, h2, h3.set 1 _, h4.set (.inr (Nat.le_refl _)) _⟩, (Below.refl _ _).setCell h1 _, only_set _ _ _ _⟩

theorem rd_nextO {T : TypeId} {w : World} {lo hi h : Nat} {A : Option Addr} {l : List UInt8} {s : Bool} (r : RD T w lo hi h A l s) (k : Nat) (hk : k ≤ l.length) :
    RD T (w.setCell ⟨h, 0, none⟩ (.slice (cutA A k l.length) (l.length - k) (l.length - k))) lo hi h (cutA A k l.length) (l.drop k) s ∧ RB (w.setCell ⟨h, 0, none⟩ (.slice (cutA A k l.length) (l.length - k) (l.length - k))) A lo h (l.take k) ∧
    Below lo w (w.setCell ⟨h, 0, none⟩ (.slice (cutA A k l.length) (l.length - k) (l.length - k))) ∧ Only h w (w.setCell ⟨h, 0, none⟩ (.slice (cutA A k l.length) (l.length - k) (l.length - k))) := by
  obtain ⟨h1, h2, h3, h4⟩ := r
  refine ⟨⟨h1, h2, ?_, (h4.drop k l.length (Nat.le_refl _)).set (.inr (Nat.le_refl _)) _⟩, (h4.take k).set (.inr (Nat.le_refl _)) _, (Below.refl _ _).setCell h1 _, only_set _ _ _ _⟩
  rw [List.length_drop]
  exact h3.set 0 _

theorem next_badO (lo hi h : Nat) (A : Option Addr) (l : List UInt8) (s : Bool) (n : Int) (w : World) (hr : RD 136 w lo hi h A l s) (hm : l.length ≤ 140737488355328) (h0 : -9223372036854775808 ≤ n) (h1 : n ≤ 9223372036854775807) (hbad : BadN s l.length n) :
    Calls Tryz.prog 99 #[.pointer (some ⟨h, 0, none⟩), .int .i64 n] w fun e w' => e = .returned (.slice none 0 0) ∧ RD 136 w' lo hi h A l true ∧ Below lo w w' ∧ Only h w w' := by
  have hc := hr.2.2.1.cell 0
  have hd := hr.2.2.1.cell 1
  have hf := hr.2.2.1.thaw 1
  simp at hc hd
  have K := Lib.hid (rd_shortO hr)
  clear hr
  by_cases hs : s = true
  · subst hs
    go_enter Tryz.func99, Tryz.ntmps99
    go_wp2
    go_ret
    exact ⟨rfl, K.out⟩
  · have hs' : s = false := by simpa using hs
    subst hs'
    clear hs
    by_cases hn : n < 0
    · go_enter Tryz.func99, Tryz.ntmps99
      go_wp2
      go_ret
      exact ⟨rfl, K.out⟩
    · have hl : (l.length : Int) < n := by
        unfold BadN at hbad
        rcases hbad with h | h | h
        · cases h
        · exact absurd h hn
        · exact h
      have hn0 : decide (n < 0) = false := by simpa using hn
      clear hbad hn
      go_enter Tryz.func99, Tryz.ntmps99
      go_wp2
      go_ret
      exact ⟨rfl, K.out⟩

theorem next_okO (lo hi h : Nat) (A : Option Addr) (l : List UInt8) (k : Nat) (w : World) (hr : RD 136 w lo hi h A l false) (hm : l.length ≤ 140737488355328) (hk : k ≤ l.length) :
    Calls Tryz.prog 99 #[.pointer (some ⟨h, 0, none⟩), .int .i64 (k : Int)] w fun e w' => e = .returned (.slice A k l.length) ∧ RD 136 w' lo hi h (cutA A k l.length) (l.drop k) false ∧ RB w' A lo h (l.take k) ∧ Below lo w w' ∧ Only h w w' := by
  have hc := hr.2.2.1.cell 0
  have hd := hr.2.2.1.cell 1
  have hf := hr.2.2.1.thaw 0
  simp at hc hd
  have K := Lib.hid (rd_nextO hr k hk)
  clear hr
  go_enter Tryz.func99, Tryz.ntmps99
  go_wp2
  · go_ret
    have g : l.length = k := by assumption
    have e : cutA A k l.length = A := by simp [cutA, g]
    have e' : cutA A k k = A := by simp [cutA]
    have q := K.out
    rw [show l.length - k = 0 by omega, e] at q
    rw [e']
    exact ⟨rfl, q⟩
  · go_ret
    have g : ¬ l.length = k := by assumption
    have e : cutA A k l.length = A.map (·.add k) := by simp [cutA, g]
    have q := K.out
    rw [e] at q
    rw [e]
    exact ⟨rfl, q⟩

theorem num_badO (lo hi h : Nat) (A : Option Addr) (l : List UInt8) (s : Bool) (n : Int) (w : World) (hr : RD 136 w lo hi h A l s) (hm : l.length ≤ 140737488355328) (h0 : -9223372036854775808 ≤ n) (h1 : n ≤ 9223372036854775807) (hbad : BadN s l.length n) :
    Calls Tryz.prog 66 #[.pointer (some ⟨h, 0, none⟩), .int .i64 n] w fun e w' => e = .returned (.int .u64 0) ∧ RD 136 w' lo hi h A l true ∧ Below lo w w' ∧ Only h w w' := by
  go_enter Tryz.func66, Tryz.ntmps66
  go_wp2_with (go_at_call 99; (with_reducible refine (next_badO lo hi h A l s n _ hr hm h0 h1 hbad).mono ?_); rintro e w1 ⟨rfl, hr1, hb1, hz⟩; have HZ := Lib.hid hz; clear hz)
  go_rounds 1
  go_ret
  exact ⟨rfl, hr1, hb1, HZ.out⟩

theorem num_okO (lo hi h : Nat) (A : Option Addr) (l : List UInt8) (k : Nat) (sz : Int) (hsz : Hid (sz = k)) (w : World) (hr : RD 136 w lo hi h A l false) (hm : l.length ≤ 140737488355328) (hk : k ≤ l.length) :
    Calls Tryz.prog 66 #[.pointer (some ⟨h, 0, none⟩), .int .i64 sz] w fun e w' => e = .returned (.int .u64 (numU (l.take k))) ∧ RD 136 w' lo hi h (cutA A k l.length) (l.drop k) false ∧ Below lo w w' ∧ Only h w w' := by
  obtain rfl := hsz.out
  clear hsz
  obtain ⟨x, hx⟩ : ∃ x, x = l.take k := ⟨_, rfl⟩
  have htk : x.length = k := by rw [hx]; simp; omega
  have HT := Lib.hid htk
  rw [← hx]
  have HX := Lib.hid hx
  clear htk hx
  go_enter Tryz.func66, Tryz.ntmps66
  go_wp2_with (go_at_call 99; (with_reducible refine (next_okO lo hi h A l k _ hr hm hk).mono ?_); rintro e w1 ⟨rfl, hr1, hrb1, hb1, hz⟩; rw [← HX.out] at hrb1; have HZ := Lib.hid hz; clear hz)
  go_loop [5, 12] (fun t i => ∃ j : Nat, j ≤ k ∧ i = .int .i64 j ∧ t = .int .u64 (numU (x.take j))) (fun _ i => k - (intOf i).toNat)
  case atStart => exact ⟨0, Nat.zero_le _, rfl, rfl⟩
  case round =>
    obtain ⟨j, hj, rfl, rfl⟩ := hrel
    obtain ⟨q0, q1⟩ := numU_lo (x.take j)
    by_cases hlt : j < k
    · have hjx : j < x.length := by rw [HT.out]; exact hlt
      obtain ⟨ad, rfl, g1, g2, hc⟩ := hrb1 (by omega)
      have hcell := hc j hjx
      unfold bc at hcell
      have HN := Lib.hid (numU_take x j hjx)
      obtain ⟨y, hy⟩ : ∃ y, y = numU (x.take j) := ⟨_, rfl⟩
      rw [← hy] at q0 q1 HN ⊢
      obtain ⟨b, hb⟩ : ∃ b : Int, b = (x[j].toNat : Int) := ⟨_, rfl⟩
      have hb0 : 0 ≤ b := by omega
      have hb2 : b < 256 := by have := x[j].toNat_lt; omega
      rw [← hb] at hcell HN
      have HB := Lib.hid hb
      have HY := Lib.hid hy
      clear hb hy hc
      go_wp2
      go_round
      case rel => exact ⟨j + 1, by omega, by go_num, by rw [or8w y b q0 q1 hb0 hb2, HN.out]⟩
      case measure => simp [intOf]; omega
    · obtain rfl : j = k := by omega
      go_wp2
      go_ret
      rw [List.take_of_length_le (by rw [HT.out]; omega)]
      exact ⟨rfl, hr1, hb1, HZ.out⟩

/-- A number read, whatever the reader's state: its value, what is left, whether the end came too soon. -/
def nV (l : List UInt8) (s : Bool) (k : Nat) : Int := if s = true ∨ l.length < k then 0 else numU (l.take k)
def nL (l : List UInt8) (s : Bool) (k : Nat) : List UInt8 := if s = true ∨ l.length < k then l else l.drop k
def nS (l : List UInt8) (s : Bool) (k : Nat) : Bool := if s = true ∨ l.length < k then true else false

/-- What 'Num' leaves. -/
def NumEnd (T : TypeId) (lo hi h : Nat) (v : Int) (l : List UInt8) (s : Bool) (w : World) (e : Ending) (w' : World) : Prop :=
  ∃ A', e = .returned (.int .u64 v) ∧ RD T w' lo hi h A' l s ∧ Below lo w w' ∧ Only h w w'

theorem num_any (lo hi h : Nat) (A : Option Addr) (l : List UInt8) (s : Bool) (k : Nat) (sz : Int) (hsz : Hid (sz = k)) (hk : k ≤ 1000) (w : World) (hr : RD 136 w lo hi h A l s) (hm : l.length ≤ 100000) :
    Calls Tryz.prog 66 #[.pointer (some ⟨h, 0, none⟩), .int .i64 sz] w (NumEnd 136 lo hi h (nV l s k) (nL l s k) (nS l s k) w) := by
  by_cases hc : s = true ∨ l.length < k
  · have hbad : BadN s l.length sz := by
      rw [hsz.out]
      rcases hc with h | h
      · exact .inl h
      · exact .inr (.inr (by omega))
    have hs := hsz.out
    have e1 : nV l s k = 0 := if_pos hc
    have e2 : nL l s k = l := if_pos hc
    have e3 : nS l s k = true := if_pos hc
    rw [e1, e2, e3]
    refine (num_badO lo hi h A l s sz w hr (by omega) (by omega) (by omega) hbad).mono ?_
    rintro e w' ⟨rfl, h1, h2, h3⟩
    exact ⟨_, rfl, h1, h2, h3⟩
  · have hs : s = false := by cases s; rfl; exact absurd (.inl rfl) hc
    have e1 : nV l s k = numU (l.take k) := if_neg hc
    have e2 : nL l s k = l.drop k := if_neg hc
    have e3 : nS l s k = false := if_neg hc
    rw [e1, e2, e3]
    subst hs
    refine (num_okO lo hi h A l k sz hsz w hr (by omega) (by omega)).mono ?_
    rintro e w' ⟨rfl, h1, h2, h3⟩
    exact ⟨_, rfl, h1, h2, h3⟩

theorem nL_len (l : List UInt8) (s : Bool) (k : Nat) : (nL l s k).length ≤ l.length := by
  unfold nL
  split
  · exact Nat.le_refl _
  · simp

theorem nV_lo (l : List UInt8) (s : Bool) (k : Nat) : 0 ≤ nV l s k ∧ nV l s k < 18446744073709551616 := by
  unfold nV
  split
  · omega
  · exact numU_lo _

end Go.Proofs.YtnmnihlhcokjpaaGreatDoor

/- A configuration read, as the program reads it, whatever the reader's state. -/
namespace Go.Proofs.YtnmnihlhcokjpaaGreatDoor
set_option maxRecDepth 100000
open Go.ChangeShapes Go.WideShapes Go.ChangeAt Go.RowKit
set_option linter.unusedVariables false

theorem BB.only {h g : Nat} {w w' : World} {tc ch ak : Bool} {ro co br po ag ma he de : Int} (o : Only h w w') (k : BB w g tc ch ak ro co br po ag ma he de) (hg : g ≠ h) : BB w' g tc ch ak ro co br po ag ma he de := o.bk k hg

/-- One number read: its value, what is left, whether the end came too soon. -/
def NR (l : List UInt8) (s : Bool) (k : Nat) (v : Int) (l' : List UInt8) (s' : Bool) : Prop := nV l s k = v ∧ nL l s k = l' ∧ nS l s k = s'

/-- What 'config' leaves. -/
def CfgEnd (lo hi h : Nat) (ch ak : Bool) (ro co br po ag ma he de : Int) (l : List UInt8) (s : Bool) (w : World) (e : Ending) (w' : World) : Prop :=
  ∃ A', e = .returned (.agg #[.bool false, .bool ch, .bool ak, .int .u64 ro, .int .u32 co, .int .u64 br, .int .u16 po, .int .u16 ag, .int .u16 ma, .int .u16 he, .int .u16 de]) ∧ RD 136 w' lo hi h A' l s ∧ Below lo w w'

/-- The state between two of its statements: the reader; the answer's place, still empty; the Bpdu so far. -/
def CS (lo hi h : Nat) (l : List UInt8) (s : Bool) (cs : List Value) (w wc : World) : Prop :=
  ∃ A, RD 136 wc lo hi h A l s ∧ BB wc w.heap.size false false false 0 0 0 0 0 0 0 0 ∧ Bk wc (w.heap.size + 1) 46 cs ∧ Below lo w wc

theorem CS.num {lo hi h : Nat} {l l' : List UInt8} {s s' : Bool} {cs : List Value} {w wc wd : World} {A' : Option Addr} (c : CS lo hi h l s cs w wc) (hh : h < w.heap.size) (hr : RD 136 wd lo hi h A' l' s') (hb : Below lo wc wd) (ho : Only h wc wd) : CS lo hi h l' s' cs w wd := by
  obtain ⟨A, _, h2, h3, h4⟩ := c
  exact ⟨A', hr, h2.only ho (Nat.ne_of_gt hh), ho.bk h3 (Nat.ne_of_gt (Nat.lt_succ_of_lt hh)), h4.trans hb⟩

theorem CS.put {lo hi h : Nat} {l : List UInt8} {s : Bool} {cs : List Value} {w wc : World} (c : CS lo hi h l s cs w wc) (hhi : hi ≤ w.heap.size) (i : Nat) (u : Value) : CS lo hi h l s (cs.set i u) w (wc.setCell ⟨w.heap.size + 1, i, none⟩ u) := by
  obtain ⟨A, h1, h2, h3, h4⟩ := c
  have hlo : lo ≤ w.heap.size := Nat.le_trans h1.1 (Nat.le_trans (Nat.le_of_lt h1.2.1) hhi)
  exact ⟨A, h1.set (.inr (Nat.le_succ_of_le hhi)) u, Bk.far h2 (p := ⟨w.heap.size + 1, i, none⟩) (Nat.succ_ne_self _) u, h3.set i u, h4.setCell (Nat.le_succ_of_le hlo) u⟩

/-- The same with the array, behind so many rounds. -/
def CA (lo hi h : Nat) (l : List UInt8) (s : Bool) (cs arr : List Value) (w wc : World) : Prop := CS lo hi h l s cs w wc ∧ Bk wc (w.heap.size + 2) 140 arr

def CL (lo hi h : Nat) (l4 l5 l6 l7 l8 l9 : List UInt8) (s4 s5 s6 s7 s8 s9 : Bool) (cs : List Value) (po ag ma he de : Int) (w wc : World) : Nat → Prop
  | 0 => CA lo hi h l4 s4 cs [.int .u16 0, .int .u16 0, .int .u16 0, .int .u16 0, .int .u16 0] w wc
  | 1 => CA lo hi h l5 s5 cs [.int .u16 po, .int .u16 0, .int .u16 0, .int .u16 0, .int .u16 0] w wc
  | 2 => CA lo hi h l6 s6 cs [.int .u16 po, .int .u16 ag, .int .u16 0, .int .u16 0, .int .u16 0] w wc
  | 3 => CA lo hi h l7 s7 cs [.int .u16 po, .int .u16 ag, .int .u16 ma, .int .u16 0, .int .u16 0] w wc
  | 4 => CA lo hi h l8 s8 cs [.int .u16 po, .int .u16 ag, .int .u16 ma, .int .u16 he, .int .u16 0] w wc
  | _ => CA lo hi h l9 s9 cs [.int .u16 po, .int .u16 ag, .int .u16 ma, .int .u16 he, .int .u16 de] w wc

theorem CA.num {lo hi h : Nat} {l l' : List UInt8} {s s' : Bool} {cs arr : List Value} {w wc wd : World} {A' : Option Addr} (c : CA lo hi h l s cs arr w wc) (hh : h < w.heap.size) (hr : RD 136 wd lo hi h A' l' s') (hb : Below lo wc wd) (ho : Only h wc wd) : CA lo hi h l' s' cs arr w wd :=
  ⟨c.1.num hh hr hb ho, ho.bk c.2 (Nat.ne_of_gt (Nat.lt_succ_of_lt (Nat.lt_succ_of_lt hh)))⟩

theorem CA.arr {lo hi h : Nat} {l : List UInt8} {s : Bool} {cs arr : List Value} {w wc : World} (c : CA lo hi h l s cs arr w wc) (hhi : hi ≤ w.heap.size) (i : Nat) (u : Value) : CA lo hi h l s cs (arr.set i u) w (wc.setCell ⟨w.heap.size + 2, i, none⟩ u) := by
  obtain ⟨⟨A, h1, h2, h3, h4⟩, h5⟩ := c
  have hlo : lo ≤ w.heap.size := Nat.le_trans h1.1 (Nat.le_trans (Nat.le_of_lt h1.2.1) hhi)
  exact ⟨⟨A, h1.set (.inr (Nat.le_succ_of_le (Nat.le_succ_of_le hhi))) u, Bk.far h2 (p := ⟨w.heap.size + 2, i, none⟩) (by show w.heap.size + 2 ≠ _; omega) u, h3.far (p := ⟨w.heap.size + 2, i, none⟩) (by show w.heap.size + 2 ≠ _; omega) u, h4.setCell (Nat.le_succ_of_le (Nat.le_succ_of_le hlo)) u⟩, h5.set i u⟩

theorem CA.put {lo hi h : Nat} {l : List UInt8} {s : Bool} {cs arr : List Value} {w wc : World} (c : CA lo hi h l s cs arr w wc) (hhi : hi ≤ w.heap.size) (i : Nat) (u : Value) : CA lo hi h l s (cs.set i u) arr w (wc.setCell ⟨w.heap.size + 1, i, none⟩ u) :=
  ⟨c.1.put hhi i u, c.2.far (p := ⟨w.heap.size + 1, i, none⟩) (by show w.heap.size + 1 ≠ _; omega) u⟩

/-- The reader, and the answer's place as it is being filled. -/
def CR (lo hi h : Nat) (l : List UInt8) (s : Bool) (cs : List Value) (w wc : World) : Prop :=
  ∃ A, RD 136 wc lo hi h A l s ∧ Bk wc w.heap.size 46 cs ∧ Below lo w wc

theorem CR.put {lo hi h : Nat} {l : List UInt8} {s : Bool} {cs : List Value} {w wc : World} (c : CR lo hi h l s cs w wc) (hhi : hi ≤ w.heap.size) (i : Nat) (u : Value) : CR lo hi h l s (cs.set i u) w (wc.setCell ⟨w.heap.size, i, none⟩ u) := by
  obtain ⟨A, h1, h2, h3⟩ := c
  have hlo : lo ≤ w.heap.size := Nat.le_trans h1.1 (Nat.le_trans (Nat.le_of_lt h1.2.1) hhi)
  exact ⟨A, h1.set (.inr hhi) u, h2.set i u, h3.setCell hlo u⟩

theorem CA.answer {lo hi h : Nat} {l : List UInt8} {s : Bool} {cs arr : List Value} {w wc : World} (c : CA lo hi h l s cs arr w wc) : CR lo hi h l s [.bool false, .bool false, .bool false, .int .u64 0, .int .u32 0, .int .u64 0, .int .u16 0, .int .u16 0, .int .u16 0, .int .u16 0, .int .u16 0] w wc := by
  obtain ⟨⟨A, h1, h2, _, h4⟩, _⟩ := c
  exact ⟨A, h1, h2, h4⟩

set_option maxHeartbeats 2000000 in
theorem config_any (lo hi h : Nat) (A : Option Addr) (l0 l1 l2 l3 l4 l5 l6 l7 l8 l9 : List UInt8) (s0 s1 s2 s3 s4 s5 s6 s7 s8 s9 : Bool) (v0 ro co br po ag ma he de : Int) (ch ak : Bool)
    (h0 : Hid (NR l0 s0 1 v0 l1 s1)) (h1 : Hid (NR l1 s1 8 ro l2 s2)) (h2 : Hid (NR l2 s2 4 co l3 s3)) (h3 : Hid (NR l3 s3 8 br l4 s4)) (h4 : Hid (NR l4 s4 2 po l5 s5)) (h5 : Hid (NR l5 s5 2 ag l6 s6)) (h6 : Hid (NR l6 s6 2 ma l7 s7)) (h7 : Hid (NR l7 s7 2 he l8 s8)) (h8 : Hid (NR l8 s8 2 de l9 s9))
    (hch : (bits .and .u64 v0 1 != 0) = ch) (hak : (bits .and .u64 v0 128 != 0) = ak) (hin : BpIn ro co br po ag ma he de) (hm : l0.length ≤ 100000) (w : World) (hr : RD 136 w lo hi h A l0 s0) (hhi : hi ≤ w.heap.size) :
    Calls Tryz.prog 68 #[.pointer (some ⟨h, 0, none⟩)] w (CfgEnd lo hi h ch ak ro co br po ag ma he de l9 s9 w) := by
  have m1 : l1.length ≤ 100000 := by rw [← h0.out.2.1]; exact Nat.le_trans (nL_len _ _ _) hm
  have m2 : l2.length ≤ 100000 := by rw [← h1.out.2.1]; exact Nat.le_trans (nL_len _ _ _) m1
  have m3 : l3.length ≤ 100000 := by rw [← h2.out.2.1]; exact Nat.le_trans (nL_len _ _ _) m2
  have m4 : l4.length ≤ 100000 := by rw [← h3.out.2.1]; exact Nat.le_trans (nL_len _ _ _) m3
  have m5 : l5.length ≤ 100000 := by rw [← h4.out.2.1]; exact Nat.le_trans (nL_len _ _ _) m4
  have m6 : l6.length ≤ 100000 := by rw [← h5.out.2.1]; exact Nat.le_trans (nL_len _ _ _) m5
  have m7 : l7.length ≤ 100000 := by rw [← h6.out.2.1]; exact Nat.le_trans (nL_len _ _ _) m6
  have m8 : l8.length ≤ 100000 := by rw [← h7.out.2.1]; exact Nat.le_trans (nL_len _ _ _) m7
  have hhz : h < w.heap.size := Nat.lt_of_lt_of_le hr.2.1 hhi
  have hlz : lo ≤ w.heap.size := Nat.le_trans hr.1 (Nat.le_of_lt hhz)
  obtain ⟨⟨r0, r1⟩, ⟨o0, o1⟩, ⟨b0, b1⟩, ⟨p0, p1⟩, ⟨a0, a1⟩, ⟨n0, n1⟩, ⟨e0, e1⟩, ⟨d0, d1⟩⟩ := hin
  have wco : IntKind.u32.wrap co = co := by rw [show IntKind.u32.wrap co = co % 4294967296 by simp [IntKind.wrap, IntKind.bits, IntKind.signed]]; omega
  have wpo : IntKind.u16.wrap po = po := by rw [show IntKind.u16.wrap po = po % 65536 by simp [IntKind.wrap, IntKind.bits, IntKind.signed]]; omega
  have wag : IntKind.u16.wrap ag = ag := by rw [show IntKind.u16.wrap ag = ag % 65536 by simp [IntKind.wrap, IntKind.bits, IntKind.signed]]; omega
  have wma : IntKind.u16.wrap ma = ma := by rw [show IntKind.u16.wrap ma = ma % 65536 by simp [IntKind.wrap, IntKind.bits, IntKind.signed]]; omega
  have whe : IntKind.u16.wrap he = he := by rw [show IntKind.u16.wrap he = he % 65536 by simp [IntKind.wrap, IntKind.bits, IntKind.signed]]; omega
  have wde : IntKind.u16.wrap de = de := by rw [show IntKind.u16.wrap de = de % 65536 by simp [IntKind.wrap, IntKind.bits, IntKind.signed]]; omega
  go_enter Tryz.func68, Tryz.ntmps68
  go_wp2_with fail
  obtain ⟨wa, hBa, hba, hsa, hwa⟩ := bboxed w false false false 0 0 0 0 0 0 0 0
  rw [← hwa]
  have hza : wa.heap.size = w.heap.size + 1 := by rw [hwa]; simp
  have HZA := Lib.hid hza
  clear hwa hza
  (with_reducible refine (num_any lo hi h A l0 s0 1 1 (Lib.hid rfl) (by omega) _ (hr.below hba hhi) hm).mono ?_); rintro e wb ⟨Ab, rfl, hRb, hbb, hob⟩
  rw [h0.out.1]
  rw [h0.out.2.1, h0.out.2.2] at hRb
  have hBb := hBa.only hob (Nat.ne_of_gt hhz)
  have hzb : Hid (wb.heap.size = w.heap.size + 1) := Lib.hid (hob.1.trans HZA.out)
  have hbwb : Below lo w wb := (hba.mono hlz).trans hbb
  clear hBa hba hsa HZA hbb hob
  go_wp2_with fail
  obtain ⟨wc, hBc, hbc, hsc, hwc⟩ := bboxed wb false ch ak 0 0 0 0 0 0 0 0
  rw [← hwc]
  have hzc : Hid (wc.heap.size = w.heap.size + 2) := by show _ = _; rw [hwc, World.size_alloc, hzb.out]
  rw [hzb.out] at hBc ⊢
  have c0 : CS lo hi h l1 s1 [.bool false, .bool ch, .bool ak, .int .u64 0, .int .u32 0, .int .u64 0, .int .u16 0, .int .u16 0, .int .u16 0, .int .u16 0, .int .u16 0] w wc :=
    ⟨Ab, hRb.below hbc (by rw [hzb.out]; omega), hBb.below hbc (by rw [hzb.out]; omega), hBc, hbwb.trans (hbc.mono (by rw [hzb.out]; omega))⟩
  clear hwc hBc hbc hsc hBb hbwb hRb
  obtain ⟨A1, hR1, _⟩ := id c0
  (with_reducible refine (num_any lo hi h A1 l1 s1 8 8 (Lib.hid rfl) (by omega) _ hR1 m1).mono ?_); rintro e wd ⟨Ad, rfl, hRd, hbd, hod⟩
  rw [h1.out.1]
  rw [h1.out.2.1, h1.out.2.2] at hRd
  have d0 := c0.num hhz hRd hbd hod
  have hzd : Hid (wd.heap.size = w.heap.size + 2) := Lib.hid (hod.1.trans hzc.out)
  clear hR1 hRd hbd hod hzc c0
  obtain ⟨_, _, _, hX, _⟩ := id d0
  have hx := hX.cell 3
  have hf := hX.thaw 3
  clear hX
  simp only [List.getElem?_cons_zero, List.getElem?_cons_succ] at hx
  go_wp2_with fail
  clear hx hf
  obtain ⟨wc, hwc⟩ : ∃ wc, wc = wd.setCell ⟨w.heap.size + 1, 3, none⟩ (.int .u64 ro) := ⟨_, rfl⟩
  have c1 : CS lo hi h l2 s2 [.bool false, .bool ch, .bool ak, .int .u64 ro, .int .u32 0, .int .u64 0, .int .u16 0, .int .u16 0, .int .u16 0, .int .u16 0, .int .u16 0] w wc := by rw [hwc]; exact d0.put hhi 3 _
  have hzc : Hid (wc.heap.size = w.heap.size + 2) := by show _ = _; rw [hwc, ← hzd.out]; simp [World.setCell]
  rw [← hwc]
  clear hwc hzd d0
  obtain ⟨A1, hR1, _⟩ := id c1
  (with_reducible refine (num_any lo hi h A1 l2 s2 4 4 (Lib.hid rfl) (by omega) _ hR1 m2).mono ?_); rintro e wd ⟨Ad, rfl, hRd, hbd, hod⟩
  rw [h2.out.1]
  rw [h2.out.2.1, h2.out.2.2] at hRd
  have d1 := c1.num hhz hRd hbd hod
  have hzd : Hid (wd.heap.size = w.heap.size + 2) := Lib.hid (hod.1.trans hzc.out)
  clear hR1 hRd hbd hod hzc c1
  obtain ⟨_, _, _, hX, _⟩ := id d1
  have hx := hX.cell 4
  have hf := hX.thaw 4
  clear hX
  simp only [List.getElem?_cons_zero, List.getElem?_cons_succ] at hx
  go_wp2_with fail
  clear hx hf
  obtain ⟨wc, hwc⟩ : ∃ wc, wc = wd.setCell ⟨w.heap.size + 1, 4, none⟩ (.int .u32 co) := ⟨_, rfl⟩
  have c2 : CS lo hi h l3 s3 [.bool false, .bool ch, .bool ak, .int .u64 ro, .int .u32 co, .int .u64 0, .int .u16 0, .int .u16 0, .int .u16 0, .int .u16 0, .int .u16 0] w wc := by rw [hwc]; exact d1.put hhi 4 _
  have hzc : Hid (wc.heap.size = w.heap.size + 2) := by show _ = _; rw [hwc, ← hzd.out]; simp [World.setCell]
  rw [← hwc]
  clear hwc hzd d1
  obtain ⟨A1, hR1, _⟩ := id c2
  (with_reducible refine (num_any lo hi h A1 l3 s3 8 8 (Lib.hid rfl) (by omega) _ hR1 m3).mono ?_); rintro e wd ⟨Ad, rfl, hRd, hbd, hod⟩
  rw [h3.out.1]
  rw [h3.out.2.1, h3.out.2.2] at hRd
  have d2 := c2.num hhz hRd hbd hod
  have hzd : Hid (wd.heap.size = w.heap.size + 2) := Lib.hid (hod.1.trans hzc.out)
  clear hR1 hRd hbd hod hzc c2
  obtain ⟨_, _, _, hX, _⟩ := id d2
  have hx := hX.cell 5
  have hf := hX.thaw 5
  clear hX
  simp only [List.getElem?_cons_zero, List.getElem?_cons_succ] at hx
  go_wp2_with fail
  clear hx hf
  obtain ⟨wc, hwc⟩ : ∃ wc, wc = wd.setCell ⟨w.heap.size + 1, 5, none⟩ (.int .u64 br) := ⟨_, rfl⟩
  have c3 : CS lo hi h l4 s4 [.bool false, .bool ch, .bool ak, .int .u64 ro, .int .u32 co, .int .u64 br, .int .u16 0, .int .u16 0, .int .u16 0, .int .u16 0, .int .u16 0] w wc := by rw [hwc]; exact d2.put hhi 5 _
  have hzc : Hid (wc.heap.size = w.heap.size + 2) := by show _ = _; rw [hwc, ← hzd.out]; simp [World.setCell]
  rw [← hwc, hzd.out]
  clear hwc hzd d2
  obtain ⟨wx, hwx⟩ : ∃ wx, wx = wc.alloc (.cells #[.int .u16 0, .int .u16 0, .int .u16 0, .int .u16 0, .int .u16 0] 140) := ⟨_, rfl⟩
  have hA0 : Bk wx (w.heap.size + 2) 140 [.int .u16 0, .int .u16 0, .int .u16 0, .int .u16 0, .int .u16 0] := by rw [hwx, ← hzc.out]; exact heap_alloc_new wc _
  have hbx : Below wc.heap.size wc wx := by rw [hwx]; exact below_new (Nat.le_refl _)
  rw [hzc.out] at hbx
  have cx : CA lo hi h l4 s4 [.bool false, .bool ch, .bool ak, .int .u64 ro, .int .u32 co, .int .u64 br, .int .u16 0, .int .u16 0, .int .u16 0, .int .u16 0, .int .u16 0] [.int .u16 0, .int .u16 0, .int .u16 0, .int .u16 0, .int .u16 0] w wx := by
    obtain ⟨A, q1, q2, q3, q4⟩ := c3
    exact ⟨⟨A, q1.below hbx (by omega), q2.below hbx (by omega), q3.below hbx (by omega), q4.trans (hbx.mono (by omega))⟩, hA0⟩
  rw [← hwx]
  clear hwx hA0 hbx c3 hzc
  go_loopw [26] (fun i wr => ∃ j : Nat, j ≤ 5 ∧ i = .int .i64 j ∧ CL lo hi h l4 l5 l6 l7 l8 l9 s4 s5 s6 s7 s8 s9 [.bool false, .bool ch, .bool ak, .int .u64 ro, .int .u32 co, .int .u64 br, .int .u16 0, .int .u16 0, .int .u16 0, .int .u16 0, .int .u16 0] po ag ma he de w wr j) (fun i _ => 5 - (intOf i).toNat)
  case atStart => exact ⟨0, by omega, rfl, cx⟩
  case round =>
    obtain ⟨j, hj, rfl, hc⟩ := hrel
    clear cx
    match j, hj with
    | 0, _ =>
      have c : CA lo hi h l4 s4 [.bool false, .bool ch, .bool ak, .int .u64 ro, .int .u32 co, .int .u64 br, .int .u16 0, .int .u16 0, .int .u16 0, .int .u16 0, .int .u16 0] [.int .u16 0, .int .u16 0, .int .u16 0, .int .u16 0, .int .u16 0] w wr := hc
      clear hc
      obtain ⟨⟨A1, hR1, _⟩, _⟩ := id c
      go_wp2_with fail
      (with_reducible refine (num_any lo hi h A1 l4 s4 2 2 (Lib.hid rfl) (by omega) _ hR1 m4).mono ?_); rintro e wd ⟨Ad, rfl, hRd, hbd, hod⟩
      rw [h4.out.1]
      rw [h4.out.2.1, h4.out.2.2] at hRd
      have d := c.num hhz hRd hbd hod
      clear hR1 hRd hbd hod c
      have hx := d.2.cell 0
      have hf := d.2.thaw 0
      simp only [List.getElem?_cons_zero] at hx
      have D := d.arr hhi 0 (.int .u16 po)
      clear d
      go_wp2
      go_roundw
      case rel => exact ⟨1, by omega, by go_num, D⟩
      case measure => simp [intOf]
    | 1, _ =>
      have c : CA lo hi h l5 s5 [.bool false, .bool ch, .bool ak, .int .u64 ro, .int .u32 co, .int .u64 br, .int .u16 0, .int .u16 0, .int .u16 0, .int .u16 0, .int .u16 0] [.int .u16 po, .int .u16 0, .int .u16 0, .int .u16 0, .int .u16 0] w wr := hc
      clear hc
      obtain ⟨⟨A1, hR1, _⟩, _⟩ := id c
      go_wp2_with fail
      (with_reducible refine (num_any lo hi h A1 l5 s5 2 2 (Lib.hid rfl) (by omega) _ hR1 m5).mono ?_); rintro e wd ⟨Ad, rfl, hRd, hbd, hod⟩
      rw [h5.out.1]
      rw [h5.out.2.1, h5.out.2.2] at hRd
      have d := c.num hhz hRd hbd hod
      clear hR1 hRd hbd hod c
      have hx := d.2.cell 1
      have hf := d.2.thaw 1
      simp only [List.getElem?_cons_zero, List.getElem?_cons_succ] at hx
      have D := d.arr hhi 1 (.int .u16 ag)
      clear d
      go_wp2
      go_roundw
      case rel => exact ⟨2, by omega, by go_num, D⟩
      case measure => simp [intOf]
    | 2, _ =>
      have c : CA lo hi h l6 s6 [.bool false, .bool ch, .bool ak, .int .u64 ro, .int .u32 co, .int .u64 br, .int .u16 0, .int .u16 0, .int .u16 0, .int .u16 0, .int .u16 0] [.int .u16 po, .int .u16 ag, .int .u16 0, .int .u16 0, .int .u16 0] w wr := hc
      clear hc
      obtain ⟨⟨A1, hR1, _⟩, _⟩ := id c
      go_wp2_with fail
      (with_reducible refine (num_any lo hi h A1 l6 s6 2 2 (Lib.hid rfl) (by omega) _ hR1 m6).mono ?_); rintro e wd ⟨Ad, rfl, hRd, hbd, hod⟩
      rw [h6.out.1]
      rw [h6.out.2.1, h6.out.2.2] at hRd
      have d := c.num hhz hRd hbd hod
      clear hR1 hRd hbd hod c
      have hx := d.2.cell 2
      have hf := d.2.thaw 2
      simp only [List.getElem?_cons_zero, List.getElem?_cons_succ] at hx
      have D := d.arr hhi 2 (.int .u16 ma)
      clear d
      go_wp2
      go_roundw
      case rel => exact ⟨3, by omega, by go_num, D⟩
      case measure => simp [intOf]
    | 3, _ =>
      have c : CA lo hi h l7 s7 [.bool false, .bool ch, .bool ak, .int .u64 ro, .int .u32 co, .int .u64 br, .int .u16 0, .int .u16 0, .int .u16 0, .int .u16 0, .int .u16 0] [.int .u16 po, .int .u16 ag, .int .u16 ma, .int .u16 0, .int .u16 0] w wr := hc
      clear hc
      obtain ⟨⟨A1, hR1, _⟩, _⟩ := id c
      go_wp2_with fail
      (with_reducible refine (num_any lo hi h A1 l7 s7 2 2 (Lib.hid rfl) (by omega) _ hR1 m7).mono ?_); rintro e wd ⟨Ad, rfl, hRd, hbd, hod⟩
      rw [h7.out.1]
      rw [h7.out.2.1, h7.out.2.2] at hRd
      have d := c.num hhz hRd hbd hod
      clear hR1 hRd hbd hod c
      have hx := d.2.cell 3
      have hf := d.2.thaw 3
      simp only [List.getElem?_cons_zero, List.getElem?_cons_succ] at hx
      have D := d.arr hhi 3 (.int .u16 he)
      clear d
      go_wp2
      go_roundw
      case rel => exact ⟨4, by omega, by go_num, D⟩
      case measure => simp [intOf]
    | 4, _ =>
      have c : CA lo hi h l8 s8 [.bool false, .bool ch, .bool ak, .int .u64 ro, .int .u32 co, .int .u64 br, .int .u16 0, .int .u16 0, .int .u16 0, .int .u16 0, .int .u16 0] [.int .u16 po, .int .u16 ag, .int .u16 ma, .int .u16 he, .int .u16 0] w wr := hc
      clear hc
      obtain ⟨⟨A1, hR1, _⟩, _⟩ := id c
      go_wp2_with fail
      (with_reducible refine (num_any lo hi h A1 l8 s8 2 2 (Lib.hid rfl) (by omega) _ hR1 m8).mono ?_); rintro e wd ⟨Ad, rfl, hRd, hbd, hod⟩
      rw [h8.out.1]
      rw [h8.out.2.1, h8.out.2.2] at hRd
      have d := c.num hhz hRd hbd hod
      clear hR1 hRd hbd hod c
      have hx := d.2.cell 4
      have hf := d.2.thaw 4
      simp only [List.getElem?_cons_zero, List.getElem?_cons_succ] at hx
      have D := d.arr hhi 4 (.int .u16 de)
      clear d
      go_wp2
      go_roundw
      case rel => exact ⟨5, by omega, by go_num, D⟩
      case measure => simp [intOf]
    | 5, _ =>
      have c : CA lo hi h l9 s9 [.bool false, .bool ch, .bool ak, .int .u64 ro, .int .u32 co, .int .u64 br, .int .u16 0, .int .u16 0, .int .u16 0, .int .u16 0, .int .u16 0] [.int .u16 po, .int .u16 ag, .int .u16 ma, .int .u16 he, .int .u16 de] w wr := hc
      clear hc
      have y0 : wr.cell? ⟨w.heap.size + 2, 0, none⟩ = some (.int .u16 po) := c.2.cell 0
      obtain ⟨_, _, _, hX, _⟩ := id c.1
      have x6 : wr.cell? ⟨w.heap.size + 1, 6, none⟩ = some (.int .u16 0) := hX.cell 6
      have f6 := hX.thaw 6
      clear hX
      go_wp2_with fail
      obtain ⟨wq, hwq⟩ : ∃ wq, wq = wr.setCell ⟨w.heap.size + 1, 6, none⟩ (.int .u16 po) := ⟨_, rfl⟩
      have cq : CA lo hi h l9 s9 [.bool false, .bool ch, .bool ak, .int .u64 ro, .int .u32 co, .int .u64 br, .int .u16 po, .int .u16 0, .int .u16 0, .int .u16 0, .int .u16 0] [.int .u16 po, .int .u16 ag, .int .u16 ma, .int .u16 he, .int .u16 de] w wq := by rw [hwq]; exact c.put hhi 6 _
      rw [← hwq]
      clear hwq x6 f6 y0 c
      obtain ⟨y1, y2, y3, y4⟩ : wq.cell? ⟨w.heap.size + 2, 1, none⟩ = some (.int .u16 ag) ∧ wq.cell? ⟨w.heap.size + 2, 2, none⟩ = some (.int .u16 ma) ∧ wq.cell? ⟨w.heap.size + 2, 3, none⟩ = some (.int .u16 he) ∧ wq.cell? ⟨w.heap.size + 2, 4, none⟩ = some (.int .u16 de) := ⟨cq.2.cell 1, cq.2.cell 2, cq.2.cell 3, cq.2.cell 4⟩
      obtain ⟨_, _, _, hX, _⟩ := id cq.1
      obtain ⟨d0, d1, d2, d3, d4, d5, d6, d7, d8, d9, d10⟩ := BB.cells (show BB wq (w.heap.size + 1) false ch ak ro co br po 0 0 0 0 from hX)
      obtain ⟨f0, f1, f2, f3, f4, f5, f6, f7, f8, f9, f10⟩ := BB.thaws (show BB wq (w.heap.size + 1) false ch ak ro co br po 0 0 0 0 from hX)
      clear hX
      go_region_held3 (fun w' => w'.cell? ⟨w.heap.size + 2, 1, none⟩ = some (.int .u16 ag) ∧ w'.cell? ⟨w.heap.size + 2, 2, none⟩ = some (.int .u16 ma) ∧ w'.cell? ⟨w.heap.size + 2, 3, none⟩ = some (.int .u16 he) ∧ w'.cell? ⟨w.heap.size + 2, 4, none⟩ = some (.int .u16 de)) (go_keep) (fail)
      clear y1 y2 y3 y4 wco wpo wag wma whe wde hch hak
      obtain ⟨_, _, hBr, _, _⟩ := id cq.1
      obtain ⟨c0, c1, c2, c3, c4, c5, c6, c7, c8, c9, c10⟩ := hBr.cells
      obtain ⟨z0, z1, z2, z3, z4, z5, z6, z7, z8, z9, z10⟩ := hBr.thaws
      clear hBr
      go_wp2_with fail
      have cr := ((((cq.put hhi 7 (.int .u16 ag)).put hhi 8 (.int .u16 ma)).put hhi 9 (.int .u16 he)).put hhi 10 (.int .u16 de)).answer
      have cr := (((((((((((cr.put hhi 0 (.bool false)).put hhi 1 (.bool ch)).put hhi 2 (.bool ak)).put hhi 3 (.int .u64 ro)).put hhi 4 (.int .u32 co)).put hhi 5 (.int .u64 br)).put hhi 6 (.int .u16 po)).put hhi 7 (.int .u16 ag)).put hhi 8 (.int .u16 ma)).put hhi 9 (.int .u16 he)).put hhi 10 (.int .u16 de))
      clear c0 c1 c2 c3 c4 c5 c6 c7 c8 c9 c10 z0 z1 z2 z3 z4 z5 z6 z7 z8 z9 z10 d0 d1 d2 d3 d4 d5 d6 d7 d8 d9 d10 f0 f1 f2 f3 f4 f5 f6 f7 f8 f9 f10 cq
      generalize World.setCell _ ⟨w.heap.size, 10, none⟩ _ = we at cr ⊢
      obtain ⟨A', k1, k2, k3⟩ := cr
      obtain ⟨e0, e1, e2, e3, e4, e5, e6, e7, e8, e9, e10⟩ := BB.cells (show BB we w.heap.size false ch ak ro co br po ag ma he de from k2)
      exact bodyPost_ret (v := .agg #[.bool false, .bool ch, .bool ak, .int .u64 ro, .int .u32 co, .int .u64 br, .int .u16 po, .int .u16 ag, .int .u16 ma, .int .u16 he, .int .u16 de]) (by simp [results, Tryz.results68, go_sem, e0, e1, e2, e3, e4, e5, e6, e7, e8, e9, e10]) rfl ⟨A', rfl, k1, k3.drew⟩

end Go.Proofs.YtnmnihlhcokjpaaGreatDoor

/- What bytes tell: lists and numbers alone. -/
namespace Go.Proofs.YtnmnihlhcokjpaaGreatDoor
set_option maxRecDepth 100000
open Go Go.RowKit
set_option linter.unusedVariables false

/-- The number in so many bytes from a place on. -/
def fld (l : List UInt8) (p k : Nat) : Int := numU ((l.drop p).take k)

/-- What is wrong with bytes. -/
def gE (l : List UInt8) : Int :=
  if l.length < 4 then 2 else if fld l 0 3 ≠ 0 ∨ fld l 3 1 ≠ 0 ∧ fld l 3 1 ≠ 128 then 3 else if fld l 3 1 = 128 then 0 else if l.length < 35 then 2 else if 2147483648 ≤ fld l 13 4 then 4 else if fld l 29 2 ≤ fld l 27 2 then 5 else 0

/-- They tell a TCN; a configuration. -/
def gTc (l : List UInt8) : Bool := gE l == 0 && fld l 3 1 == 128
def gCf (l : List UInt8) : Bool := gE l == 0 && fld l 3 1 == 0
def gCh (l : List UInt8) : Bool := gCf l && fld l 4 1 % 2 == 1
def gAk (l : List UInt8) : Bool := gCf l && decide (128 ≤ fld l 4 1)
def gRo (l : List UInt8) : Int := if gCf l then fld l 5 8 else 0
def gCo (l : List UInt8) : Int := if gCf l then fld l 13 4 else 0
def gBr (l : List UInt8) : Int := if gCf l then fld l 17 8 else 0
def gPo (l : List UInt8) : Int := if gCf l then fld l 25 2 else 0
def gAg (l : List UInt8) : Int := if gCf l then fld l 27 2 else 0
def gMa (l : List UInt8) : Int := if gCf l then fld l 29 2 else 0
def gHe (l : List UInt8) : Int := if gCf l then fld l 31 2 else 0
def gDe (l : List UInt8) : Int := if gCf l then fld l 33 2 else 0

theorem g_bad (l : List UInt8) (h : gE l ≠ 0) : gTc l = false ∧ gCh l = false ∧ gAk l = false ∧ gRo l = 0 ∧ gCo l = 0 ∧ gBr l = 0 ∧ gPo l = 0 ∧ gAg l = 0 ∧ gMa l = 0 ∧ gHe l = 0 ∧ gDe l = 0 := by
  have e : (gE l == 0) = false := by simpa using h
  have c : gCf l = false := by unfold gCf; rw [e]; rfl
  refine ⟨by unfold gTc; rw [e]; rfl, by unfold gCh; rw [c]; rfl, by unfold gAk; rw [c]; rfl, ?_, ?_, ?_, ?_, ?_, ?_, ?_, ?_⟩
  · unfold gRo; rw [c]; rfl
  · unfold gCo; rw [c]; rfl
  · unfold gBr; rw [c]; rfl
  · unfold gPo; rw [c]; rfl
  · unfold gAg; rw [c]; rfl
  · unfold gMa; rw [c]; rfl
  · unfold gHe; rw [c]; rfl
  · unfold gDe; rw [c]; rfl

theorem g_tcn (l : List UInt8) (h : gE l = 0) (k : fld l 3 1 = 128) : gTc l = true ∧ gCh l = false ∧ gAk l = false ∧ gRo l = 0 ∧ gCo l = 0 ∧ gBr l = 0 ∧ gPo l = 0 ∧ gAg l = 0 ∧ gMa l = 0 ∧ gHe l = 0 ∧ gDe l = 0 := by
  have c : gCf l = false := by unfold gCf; rw [k]; simp
  refine ⟨by unfold gTc; rw [h, k]; rfl, by unfold gCh; rw [c]; rfl, by unfold gAk; rw [c]; rfl, ?_, ?_, ?_, ?_, ?_, ?_, ?_, ?_⟩
  · unfold gRo; rw [c]; rfl
  · unfold gCo; rw [c]; rfl
  · unfold gBr; rw [c]; rfl
  · unfold gPo; rw [c]; rfl
  · unfold gAg; rw [c]; rfl
  · unfold gMa; rw [c]; rfl
  · unfold gHe; rw [c]; rfl
  · unfold gDe; rw [c]; rfl

theorem g_conf (l : List UInt8) (h : gE l = 0) (k : fld l 3 1 = 0) : gTc l = false ∧ gCh l = (fld l 4 1 % 2 == 1) ∧ gAk l = decide (128 ≤ fld l 4 1) ∧ gRo l = fld l 5 8 ∧ gCo l = fld l 13 4 ∧ gBr l = fld l 17 8 ∧ gPo l = fld l 25 2 ∧ gAg l = fld l 27 2 ∧ gMa l = fld l 29 2 ∧ gHe l = fld l 31 2 ∧ gDe l = fld l 33 2 := by
  have c : gCf l = true := by unfold gCf; rw [h, k]; rfl
  refine ⟨by unfold gTc; rw [k]; simp, by unfold gCh; rw [c]; simp, by unfold gAk; rw [c]; simp, ?_, ?_, ?_, ?_, ?_, ?_, ?_, ?_⟩
  · unfold gRo; rw [c]; rfl
  · unfold gCo; rw [c]; rfl
  · unfold gBr; rw [c]; rfl
  · unfold gPo; rw [c]; rfl
  · unfold gAg; rw [c]; rfl
  · unfold gMa; rw [c]; rfl
  · unfold gHe; rw [c]; rfl
  · unfold gDe; rw [c]; rfl

/-- The ways of 'Get', by what is wrong. -/
theorem gE_short (l : List UInt8) (h : l.length < 4) : gE l = 2 := by unfold gE; rw [if_pos h]
theorem gE_form (l : List UInt8) (h : ¬ l.length < 4) (k : fld l 0 3 ≠ 0 ∨ fld l 3 1 ≠ 0 ∧ fld l 3 1 ≠ 128) : gE l = 3 := by unfold gE; rw [if_neg h, if_pos k]
theorem gE_tcn (l : List UInt8) (h : ¬ l.length < 4) (b : fld l 0 3 = 0) (k : fld l 3 1 = 128) : gE l = 0 := by
  unfold gE; rw [if_neg h, if_neg (by omega), if_pos k]
theorem gE_few (l : List UInt8) (h : ¬ l.length < 4) (b : fld l 0 3 = 0) (k : fld l 3 1 = 0) (g : l.length < 35) : gE l = 2 := by
  unfold gE; rw [if_neg h, if_neg (by omega), if_neg (by omega), if_pos g]
theorem gE_far (l : List UInt8) (g : ¬ l.length < 35) (b : fld l 0 3 = 0) (k : fld l 3 1 = 0) (c : 2147483648 ≤ fld l 13 4) : gE l = 4 := by
  unfold gE; rw [if_neg (by omega), if_neg (by omega), if_neg (by omega), if_neg g, if_pos c]
theorem gE_old (l : List UInt8) (g : ¬ l.length < 35) (b : fld l 0 3 = 0) (k : fld l 3 1 = 0) (c : ¬ 2147483648 ≤ fld l 13 4) (a : fld l 29 2 ≤ fld l 27 2) : gE l = 5 := by
  unfold gE; rw [if_neg (by omega), if_neg (by omega), if_neg (by omega), if_neg g, if_neg c, if_pos a]
theorem gE_good (l : List UInt8) (g : ¬ l.length < 35) (b : fld l 0 3 = 0) (k : fld l 3 1 = 0) (c : ¬ 2147483648 ≤ fld l 13 4) (a : ¬ fld l 29 2 ≤ fld l 27 2) : gE l = 0 := by
  unfold gE; rw [if_neg (by omega), if_neg (by omega), if_neg (by omega), if_neg g, if_neg c, if_neg a]

theorem numU_pw (k : Nat) : ∀ l : List UInt8, l.length ≤ k → numU l < (256 : Int) ^ k := by
  induction k with
  | zero =>
    intro l h
    obtain rfl : l = [] := List.eq_nil_of_length_eq_zero (by omega)
    decide
  | succ k ih =>
    intro l h
    rcases List.eq_nil_or_concat l with rfl | ⟨m, c, rfl⟩
    · have := ih [] (by simp)
      have e : numU [] = 0 := rfl
      rw [e] at this ⊢
      rw [Int.pow_succ]; omega
    · rw [List.concat_eq_append] at h ⊢
      have hm := ih m (by simp at h; omega)
      rw [numU_snoc, Int.pow_succ]
      have h0 := numU_lo m
      have hc := c.toNat_lt
      omega

theorem fld_lo (l : List UInt8) (p k : Nat) : 0 ≤ fld l p k := (numU_lo _).1
theorem fld_pw (l : List UInt8) (p k : Nat) : fld l p k < (256 : Int) ^ k := numU_pw k _ (by simp; omega)
theorem fld1 (l : List UInt8) (p : Nat) : 0 ≤ fld l p 1 ∧ fld l p 1 < 256 := ⟨fld_lo _ _ _, fld_pw l p 1⟩
theorem fld2 (l : List UInt8) (p : Nat) : 0 ≤ fld l p 2 ∧ fld l p 2 < 65536 := ⟨fld_lo _ _ _, fld_pw l p 2⟩
theorem fld4 (l : List UInt8) (p : Nat) : 0 ≤ fld l p 4 ∧ fld l p 4 < 4294967296 := ⟨fld_lo _ _ _, fld_pw l p 4⟩
theorem fld8 (l : List UInt8) (p : Nat) : 0 ≤ fld l p 8 ∧ fld l p 8 < 18446744073709551616 := ⟨fld_lo _ _ _, fld_pw l p 8⟩

theorem fld_take (l : List UInt8) (p k n : Nat) (h : p + k ≤ n) : fld (l.take n) p k = fld l p k := by
  unfold fld
  rw [List.drop_take, List.take_take, Nat.min_eq_left (by omega)]

theorem nV_pw (l : List UInt8) (s : Bool) (k : Nat) : 0 ≤ nV l s k ∧ nV l s k < (256 : Int) ^ k := by
  refine ⟨(nV_lo l s k).1, ?_⟩
  unfold nV
  split
  · exact Int.pow_pos (by decide)
  · exact numU_pw k _ (by simp; omega)

/-- A number read where there is enough. -/
theorem nr_ok (y : List UInt8) (p k q : Nat) (hq : q = p + k) (h : q ≤ y.length) : NR (y.drop p) false k (fld y p k) (y.drop q) false := by
  subst hq
  have e : ¬ ((false : Bool) = true ∨ (y.drop p).length < k) := by simp; omega
  refine ⟨if_neg e, ?_, if_neg e⟩
  rw [← List.drop_drop]
  exact if_neg e

theorem nr_short {l l' : List UInt8} {s s' : Bool} {k : Nat} {v : Int} (h : NR l s k v l' s') (hs : s' = false) : s = false ∧ k ≤ l.length ∧ l'.length = l.length - k := by
  obtain ⟨h1, h2, h3⟩ := h
  subst hs
  have e : ¬ (s = true ∨ l.length < k) := by
    intro hc
    rw [nS, if_pos hc] at h3
    cases h3
  rw [nL, if_neg e] at h2
  refine ⟨?_, ?_, by rw [← h2]; simp⟩
  · cases s
    · rfl
    · exact absurd (.inl rfl) e
  · exact Nat.le_of_not_lt fun q => e (.inr q)

/-- The two bits of flags. -/
theorem flag_bits : ∀ n : Fin 256, (bits .and .u64 ((n.val : Nat) : Int) 1 != 0) = (((n.val : Nat) : Int) % 2 == 1) ∧ (bits .and .u64 ((n.val : Nat) : Int) 128 != 0) = decide (128 ≤ ((n.val : Nat) : Int)) := by decide +kernel

theorem flag_any (v : Int) (h0 : 0 ≤ v) (h1 : v < 256) : (bits .and .u64 v 1 != 0) = (v % 2 == 1) ∧ (bits .and .u64 v 128 != 0) = decide (128 ≤ v) := by
  obtain ⟨n, rfl⟩ : ∃ n : Nat, v = n := ⟨v.toNat, by omega⟩
  exact flag_bits ⟨n, by omega⟩

/-- To a port: its own. -/
def fOwn (l : List UInt8) (b p : Int) : Bool := gCf l && (gBr l == b && gPo l == p)
def fE (l : List UInt8) (b p : Int) : Int := if fOwn l b p then 6 else gE l
def fTc (l : List UInt8) (b p : Int) : Bool := !fOwn l b p && gTc l
def fCh (l : List UInt8) (b p : Int) : Bool := !fOwn l b p && gCh l
def fAk (l : List UInt8) (b p : Int) : Bool := !fOwn l b p && gAk l
def fRo (l : List UInt8) (b p : Int) : Int := if fOwn l b p then 0 else gRo l
def fCo (l : List UInt8) (b p : Int) : Int := if fOwn l b p then 0 else gCo l
def fBr (l : List UInt8) (b p : Int) : Int := if fOwn l b p then 0 else gBr l
def fPo (l : List UInt8) (b p : Int) : Int := if fOwn l b p then 0 else gPo l
def fAg (l : List UInt8) (b p : Int) : Int := if fOwn l b p then 0 else gAg l
def fMa (l : List UInt8) (b p : Int) : Int := if fOwn l b p then 0 else gMa l
def fHe (l : List UInt8) (b p : Int) : Int := if fOwn l b p then 0 else gHe l
def fDe (l : List UInt8) (b p : Int) : Int := if fOwn l b p then 0 else gDe l

end Go.Proofs.YtnmnihlhcokjpaaGreatDoor
