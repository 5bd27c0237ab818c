/- The law SlotsFull, walked. -/
import Derived.Test.YtlklklkjjmlgeaaSlotsAllS
import Derived.Test.YtlklklkjjmlgeaaSlotsAwake
import Derived.Test.YtlklklkjjmlgeaaNumsIn
import Derived.Deep.RegionHeld3
import Derived.LoopTactic
namespace Go.Proofs.Ytlklklkjjmlgeaa
open Go.ChangeShapes Go.WideShapes Go.ChangeAt Go.RowKit
set_option linter.unusedVariables false

theorem lenS_z {w : World} {h g n : Nat} {c : List (Int × ByteArray)} (t : HTS w h g n c) (z : Int) (hz : (c.length : Int) = z) :
    Calls Try.prog 22 #[.pointer (some ⟨h, 0, none⟩)] w fun e w' => e = .returned (.int .i64 z) ∧ Below w.heap.size w w' := by
  rw [← hz]; exact lenS_api t

/-- All that is held is the same text. -/
def AllX (c : List (Int × ByteArray)) : Prop := ∀ p ∈ c, p.2 = ⟨#[120]⟩

theorem allX_put {c : List (Int × ByteArray)} (h : AllX c) (u : Int) (b : Bool) : AllX (putEnd c u ⟨#[120]⟩ b) := by
  unfold putEnd
  split
  · intro p hp
    unfold putC at hp
    rcases List.mem_cons.1 hp with e | e
    · rw [e]
    · exact h p (List.mem_filter.1 e).1
  · exact h

theorem allX_get {c : List (Int × ByteArray)} (h : AllX c) (hap : Ap c) {u : Int} (hi : inC c u = true) : getC c u = some ⟨#[120]⟩ := by
  obtain ⟨v, hv⟩ := inC_iff.1 hi
  have := h _ hv
  dsimp only at this
  rw [this] at hv
  exact getC_mem hap hv

/-- The last one's address. -/
def lastA (pre : List (Int × ByteArray)) : Int := (pre.getLast?.map (·.1)).getD 0

theorem lastA_snoc (pre : List (Int × ByteArray)) (x : Int × ByteArray) : lastA (pre ++ [x]) = x.1 := by simp [lastA]

theorem lastA_lt {pre post : List (Int × ByteArray)} {x : Int × ByteArray} (h : (pre ++ x :: post).Pairwise (fun x y => x.1 < y.1)) (hne : pre ≠ []) : lastA pre < x.1 := by
  unfold lastA
  rw [List.getLast?_eq_some_getLast hne]
  exact (List.pairwise_append.1 h).2.2 _ (List.getLast_mem hne) _ List.mem_cons_self

/-- What lies there while one goes through. -/
structure FullC (w : World) (B G n : Nat) (c : List (Int × ByteArray)) (pre : List (Int × ByteArray)) (W : World) : Prop where
  cnt : Bk W B 3 [.int .i64 (pre.length : Nat)]
  lst : Bk W (B + 1) 28 [.int .u64 (lastA pre)]
  fst : Bk W (B + 2) 4 [.bool pre.isEmpty]
  ris : Bk W (B + 3) 4 [.bool true]
  tab : HTS W (G + 1) G n c
  old : Below w.heap.size w W
  low : w.heap.size ≤ B ∧ G + 1 < B

theorem FullC.below {w W W' : World} {B G n : Nat} {c pre : List (Int × ByteArray)} (h : FullC w B G n c pre W) (hb : Below W.heap.size W W') : FullC w B G n c pre W' :=
  ⟨h.cnt.below hb h.cnt.lt, h.lst.below hb h.lst.lt, h.fst.below hb h.fst.lt, h.ris.below hb h.ris.lt, h.tab.below hb, h.old.trans (hb.mono h.old.size), h.low⟩

/-- What one round leaves. -/
def FullS (w W : World) (B G n : Nat) (c pre : List (Int × ByteArray)) (e : Ending) (W' : World) : Prop :=
  e = .returned (.bool true) ∧ FullC w B G n c pre W' ∧ W.heap.size ≤ W'.heap.size ∧ ∀ b, B + 4 ≤ b → b < W.heap.size → W'.heap[b]? = W.heap[b]?

theorem full_step {w W : World} {B G n : Nat} {c pre : List (Int × ByteArray)} (h : FullC w B G n c pre W) (a : Int) (v : ByteArray) (x : Int) (hx : x = ((pre.length + 1 : Nat) : Int)) :
    FullS w W B G n c (pre ++ [(a, v)]) (.returned (.bool true))
      ((((W.setCell ⟨B + 3, 0, none⟩ (.bool true)).setCell ⟨B + 1, 0, none⟩ (.int .u64 a)).setCell ⟨B + 2, 0, none⟩ (.bool false)).setCell ⟨B, 0, none⟩ (.int .i64 x)) := by
  subst hx
  obtain ⟨l1, l2⟩ := h.low
  have e1 : (pre ++ [(a, v)]).length = pre.length + 1 := by simp
  have e2 : (pre ++ [(a, v)]).isEmpty = false := by cases pre <;> rfl
  have k : ∀ b, b ≠ B → b ≠ B + 1 → b ≠ B + 2 → b ≠ B + 3 → ((((W.setCell ⟨B + 3, 0, none⟩ (.bool true)).setCell ⟨B + 1, 0, none⟩ (.int .u64 a)).setCell ⟨B + 2, 0, none⟩ (.bool false)).setCell ⟨B, 0, none⟩ (.int .i64 ((pre.length + 1 : Nat) : Int))).heap[b]? = W.heap[b]? := fun b n0 n1 n2 n3 => by
    rw [Below.heap_setCell _ _ _ b n0, Below.heap_setCell _ _ _ b n2, Below.heap_setCell _ _ _ b n1, Below.heap_setCell _ _ _ b n3]
  refine ⟨rfl, ⟨?_, ?_, ?_, ?_, ?_, ?_, h.low⟩, by simp [World.setCell], fun b hb _ => k b (by omega) (by omega) (by omega) (by omega)⟩
  · rw [e1]
    exact (((h.cnt.far (p := ⟨B + 3, 0, none⟩) (by show B + 3 ≠ B; omega) _).far (p := ⟨B + 1, 0, none⟩) (by show B + 1 ≠ B; omega) _).far (p := ⟨B + 2, 0, none⟩) (by show B + 2 ≠ B; omega) _).set 0 _
  · rw [lastA_snoc]
    exact (((h.lst.far (p := ⟨B + 3, 0, none⟩) (by show B + 3 ≠ B + 1; omega) _).set 0 (.int .u64 a)).far (p := ⟨B + 2, 0, none⟩) (by show B + 2 ≠ B + 1; omega) _).far (p := ⟨B, 0, none⟩) (by show B ≠ B + 1; omega) _
  · rw [e2]
    exact (((h.fst.far (p := ⟨B + 3, 0, none⟩) (by show B + 3 ≠ B + 2; omega) _).far (p := ⟨B + 1, 0, none⟩) (by show B + 1 ≠ B + 2; omega) _).set 0 (.bool false)).far (p := ⟨B, 0, none⟩) (by show B ≠ B + 2; omega) _
  · exact (((h.ris.set 0 (.bool true)).far (p := ⟨B + 1, 0, none⟩) (by show B + 1 ≠ B + 3; omega) _).far (p := ⟨B + 2, 0, none⟩) (by show B + 2 ≠ B + 3; omega) _).far (p := ⟨B, 0, none⟩) (by show B ≠ B + 3; omega) _
  · exact h.tab.keep fun b hb => k b (by rcases hb with rfl | rfl <;> omega) (by rcases hb with rfl | rfl <;> omega) (by rcases hb with rfl | rfl <;> omega) (by rcases hb with rfl | rfl <;> omega)
  · exact (((h.old.setCell (p := ⟨B + 3, 0, none⟩) (by show _ ≤ B + 3; omega) _).setCell (p := ⟨B + 1, 0, none⟩) (by show _ ≤ B + 1; omega) _).setCell (p := ⟨B + 2, 0, none⟩) (by show _ ≤ B + 2; omega) _).setCell (p := ⟨B, 0, none⟩) l1 _

set_option maxHeartbeats 1000000 in
theorem full1 {w W : World} {B G n : Nat} {c pre : List (Int × ByteArray)} (h : FullC w B G n c pre W) (hp : pre.length ≤ 64) (a : Int) (hlt : pre ≠ [] → lastA pre < a) :
    Calls Try.prog 25 #[.int .u64 a, .string ⟨#[120]⟩, .pointer (some ⟨B + 3, 0, none⟩), .pointer (some ⟨B + 2, 0, none⟩), .pointer (some ⟨B + 1, 0, none⟩), .pointer (some ⟨B, 0, none⟩)] W
      (FullS w W B G n c (pre ++ [(a, ⟨#[120]⟩)])) := by
  have c0 : W.cell? ⟨B, 0, none⟩ = some (.int .i64 (pre.length : Nat)) := h.cnt.cell 0
  have c1 : W.cell? ⟨B + 1, 0, none⟩ = some (.int .u64 (lastA pre)) := h.lst.cell 0
  have c2 : W.cell? ⟨B + 2, 0, none⟩ = some (.bool pre.isEmpty) := h.fst.cell 0
  have c3 : W.cell? ⟨B + 3, 0, none⟩ = some (.bool true) := h.ris.cell 0
  have f0 := h.cnt.thaw 0
  have f1 := h.lst.thaw 0
  have f2 := h.fst.thaw 0
  have f3 := h.ris.thaw 0
  have HC := Lib.hid (full_step h a ⟨#[120]⟩ ((pre.length : Int) + 1) (by omega))
  obtain ⟨m, hm⟩ : ∃ m, pre.length = m := ⟨_, rfl⟩
  obtain ⟨la, hla⟩ : ∃ la, lastA pre = la := ⟨_, rfl⟩
  rw [hla] at hlt c1
  rw [hm] at hp c0 HC
  clear h hm hla
  cases hE : pre.isEmpty with
  | true =>
    rw [hE] at c2
    clear hE hlt
    go_enter Try.func25, Try.ntmps25
    go_wp2
    go_ret
    exact HC.out
  | false =>
    rw [hE] at c2
    have hl := hlt (fun e => by rw [e] at hE; cases hE)
    clear hE hlt
    go_enter Try.func25, Try.ntmps25
    go_wp2
    go_ret
    exact HC.out

theorem bk_new (w : World) (cs : List Value) (t : TypeId) : Bk (w.alloc (.cells cs.toArray t)) w.heap.size t cs := heap_alloc_new w _

theorem full_start {w wr : World} {G n : Nat} {c : List (Int × ByteArray)} (t : HTS wr (G + 1) G n c) (hb : Below w.heap.size w wr) (hG : w.heap.size ≤ G) :
    FullC w wr.heap.size G n c [] ((((wr.alloc (.cells #[.int .i64 0] 3)).alloc (.cells #[.int .u64 0] 28)).alloc (.cells #[.bool true] 4)).alloc (.cells #[.bool true] 4)) := by
  have ht := t.lt
  have b0 := new_below wr (.cells #[.int .i64 0] 3)
  have k0 := bk_new wr [.int .i64 0] 3
  have s0 : (wr.alloc (.cells #[.int .i64 0] 3)).heap.size = wr.heap.size + 1 := by simp
  generalize wr.alloc (.cells #[.int .i64 0] 3) = w1 at b0 s0 k0 ⊢
  have b1 := new_below w1 (.cells #[.int .u64 0] 28)
  have k1 := bk_new w1 [.int .u64 0] 28
  have s1 : (w1.alloc (.cells #[.int .u64 0] 28)).heap.size = w1.heap.size + 1 := by simp
  generalize w1.alloc (.cells #[.int .u64 0] 28) = w2 at b1 s1 k1 ⊢
  have b2 := new_below w2 (.cells #[.bool true] 4)
  have k2 := bk_new w2 [.bool true] 4
  have s2 : (w2.alloc (.cells #[.bool true] 4)).heap.size = w2.heap.size + 1 := by simp
  generalize w2.alloc (.cells #[.bool true] 4) = w3 at b2 s2 k2 ⊢
  have b3 := new_below w3 (.cells #[.bool true] 4)
  have k3 := bk_new w3 [.bool true] 4
  generalize w3.alloc (.cells #[.bool true] 4) = w4 at b3 k3 ⊢
  have k2' : Bk w4 w2.heap.size 4 [.bool true] := Bk.below k2 b3 (by omega)
  have k1' : Bk w4 w1.heap.size 28 [.int .u64 0] := Bk.below (Bk.below k1 b2 (by omega)) b3 (by omega)
  have k0' : Bk w4 wr.heap.size 3 [.int .i64 0] := Bk.below (Bk.below (Bk.below k0 b1 (by omega)) b2 (by omega)) b3 (by omega)
  have e1 : w1.heap.size = wr.heap.size + 1 := s0
  have e2 : w2.heap.size = wr.heap.size + 2 := by omega
  have e3 : w3.heap.size = wr.heap.size + 3 := by omega
  rw [e1] at k1'
  rw [e2] at k2'
  rw [e3] at k3
  have hall : Below wr.heap.size wr w4 := ((b0.trans (b1.mono b0.size)).trans (b2.mono (by omega))).trans (b3.mono (by omega))
  exact ⟨k0', k1', k2', k3, t.below hall, hb.trans (hall.mono hb.size), hb.size, by omega⟩

set_option maxRecDepth 100000 in
set_option maxHeartbeats 8000000 in
theorem SlotsFull_walk (a0 : Int) (a1 : Option Addr) (len1 cap1 : Nat) (z1 : List Int) (w : World) (w0 : (Lit.int .u8 a0).wf = true) (w1 : IsRow .u64 w a1 len1 cap1 z1) :
    Calls Try.prog 4 #[.int .u8 a0, .slice a1 len1 cap1] w fun e w' => e = .returned (.bool true) ∧ Below w.heap.size w w' := by
  obtain ⟨p0, p1⟩ := bounds_u8 w0
  obtain ⟨U, hU, hm, hN⟩ := nums_in w1
  have HU := Lib.hid hU
  have HN := Lib.hid hN
  clear w0 w1 hU hN
  by_cases hc : 400 < len1
  · go_enter Try.func4, Try.ntmps4
    go_wp2_with fail
    (with_reducible refine (awake_is _).mono ?_); rintro e w1 ⟨rfl, b1⟩
    go_wp2_with fail
    (with_reducible refine (awake_is _).mono ?_); rintro e w2 ⟨rfl, b2⟩
    go_wp2
    go_ret
    exact ⟨rfl, b1.trans (b2.mono b1.size)⟩
  · have hc' : len1 ≤ 400 := by omega
    obtain ⟨n, hn⟩ : ∃ n : Nat, a0 % 65 = n := ⟨(a0 % 65).toNat, by omega⟩
    have hmm : min (max (a0 % 65) 0) 64 = n := by omega
    have HNN := Lib.hid hn
    have n64 : n ≤ 64 := by omega
    have HMM := Lib.hid hmm
    clear hmm hn
    go_enter Try.func4, Try.ntmps4
    go_wp2_with fail
    (with_reducible refine (awake_is _).mono ?_); rintro e w1 ⟨rfl, b1⟩
    go_wp2_with fail
    (with_reducible refine (newS_api _ n HMM.out _).mono ?_); rintro e w2 ⟨rfl, t2, b2⟩
    have hs1 := b1.size
    obtain ⟨G, hG⟩ : ∃ G, w1.heap.size = G := ⟨_, rfl⟩
    rw [hG] at t2 b2 hs1 ⊢
    have T2 := Lib.hid t2
    have B2 : Below w.heap.size w w2 := b1.trans (b2.mono hs1)
    clear t2 b2 hG b1
    go_wp2
    go_loopw [7] (fun i wr => ∃ (k : Nat) (c : List (Int × ByteArray)), k ≤ len1 ∧ i = .int .i64 k ∧ Hid (HTS wr (G + 1) G n c) ∧ Hid (AllX c) ∧ Below w.heap.size w wr) (fun i _ => len1 - (intOf i).toNat)
    case atStart => exact ⟨0, _, Nat.zero_le _, rfl, T2, fun p hp => (by cases hp), B2⟩
    case round =>
      clear B2 T2
      obtain ⟨k, c, hk, rfl, T, HX, B⟩ := hrel
      have hle := T.out.le
      by_cases hkn : k < len1
      · obtain ⟨u, hu⟩ := get_of_lt (l := U) (i := k) (by rw [HU.out]; exact hkn)
        obtain ⟨ad, rfl, hab, hcw, hu0, hu1⟩ := HN.out k u hu
        have hcell := (B.cell (p := ad.add k) (by rw [add_block]; exact hab)).trans hcw
        clear hu
        have hki : (k : Int) < (len1 : Int) := by omega
        have hap := Lib.hid T.out.ap
        obtain ⟨y, hy⟩ : ∃ y : Int, (c.length : Int) = y := ⟨_, rfl⟩
        have hy0 : 0 ≤ y := by omega
        have hy1 : y ≤ a0 % 65 := by have := HNN.out; omega
        have HY := Lib.hid hy
        -- what the second Len will tell
        obtain ⟨x, hx⟩ : ∃ x, inC c u = x := ⟨_, rfl⟩
        obtain ⟨b, hb⟩ : ∃ b, (inC c u || decide (c.length < n)) = b := ⟨_, rfl⟩
        obtain ⟨r, hr, hrx⟩ : ∃ r, getC c u = r ∧ r.isSome = x := ⟨_, rfl, by rw [getC_some, hx]⟩
        have hfull : b = (x || !(y == a0 % 65)) := by
          rw [← hb, hx]
          congr 1
          by_cases e : c.length < n
          · have : (y == a0 % 65) = false := by have := HNN.out; simp; omega
            rw [this, decide_eq_true e]; rfl
          · have : (y == a0 % 65) = true := by have := HNN.out; simp; omega
            rw [this, decide_eq_false e]; rfl
        obtain ⟨fu, hfu⟩ : ∃ fu, (y == a0 % 65) = fu := ⟨_, rfl⟩
        rw [hfu] at hfull
        have X8' := allX_put HX.out u b
        obtain ⟨c', hc'⟩ : ∃ c', putEnd c u ⟨#[120]⟩ b = c' := ⟨_, rfl⟩
        rw [hc'] at X8'
        obtain ⟨z, hz⟩ : ∃ z : Int, (c'.length : Int) = z := ⟨_, rfl⟩
        have X8 := Lib.hid X8'
        have HCE := Lib.hid hc'
        have HZ := Lib.hid hz
        have hz0 : 0 ≤ z := by omega
        have HB := Lib.hid hb
        have HR := Lib.hid hr
        have HX' := Lib.hid hx
        clear X8' hc' hz
        clear hx hb hr hy hle
        cases x <;> cases fu <;> (simp at hfull; subst hfull)
        all_goals
          go_wp2_with fail
          (with_reducible refine (getS_api T.out u hu0 hu1 r HR.out).mono ?_); rintro e w6 ⟨rfl, b6⟩
          have T6 := Lib.hid (T.out.below b6)
          have B6 : Below w.heap.size w w6 := B.trans (b6.mono B.size)
          clear b6 B T hcell
          go_wp2_with fail
          (with_reducible refine (lenS_z T6.out y HY.out).mono ?_); rintro e w7 ⟨rfl, b7⟩
          have T7 := Lib.hid (T6.out.below b7)
          have B7 : Below w.heap.size w w7 := B6.trans (b7.mono B6.size)
          have hcell7 := (B7.cell (p := ad.add k) (by rw [add_block]; exact hab)).trans hcw
          clear b7 B6 T6
          go_wp2_with fail
          (with_reducible refine (putS_api T7.out u hu0 hu1 ⟨#[120]⟩ _ HB.out).mono ?_); rintro e w8 ⟨rfl, t8, b8⟩
          rw [HCE.out] at t8
          have hz1 : z ≤ a0 % 65 := by have := t8.le; have := HZ.out; have := HNN.out; omega
          have T8 := Lib.hid t8
          have B8 := But.below B7 b8 B7.size hs1
          clear t8 b8 B7 T7 hcell7
          go_wp2_with fail
          (with_reducible refine (lenS_z T8.out z HZ.out).mono ?_); rintro e w9 ⟨rfl, b9⟩
          have T9 := Lib.hid (T8.out.below b9)
          have B9 : Below w.heap.size w w9 := B8.trans (b9.mono B8.size)
          clear b9 B8 T8
          go_wp2
          go_roundw
          case rel => exact ⟨k + 1, _, by omega, by go_num, T9, X8, B9⟩
          case measure => simp [intOf]; omega
      · rename World => wr
        have hszw := B.size
        have htl := T.out.lt
        have C0 := full_start T.out B hs1
        have z0 : ((((wr.alloc (.cells #[.int .i64 0] 3)).alloc (.cells #[.int .u64 0] 28)).alloc (.cells #[.bool true] 4)).alloc (.cells #[.bool true] 4)).heap.size = wr.heap.size + 4 := by simp
        obtain ⟨w4, hw4⟩ : ∃ w4, (((wr.alloc (.cells #[.int .i64 0] 3)).alloc (.cells #[.int .u64 0] 28)).alloc (.cells #[.bool true] 4)).alloc (.cells #[.bool true] 4) = w4 := ⟨_, rfl⟩
        rw [hw4] at C0 z0
        obtain ⟨BB, hBB⟩ : ∃ BB, wr.heap.size = BB := ⟨_, rfl⟩
        rw [hBB] at C0 z0 hszw htl
        have HW4 := Lib.hid hw4
        have HBB := Lib.hid hBB
        clear hw4 hBB
        have C1 := C0.below (new_below _ (.cells #[.pointer (some ⟨G + 1, 0, none⟩)] 47))
        have hle := C1.tab.le
        have HT := Lib.hid (throughS 25 #[.pointer (some ⟨BB + 3, 0, none⟩), .pointer (some ⟨BB + 2, 0, none⟩), .pointer (some ⟨BB + 1, 0, none⟩), .pointer (some ⟨BB, 0, none⟩)] _ (G + 1) G n c C1.tab (BB + 4) (by rw [← z0]; simp)
          (fun pre W => FullC w BB G n c pre W) (fun _ _ => False)
          (fun pre W W' hj hb => hj.below hb) C1 (enters_of Try.func25 (by kernel_rfl) rfl)
          (fun pre a v post W hS ha0 ha1 hsz hj => by
            have hpl := hS.1.length_eq
            simp at hpl
            have hv : v = ⟨#[120]⟩ := HX.out (a, v) (hS.1.mem_iff.1 (by simp))
            subst hv
            refine (full1 hj (by omega) a (fun hne => lastA_lt hS.2 hne)).mono fun e W' ⟨he, hc2, hsz2, hk2⟩ => ⟨⟨hsz2, fun b hb1 hb2 => hk2 b (by simp at hb1; omega) hb2⟩, .inl ⟨he, hc2⟩⟩))
        clear C0 C1
        go_wp2_with fail
        rw [HW4.out, HBB.out]
        (with_reducible refine (allS_is _ _).mono ?_); rintro e w6 ⟨rfl, rfl⟩
        go_wp2_with fail
        rw [show BB + 1 + 1 + 1 = BB + 3 from rfl, show BB + 1 + 1 = BB + 2 from rfl]
        (with_reducible refine HT.out.mono ?_); rintro e w7 ⟨rfl, S, hS, (hg | ⟨_, _, _, _, hf⟩)⟩
        rotate_right
        · exact hf.elim
        have hcn : w7.cell? ⟨BB, 0, none⟩ = some (.int .i64 (S.length : Nat)) := hg.cnt.cell 0
        have hcr : w7.cell? ⟨BB + 3, 0, none⟩ = some (.bool true) := hg.ris.cell 0
        rw [hS.1.length_eq] at hcn
        obtain ⟨y, hy⟩ : ∃ y : Int, (c.length : Int) = y := ⟨_, rfl⟩
        rw [hy] at hcn
        have HY := Lib.hid hy
        have hy0 : 0 ≤ y := by omega
        have hy1 : y ≤ 64 := by omega
        have T7 := Lib.hid hg.tab
        have HO := Lib.hid hg.old
        have hl1 := hg.cnt.lt
        have hl2 := hg.ris.lt
        clear hg hS hy HT T
        go_wp2
        go_region_held3 (fun w' => w'.cell? ⟨BB, 0, none⟩ = some (.int .i64 y) ∧ w'.cell? ⟨BB + 3, 0, none⟩ = some (.bool true)) (first | exact ⟨hcn, hcr⟩ | exact ⟨(hb8.cell (p := ⟨BB, 0, none⟩) hl1).trans hcn, (hb8.cell (p := ⟨BB + 3, 0, none⟩) hl2).trans hcr⟩ | assumption) (first
          | (go_at_call 22; (with_reducible refine (lenS_z T7.out.drew y HY.out).mono ?_); rintro e w8 ⟨rfl, hb8⟩))
        all_goals go_wp2
        all_goals go_ret
        all_goals exact ⟨rfl, HO.out.drew.trans (hb8.mono HO.out.size)⟩

end Go.Proofs.Ytlklklkjjmlgeaa
