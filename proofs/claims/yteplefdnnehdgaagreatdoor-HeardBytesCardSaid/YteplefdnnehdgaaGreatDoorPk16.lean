/- Several texts in one, one behind the other: SendLaw, HeardLaw, WireRead, WireNum, WireOnly, BpduConfig. -/
import Derived.Test.YteplefdnnehdgaaGreatDoorPk15
import Derived.Test.YteplefdnnehdgaaGreatDoorPk09
import Derived.Test.YteplefdnnehdgaaGreatDoorPk14
import Derived.Test.YteplefdnnehdgaaGreatDoorPk01
import Derived.Test.YteplefdnnehdgaaGreatDoorPk07
import Derived.Deep.DeepCutAuto
import Derived.Deep.RegionHeld3

/- What the laws keep of an answer: a view in a box, its ports, and what goes out. -/
namespace Go.Proofs.YteplefdnnehdgaaGreatDoor
set_option maxRecDepth 100000
open Go.ChangeShapes Go.WideShapes Go.ChangeAt Go.RowKit
set_option linter.unusedVariables false

def AN (w : World) (G : Nat) (D : Option Addr) (cap : Nat) (v : Value) (t : Th) (n : Nat) (R : List Po × List Ou) : Prop :=
  Bk w G 31 (lT t D n cap) ∧ (D = none → cap = 0) ∧ PoAt w D w.heap.size R.1 ∧ OutsR w 0 v R.2
section
variable {w w' : World} {G n cap : Nat} {D : Option Addr} {v : Value} {t : Th} {R : List Po × List Ou}
theorem AN.below (h : AN w G D cap v t n R) (b : Below w.heap.size w w') : AN w' G D cap v t n R :=
  ⟨h.1.below b h.1.lt, h.2.1, (h.2.2.1.below b (Nat.le_refl _)).wide b.size, h.2.2.2.below b⟩
theorem AN.new {base : Nat} (hz : D = none → cap = 0) (hp : PoAt w D w.heap.size R.1) (ho : OutsR w base v R.2) : AN (w.alloc (.cells (lT t D n cap).toArray 31)) w.heap.size D cap v t n R := by
  have b := new_below w (.cells (lT t D n cap).toArray 31)
  exact ⟨heap_alloc_new _ _, hz, (hp.below b (Nat.le_refl _)).wide b.size, (ho.below b).mono (Nat.zero_le _)⟩
theorem AN.bk (h : AN w G D cap v t n R) : w.heap[G]? = some (.cells (lT t D n cap).toArray 31 (0, 0)) := h.1
theorem AN.ports (h : AN w G D cap v t n R) : PoAt w D w.heap.size R.1 := h.2.2.1
theorem AN.outs (h : AN w G D cap v t n R) : OutsR w 0 v R.2 := h.2.2.2
theorem AN.cell (h : AN w G D cap v t n R) {i : Nat} {u : Value} (hu : (lT t D n cap)[i]? = some u) : w.cell? ⟨G, i, none⟩ = some u := by
  rw [h.1.cell]; exact hu
theorem AN.port {ad : Addr} (h : AN w G (some ad) cap v t n R) {k : Nat} {x : Po} (hx : R.1[k]? = some x) (i : Nat) {u : Value} (hu : (lP x)[i + 1]? = some u) : w.cell? ⟨(ad.add (k * 15)).block, (ad.add (k * 15)).off + (i + 1), none⟩ = some u := by
  obtain ⟨ad', e, _, _, h0⟩ := h.ports.cells hx
  cases e
  exact h0 i u hu
end

end Go.Proofs.YteplefdnnehdgaaGreatDoor

/- What hearing leaves of bounds; a telling in a port that was handed out. -/
namespace Go.Proofs.YteplefdnnehdgaaGreatDoor
set_option maxRecDepth 100000
open Go.ChangeShapes Go.WideShapes Go.ChangeAt Go.RowKit
set_option linter.unusedVariables false
set_option linter.unusedSimpArgs false

def AllB (r : Th × List Po) (n : Nat) : Prop := ThB r.1 ∧ ((-9223372036854775808 ≤ r.1.n1 ∧ r.1.n1 ≤ 9223372036854775807 ∧ -9223372036854775808 ≤ r.1.n2 ∧ r.1.n2 ≤ 9223372036854775807 ∧ -9223372036854775808 ≤ r.1.n3 ∧ r.1.n3 ≤ 9223372036854775807)) ∧ (∀ z ∈ r.2, PoB z) ∧ r.2.length = n
theorem told_nb {t : Th} {x : Bq} (hx : BqIn x) : (-9223372036854775808 ≤ (toldT t x).n1 ∧ (toldT t x).n1 ≤ 9223372036854775807 ∧ -9223372036854775808 ≤ (toldT t x).n2 ∧ (toldT t x).n2 ≤ 9223372036854775807 ∧ -9223372036854775808 ≤ (toldT t x).n3 ∧ (toldT t x).n3 ≤ 9223372036854775807) := by
  unfold BqIn BpIn at hx
  unfold toldT
  dsimp only
  omega
theorem acked_nb {t : Th} {x : Bq} (h : (-9223372036854775808 ≤ t.n1 ∧ t.n1 ≤ 9223372036854775807 ∧ -9223372036854775808 ≤ t.n2 ∧ t.n2 ≤ 9223372036854775807 ∧ -9223372036854775808 ≤ t.n3 ∧ t.n3 ≤ 9223372036854775807)) : (-9223372036854775808 ≤ (ackedT t x).n1 ∧ (ackedT t x).n1 ≤ 9223372036854775807 ∧ -9223372036854775808 ≤ (ackedT t x).n2 ∧ (ackedT t x).n2 ≤ 9223372036854775807 ∧ -9223372036854775808 ≤ (ackedT t x).n3 ∧ (ackedT t x).n3 ≤ 9223372036854775807) := by unfold ackedT; split <;> exact h
theorem acked_bd {t : Th} {x : Bq} (h : ThB t) : ThB (ackedT t x) := by unfold ackedT; split <;> exact h
theorem took_all {t : Th} {L : List Po} {k : Nat} {p : Po} {x : Bq} (hl : L.length ≤ 200) (ht : ThB t) (hn : (-9223372036854775808 ≤ t.n1 ∧ t.n1 ≤ 9223372036854775807 ∧ -9223372036854775808 ≤ t.n2 ∧ t.n2 ≤ 9223372036854775807 ∧ -9223372036854775808 ≤ t.n3 ∧ t.n3 ≤ 9223372036854775807)) (hb : ∀ z ∈ L, PoB z) (hx : BqIn x) (hp : L[k]? = some p) : AllB (tookR t L k p x).1 L.length := by
  have hl2 : (L.set k (heldP p x)).length = L.length := List.length_set
  have hb2 : ∀ z ∈ L.set k (heldP p x), PoB z := set_bd hb (held_bd (hb p (List.mem_of_getElem? hp)) hx)
  have h1 : ThB (settleR t (L.set k (heldP p x))).1.1 := settle_bd (by omega) ht hb2
  have h2 := settle_nb (t := t) (L := L.set k (heldP p x)) hn
  have h3 := settle_pb hb2 (sel_bd (by omega) ht hb2)
  have h4 : (settleR t (L.set k (heldP p x))).1.2.length = L.length := settle_n hl2
  unfold tookR
  dsimp only
  split
  · have ha := allR_bd (t := toldT (lateT (decide (t.ro = t.ow)) (settleR t (L.set k (heldP p x))).1.1) x) h3 L.length
    exact ⟨acked_bd (t := toldT _ x) (late_bd h1), acked_nb (told_nb hx), ha.2.2, ha.1.trans h4⟩
  · exact ⟨late_bd h1, late_nb h2, h3, h4⟩
theorem heard_all {t : Th} {L : List Po} {i : Int} {x : Bq} (hl : L.length ≤ 200) (ht : ThB t) (hn : (-9223372036854775808 ≤ t.n1 ∧ t.n1 ≤ 9223372036854775807 ∧ -9223372036854775808 ≤ t.n2 ∧ t.n2 ≤ 9223372036854775807 ∧ -9223372036854775808 ≤ t.n3 ∧ t.n3 ≤ 9223372036854775807)) (hb : ∀ z ∈ L, PoB z) (hx : BqIn x) : AllB (heardR t L i x).1 L.length := by
  have same : AllB (t, L) L.length := ⟨ht, hn, hb, rfl⟩
  unfold heardR
  split
  · split
    · exact same
    · rename_i p hp
      split
      · exact same
      · split
        · exact took_all hl ht hn hb hx hp
        · split
          · exact ⟨ht, hn, confR_bd hb i, confR_len t L i⟩
          · exact same
  · exact same
/-- A telling in a port of a row. -/
theorem po_vecq {w : World} {A : Option Addr} {B : Nat} {L : List Po} (h : PoAt w A B L) (hB : B ≤ w.heap.size) {k : Nat} {p : Po} (hp : L[k]? = some p) {ad : Addr} (hA : A = some ad) :
    ∀ v, (∃ q : LaterW w, v = q.w') → ∀ i u, ([.int .u64 p.hr, .int .u32 p.hc, .int .u64 p.hb, .int .u16 p.hp] : List Value)[i]? = some u → v.cell? ((⟨(ad.add (k * 15)).block, (ad.add (k * 15)).off + 3, none⟩ : Addr).add i) = some u := fun v hv i u hu => by
  obtain ⟨q, rfl⟩ := hv
  have h1 := (h.below q.h hB).at hp hA
  have hi4 : i < 4 := by
    rcases Nat.lt_or_ge i 4 with z | z
    · exact z
    · rw [List.getElem?_eq_none (by simpa using z)] at hu; cases hu
  have h2 := h1 (3 + i) u (by
    match i, hi4 with
    | 0, _ => exact hu
    | 1, _ => exact hu
    | 2, _ => exact hu
    | 3, _ => exact hu)
  rw [← h2]
  by_cases hi0 : i = 0
  · subst hi0; simp [Addr.add]
  · simp [Addr.add, hi0, Nat.add_assoc]

end Go.Proofs.YteplefdnnehdgaaGreatDoor

/- The reader: a copy, a new reader, whether it is short, the next bytes. -/
namespace Go.Proofs.YteplefdnnehdgaaGreatDoor
set_option maxRecDepth 100000
open Go.ChangeShapes Go.WideShapes Go.ChangeAt Go.RowKit
set_option linter.unusedVariables false

theorem copyOf_any (A : Option Addr) (c : Nat) (l : List UInt8) (n lo hi : Nat) (hn : Hid (l.length = n)) (hm : n ≤ 140737488355328) (w : World) (hr : RB w A lo hi l) (hhi : hi ≤ w.heap.size) :
    Calls Tryz.prog 82 #[.slice A n c] w fun e w' => e = .returned (.slice (some ⟨w.heap.size, 0, none⟩) n n) ∧ Bk w' w.heap.size 5 (l.map bc) ∧ Below w.heap.size w w' := by
  have hmk := make_bytes n hm
  go_enter Tryz.func82, Tryz.ntmps82
  go_wp2_with (with_reducible refine wpList_copy_splice rfl (.tmp 7) (.tmp 8) 32 32 rfl 5 Tryz.underlying32 Tryz.sizeByte _ _ _ _ _ _ rfl rfl w.heap.size 0 (List.replicate n (Value.int .u8 0)) 5 (heap_alloc_new w _) (l.map bc) (len_min hn.out) (copy_src hr (below_new hhi) _) (fit_all hn.out) (one_bcs l) w.heap.size w (below_new (Nat.le_refl _)) (Nat.le_refl _) ?_; intro w' hg hb)
  go_ret
  refine ⟨rfl, ?_, hb⟩
  have h := hg.out
  rw [splice_all _ _ (by simp [hn.out])] at h
  exact h

theorem new_any (A : Option Addr) (c : Nat) (l : List UInt8) (n lo hi : Nat) (hn : Hid (l.length = n)) (hm : n ≤ 140737488355328) (w : World) (hr : RB w A lo hi l) (hhi : hi ≤ w.heap.size) :
    Calls Tryz.prog 58 #[.slice A n c] w fun e w' => ∃ h A', e = .returned (.pointer (some ⟨h, 0, none⟩)) ∧ RD 120 w' w.heap.size w'.heap.size h A' l false ∧ Below w.heap.size w w' := by
  go_enter Tryz.func58, Tryz.ntmps58
  go_wp2_with ((with_reducible refine (copyOf_any A c l n lo hi hn hm _ hr hhi).mono ?_); rintro e w1 ⟨rfl, HB, hb⟩)
  go_ret
  refine ⟨w1.heap.size, some ⟨w.heap.size, 0, none⟩, rfl, ⟨hb.size, by simp, ?_, ?_⟩, hb.alloc hb.size _⟩
  · rw [hn.out]; exact heap_alloc_new w1 _
  · exact (HB.rb w.heap.size w1.heap.size (Nat.le_refl _) HB.lt).below (below_new (Nat.le_refl _)) (Nat.le_refl _)

theorem short_any (lo hi h : Nat) (A : Option Addr) (l : List UInt8) (s : Bool) (w : World) (hr : RD 120 w lo hi h A l s) :
    Calls Tryz.prog 60 #[.pointer (some ⟨h, 0, none⟩)] w fun e w' => e = .returned (.bool s) ∧ w = w' := by
  have hc := hr.2.2.1.cell 1
  simp at hc
  go_enter Tryz.func60, Tryz.ntmps60
  go_wp2
  go_ret
  exact ⟨rfl, rfl⟩

/-- So many bytes can't be read. -/
def BadN (s : Bool) (len : Nat) (n : Int) : Prop := s = true ∨ n < 0 ∨ (len : Int) < n

theorem rd_short {T : TypeId} {w : World} {lo hi h : Nat} {A : Option Addr} {l : List UInt8} {s : Bool} (r : RD T w lo hi h A l s) :
    RD T (w.setCell ⟨h, 1, none⟩ (.bool true)) lo hi h A l true ∧ Below lo w (w.setCell ⟨h, 1, none⟩ (.bool true)) ∧ (w.setCell ⟨h, 1, none⟩ (.bool true)).heap.size = w.heap.size := by
  obtain ⟨h1, h2, h3, h4⟩ := r
  exact ⟨⟨h1, h2, h3.set 1 _, h4.set (.inr (Nat.le_refl _)) _⟩, (Below.refl _ _).setCell h1 _, by simp [World.setCell]⟩

theorem rd_next {T : TypeId} {w : World} {lo hi h : Nat} {A : Option Addr} {l : List UInt8} {s : Bool} (r : RD T w lo hi h A l s) (k : Nat) (hk : k ≤ l.length) :
    RD T (w.setCell ⟨h, 0, none⟩ (.slice (cutA A k l.length) (l.length - k) (l.length - k))) lo hi h (cutA A k l.length) (l.drop k) s ∧ RB (w.setCell ⟨h, 0, none⟩ (.slice (cutA A k l.length) (l.length - k) (l.length - k))) A lo h (l.take k) ∧
    Below lo w (w.setCell ⟨h, 0, none⟩ (.slice (cutA A k l.length) (l.length - k) (l.length - k))) ∧ (w.setCell ⟨h, 0, none⟩ (.slice (cutA A k l.length) (l.length - k) (l.length - k))).heap.size = w.heap.size := by
  obtain ⟨h1, h2, h3, h4⟩ := r
  refine ⟨⟨h1, h2, ?_, (h4.drop k l.length (Nat.le_refl _)).set (.inr (Nat.le_refl _)) _⟩, (h4.take k).set (.inr (Nat.le_refl _)) _, (Below.refl _ _).setCell h1 _, by simp [World.setCell]⟩
  rw [List.length_drop]
  exact h3.set 0 _

theorem next_bad (lo hi h : Nat) (A : Option Addr) (l : List UInt8) (s : Bool) (n : Int) (w : World) (hr : RD 120 w lo hi h A l s) (hm : l.length ≤ 140737488355328) (h0 : -9223372036854775808 ≤ n) (h1 : n ≤ 9223372036854775807) (hbad : BadN s l.length n) :
    Calls Tryz.prog 83 #[.pointer (some ⟨h, 0, none⟩), .int .i64 n] w fun e w' => e = .returned (.slice none 0 0) ∧ RD 120 w' lo hi h A l true ∧ Below lo w w' ∧ w'.heap.size = w.heap.size := by
  have hc := hr.2.2.1.cell 0
  have hd := hr.2.2.1.cell 1
  have hf := hr.2.2.1.thaw 1
  simp at hc hd
  have K := Lib.hid (rd_short hr)
  clear hr
  by_cases hs : s = true
  · subst hs
    go_enter Tryz.func83, Tryz.ntmps83
    go_wp2
    go_ret
    exact ⟨rfl, K.out⟩
  · have hs' : s = false := by simpa using hs
    subst hs'
    clear hs
    by_cases hn : n < 0
    · go_enter Tryz.func83, Tryz.ntmps83
      go_wp2
      go_ret
      exact ⟨rfl, K.out⟩
    · have hl : (l.length : Int) < n := by
        unfold BadN at hbad
        rcases hbad with h | h | h
        · cases h
        · exact absurd h hn
        · exact h
      have hn0 : decide (n < 0) = false := by simpa using hn
      clear hbad hn
      go_enter Tryz.func83, Tryz.ntmps83
      go_wp2
      go_ret
      exact ⟨rfl, K.out⟩

theorem next_ok (lo hi h : Nat) (A : Option Addr) (l : List UInt8) (k : Nat) (w : World) (hr : RD 120 w lo hi h A l false) (hm : l.length ≤ 140737488355328) (hk : k ≤ l.length) :
    Calls Tryz.prog 83 #[.pointer (some ⟨h, 0, none⟩), .int .i64 (k : Int)] w fun e w' => e = .returned (.slice A k l.length) ∧ RD 120 w' lo hi h (cutA A k l.length) (l.drop k) false ∧ RB w' A lo h (l.take k) ∧ Below lo w w' ∧ w'.heap.size = w.heap.size := by
  have hc := hr.2.2.1.cell 0
  have hd := hr.2.2.1.cell 1
  have hf := hr.2.2.1.thaw 0
  simp at hc hd
  have K := Lib.hid (rd_next hr k hk)
  clear hr
  go_enter Tryz.func83, Tryz.ntmps83
  go_wp2
  · go_ret
    have g : l.length = k := by assumption
    have e : cutA A k l.length = A := by simp [cutA, g]
    have e' : cutA A k k = A := by simp [cutA]
    have q := K.out
    rw [show l.length - k = 0 by omega, e] at q
    rw [e']
    exact ⟨rfl, q⟩
  · go_ret
    have g : ¬ l.length = k := by assumption
    have e : cutA A k l.length = A.map (·.add k) := by simp [cutA, g]
    have q := K.out
    rw [e] at q
    rw [e]
    exact ⟨rfl, q⟩

end Go.Proofs.YteplefdnnehdgaaGreatDoor

/- Num, and the document's own. -/
namespace Go.Proofs.YteplefdnnehdgaaGreatDoor
set_option maxRecDepth 100000
open Go.ChangeShapes Go.WideShapes Go.ChangeAt Go.RowKit
set_option linter.unusedVariables false

theorem or8w (y b : Int) (h0 : 0 ≤ y) (h1 : y < 18446744073709551616) (b0 : 0 ≤ b) (b1 : b < 256) : bits .or .u64 (IntKind.u64.wrap (y * 256)) b = (y * 256 + b) % 18446744073709551616 := by
  have e : IntKind.u64.wrap (y * 256) = (y % 72057594037927936) * 256 := by rw [IntKind.wrap_u64]; omega
  rw [e, or8_64 _ b (by omega) (by omega) b0 b1]
  omega

theorem num_bad (lo hi h : Nat) (A : Option Addr) (l : List UInt8) (s : Bool) (n : Int) (w : World) (hr : RD 120 w lo hi h A l s) (hm : l.length ≤ 140737488355328) (h0 : -9223372036854775808 ≤ n) (h1 : n ≤ 9223372036854775807) (hbad : BadN s l.length n) :
    Calls Tryz.prog 59 #[.pointer (some ⟨h, 0, none⟩), .int .i64 n] w fun e w' => e = .returned (.int .u64 0) ∧ RD 120 w' lo hi h A l true ∧ Below lo w w' ∧ w'.heap.size = w.heap.size := by
  go_enter Tryz.func59, Tryz.ntmps59
  go_wp2_with (go_at_call 83; (with_reducible refine (next_bad lo hi h A l s n _ hr hm h0 h1 hbad).mono ?_); rintro e w1 ⟨rfl, hr1, hb1, hz⟩; have HZ := Lib.hid hz; clear hz)
  go_rounds 1
  go_ret
  exact ⟨rfl, hr1, hb1, HZ.out⟩

theorem num_ok (lo hi h : Nat) (A : Option Addr) (l : List UInt8) (k : Nat) (sz : Int) (hsz : Hid (sz = k)) (w : World) (hr : RD 120 w lo hi h A l false) (hm : l.length ≤ 140737488355328) (hk : k ≤ l.length) :
    Calls Tryz.prog 59 #[.pointer (some ⟨h, 0, none⟩), .int .i64 sz] w fun e w' => e = .returned (.int .u64 (numU (l.take k))) ∧ RD 120 w' lo hi h (cutA A k l.length) (l.drop k) false ∧ Below lo w w' ∧ w'.heap.size = w.heap.size := by
  obtain rfl := hsz.out
  clear hsz
  obtain ⟨x, hx⟩ : ∃ x, x = l.take k := ⟨_, rfl⟩
  have htk : x.length = k := by rw [hx]; simp; omega
  have HT := Lib.hid htk
  rw [← hx]
  have HX := Lib.hid hx
  clear htk hx
  go_enter Tryz.func59, Tryz.ntmps59
  go_wp2_with (go_at_call 83; (with_reducible refine (next_ok lo hi h A l k _ hr hm hk).mono ?_); rintro e w1 ⟨rfl, hr1, hrb1, hb1, hz⟩; rw [← HX.out] at hrb1; have HZ := Lib.hid hz; clear hz)
  go_loop [5, 12] (fun t i => ∃ j : Nat, j ≤ k ∧ i = .int .i64 j ∧ t = .int .u64 (numU (x.take j))) (fun _ i => k - (intOf i).toNat)
  case atStart => exact ⟨0, Nat.zero_le _, rfl, rfl⟩
  case round =>
    obtain ⟨j, hj, rfl, rfl⟩ := hrel
    obtain ⟨q0, q1⟩ := numU_lo (x.take j)
    by_cases hlt : j < k
    · have hjx : j < x.length := by rw [HT.out]; exact hlt
      obtain ⟨ad, rfl, g1, g2, hc⟩ := hrb1 (by omega)
      have hcell := hc j hjx
      unfold bc at hcell
      have HN := Lib.hid (numU_take x j hjx)
      obtain ⟨y, hy⟩ : ∃ y, y = numU (x.take j) := ⟨_, rfl⟩
      rw [← hy] at q0 q1 HN ⊢
      obtain ⟨b, hb⟩ : ∃ b : Int, b = (x[j].toNat : Int) := ⟨_, rfl⟩
      have hb0 : 0 ≤ b := by omega
      have hb2 : b < 256 := by have := x[j].toNat_lt; omega
      rw [← hb] at hcell HN
      have HB := Lib.hid hb
      have HY := Lib.hid hy
      clear hb hy hc
      go_wp2
      go_round
      case rel => exact ⟨j + 1, by omega, by go_num, by rw [or8w y b q0 q1 hb0 hb2, HN.out]⟩
      case measure => simp [intOf]; omega
    · obtain rfl : j = k := by omega
      go_wp2
      go_ret
      rw [List.take_of_length_le (by rw [HT.out]; omega)]
      exact ⟨rfl, hr1, hb1, HZ.out⟩

theorem refnum_any (A : Option Addr) (c : Nat) (x : List UInt8) (k lo hi : Nat) (HT : Hid (x.length = k)) (hm : k ≤ 140737488355328) (w : World) (hr : RB w A lo hi x) :
    Calls Tryz.prog 64 #[.slice A k c] w fun e w' => e = .returned (.int .u64 (numU x)) ∧ w = w' := by
  go_enter Tryz.func64, Tryz.ntmps64
  go_wp2
  go_loop [3, 4] (fun t i => ∃ j : Nat, j ≤ k ∧ i = .int .i64 j ∧ t = .int .u64 (numU (x.take j))) (fun _ i => k - (intOf i).toNat)
  case atStart => exact ⟨0, Nat.zero_le _, rfl, rfl⟩
  case round =>
    obtain ⟨j, hj, rfl, rfl⟩ := hrel
    obtain ⟨q0, q1⟩ := numU_lo (x.take j)
    by_cases hlt : j < k
    · have hjx : j < x.length := by rw [HT.out]; exact hlt
      obtain ⟨ad, rfl, g1, g2, hc⟩ := hr (by omega)
      have hcell := hc j hjx
      unfold bc at hcell
      have HN := Lib.hid (numU_take x j hjx)
      obtain ⟨y, hy⟩ : ∃ y, y = numU (x.take j) := ⟨_, rfl⟩
      rw [← hy] at q0 q1 HN ⊢
      obtain ⟨b, hb⟩ : ∃ b : Int, b = (x[j].toNat : Int) := ⟨_, rfl⟩
      have hb0 : 0 ≤ b := by omega
      have hb2 : b < 256 := by have := x[j].toNat_lt; omega
      rw [← hb] at hcell HN
      have HB := Lib.hid hb
      have HY := Lib.hid hy
      clear hb hy hc
      go_wp2
      go_round
      case rel => exact ⟨j + 1, by omega, by go_num, by rw [HN.out]; simp only [IntKind.wrap_u64]; rw [Int.emod_add_emod]⟩
      case measure => simp [intOf]; omega
    · obtain rfl : j = k := by omega
      go_wp2
      go_ret
      rw [List.take_of_length_le (by rw [HT.out]; omega)]
      exact ⟨rfl, rfl⟩

end Go.Proofs.YteplefdnnehdgaaGreatDoor

/- The reader's next bytes and numbers, with what else is left as it was: all blocks but its own. -/
namespace Go.Proofs.YteplefdnnehdgaaGreatDoor
set_option maxRecDepth 100000
open Go.ChangeShapes Go.WideShapes Go.ChangeAt Go.RowKit
set_option linter.unusedVariables false

/-- Nothing but block 'h' has turned, and nothing is new. -/
def Only (h : Nat) (w w' : World) : Prop := w'.heap.size = w.heap.size ∧ ∀ b, b ≠ h → w'.heap[b]? = w.heap[b]?

theorem Only.bk {h g : Nat} {w w' : World} {t : TypeId} {cs : List Value} (o : Only h w w') (k : Bk w g t cs) (hg : g ≠ h) : Bk w' g t cs := (o.2 g hg).trans k

theorem only_set (w : World) (h i : Nat) (u : Value) : Only h w (w.setCell ⟨h, i, none⟩ u) := ⟨by simp [World.setCell], fun b hb => Below.heap_setCell w _ u b hb⟩

theorem rd_shortO {T : TypeId} {w : World} {lo hi h : Nat} {A : Option Addr} {l : List UInt8} {s : Bool} (r : RD T w lo hi h A l s) :
    RD T (w.setCell ⟨h, 1, none⟩ (.bool true)) lo hi h A l true ∧ Below lo w (w.setCell ⟨h, 1, none⟩ (.bool true)) ∧ Only h w (w.setCell ⟨h, 1, none⟩ (.bool true)) := by
  obtain ⟨h1, h2, h3, h4⟩ := r
  exact ⟨⟨h1, h2, h3.set 1 _, h4.set (.inr (Nat.le_refl _)) _⟩, (Below.refl _ _).setCell h1 _, only_set _ _ _ _⟩

theorem rd_nextO {T : TypeId} {w : World} {lo hi h : Nat} {A : Option Addr} {l : List UInt8} {s : Bool} (r : RD T w lo hi h A l s) (k : Nat) (hk : k ≤ l.length) :
    RD T (w.setCell ⟨h, 0, none⟩ (.slice (cutA A k l.length) (l.length - k) (l.length - k))) lo hi h (cutA A k l.length) (l.drop k) s ∧ RB (w.setCell ⟨h, 0, none⟩ (.slice (cutA A k l.length) (l.length - k) (l.length - k))) A lo h (l.take k) ∧
    Below lo w (w.setCell ⟨h, 0, none⟩ (.slice (cutA A k l.length) (l.length - k) (l.length - k))) ∧ Only h w (w.setCell ⟨h, 0, none⟩ (.slice (cutA A k l.length) (l.length - k) (l.length - k))) := by
  obtain ⟨h1, h2, h3, h4⟩ := r
  refine ⟨⟨h1, h2, ?_, (h4.drop k l.length (Nat.le_refl _)).set (.inr (Nat.le_refl _)) _⟩, (h4.take k).set (.inr (Nat.le_refl _)) _, (Below.refl _ _).setCell h1 _, only_set _ _ _ _⟩
  rw [List.length_drop]
  exact h3.set 0 _

theorem next_badO (lo hi h : Nat) (A : Option Addr) (l : List UInt8) (s : Bool) (n : Int) (w : World) (hr : RD 120 w lo hi h A l s) (hm : l.length ≤ 140737488355328) (h0 : -9223372036854775808 ≤ n) (h1 : n ≤ 9223372036854775807) (hbad : BadN s l.length n) :
    Calls Tryz.prog 83 #[.pointer (some ⟨h, 0, none⟩), .int .i64 n] w fun e w' => e = .returned (.slice none 0 0) ∧ RD 120 w' lo hi h A l true ∧ Below lo w w' ∧ Only h w w' := by
  have hc := hr.2.2.1.cell 0
  have hd := hr.2.2.1.cell 1
  have hf := hr.2.2.1.thaw 1
  simp at hc hd
  have K := Lib.hid (rd_shortO hr)
  clear hr
  by_cases hs : s = true
  · subst hs
    go_enter Tryz.func83, Tryz.ntmps83
    go_wp2
    go_ret
    exact ⟨rfl, K.out⟩
  · have hs' : s = false := by simpa using hs
    subst hs'
    clear hs
    by_cases hn : n < 0
    · go_enter Tryz.func83, Tryz.ntmps83
      go_wp2
      go_ret
      exact ⟨rfl, K.out⟩
    · have hl : (l.length : Int) < n := by
        unfold BadN at hbad
        rcases hbad with h | h | h
        · cases h
        · exact absurd h hn
        · exact h
      have hn0 : decide (n < 0) = false := by simpa using hn
      clear hbad hn
      go_enter Tryz.func83, Tryz.ntmps83
      go_wp2
      go_ret
      exact ⟨rfl, K.out⟩

theorem next_okO (lo hi h : Nat) (A : Option Addr) (l : List UInt8) (k : Nat) (w : World) (hr : RD 120 w lo hi h A l false) (hm : l.length ≤ 140737488355328) (hk : k ≤ l.length) :
    Calls Tryz.prog 83 #[.pointer (some ⟨h, 0, none⟩), .int .i64 (k : Int)] w fun e w' => e = .returned (.slice A k l.length) ∧ RD 120 w' lo hi h (cutA A k l.length) (l.drop k) false ∧ RB w' A lo h (l.take k) ∧ Below lo w w' ∧ Only h w w' := by
  have hc := hr.2.2.1.cell 0
  have hd := hr.2.2.1.cell 1
  have hf := hr.2.2.1.thaw 0
  simp at hc hd
  have K := Lib.hid (rd_nextO hr k hk)
  clear hr
  go_enter Tryz.func83, Tryz.ntmps83
  go_wp2
  · go_ret
    have g : l.length = k := by assumption
    have e : cutA A k l.length = A := by simp [cutA, g]
    have e' : cutA A k k = A := by simp [cutA]
    have q := K.out
    rw [show l.length - k = 0 by omega, e] at q
    rw [e']
    exact ⟨rfl, q⟩
  · go_ret
    have g : ¬ l.length = k := by assumption
    have e : cutA A k l.length = A.map (·.add k) := by simp [cutA, g]
    have q := K.out
    rw [e] at q
    rw [e]
    exact ⟨rfl, q⟩

theorem num_badO (lo hi h : Nat) (A : Option Addr) (l : List UInt8) (s : Bool) (n : Int) (w : World) (hr : RD 120 w lo hi h A l s) (hm : l.length ≤ 140737488355328) (h0 : -9223372036854775808 ≤ n) (h1 : n ≤ 9223372036854775807) (hbad : BadN s l.length n) :
    Calls Tryz.prog 59 #[.pointer (some ⟨h, 0, none⟩), .int .i64 n] w fun e w' => e = .returned (.int .u64 0) ∧ RD 120 w' lo hi h A l true ∧ Below lo w w' ∧ Only h w w' := by
  go_enter Tryz.func59, Tryz.ntmps59
  go_wp2_with (go_at_call 83; (with_reducible refine (next_badO lo hi h A l s n _ hr hm h0 h1 hbad).mono ?_); rintro e w1 ⟨rfl, hr1, hb1, hz⟩; have HZ := Lib.hid hz; clear hz)
  go_rounds 1
  go_ret
  exact ⟨rfl, hr1, hb1, HZ.out⟩

theorem num_okO (lo hi h : Nat) (A : Option Addr) (l : List UInt8) (k : Nat) (sz : Int) (hsz : Hid (sz = k)) (w : World) (hr : RD 120 w lo hi h A l false) (hm : l.length ≤ 140737488355328) (hk : k ≤ l.length) :
    Calls Tryz.prog 59 #[.pointer (some ⟨h, 0, none⟩), .int .i64 sz] w fun e w' => e = .returned (.int .u64 (numU (l.take k))) ∧ RD 120 w' lo hi h (cutA A k l.length) (l.drop k) false ∧ Below lo w w' ∧ Only h w w' := by
  obtain rfl := hsz.out
  clear hsz
  obtain ⟨x, hx⟩ : ∃ x, x = l.take k := ⟨_, rfl⟩
  have htk : x.length = k := by rw [hx]; simp; omega
  have HT := Lib.hid htk
  rw [← hx]
  have HX := Lib.hid hx
  clear htk hx
  go_enter Tryz.func59, Tryz.ntmps59
  go_wp2_with (go_at_call 83; (with_reducible refine (next_okO lo hi h A l k _ hr hm hk).mono ?_); rintro e w1 ⟨rfl, hr1, hrb1, hb1, hz⟩; rw [← HX.out] at hrb1; have HZ := Lib.hid hz; clear hz)
  go_loop [5, 12] (fun t i => ∃ j : Nat, j ≤ k ∧ i = .int .i64 j ∧ t = .int .u64 (numU (x.take j))) (fun _ i => k - (intOf i).toNat)
  case atStart => exact ⟨0, Nat.zero_le _, rfl, rfl⟩
  case round =>
    obtain ⟨j, hj, rfl, rfl⟩ := hrel
    obtain ⟨q0, q1⟩ := numU_lo (x.take j)
    by_cases hlt : j < k
    · have hjx : j < x.length := by rw [HT.out]; exact hlt
      obtain ⟨ad, rfl, g1, g2, hc⟩ := hrb1 (by omega)
      have hcell := hc j hjx
      unfold bc at hcell
      have HN := Lib.hid (numU_take x j hjx)
      obtain ⟨y, hy⟩ : ∃ y, y = numU (x.take j) := ⟨_, rfl⟩
      rw [← hy] at q0 q1 HN ⊢
      obtain ⟨b, hb⟩ : ∃ b : Int, b = (x[j].toNat : Int) := ⟨_, rfl⟩
      have hb0 : 0 ≤ b := by omega
      have hb2 : b < 256 := by have := x[j].toNat_lt; omega
      rw [← hb] at hcell HN
      have HB := Lib.hid hb
      have HY := Lib.hid hy
      clear hb hy hc
      go_wp2
      go_round
      case rel => exact ⟨j + 1, by omega, by go_num, by rw [or8w y b q0 q1 hb0 hb2, HN.out]⟩
      case measure => simp [intOf]; omega
    · obtain rfl : j = k := by omega
      go_wp2
      go_ret
      rw [List.take_of_length_le (by rw [HT.out]; omega)]
      exact ⟨rfl, hr1, hb1, HZ.out⟩

/-- A number read, whatever the reader's state: its value, what is left, whether the end came too soon. -/
def nV (l : List UInt8) (s : Bool) (k : Nat) : Int := if s = true ∨ l.length < k then 0 else numU (l.take k)
def nL (l : List UInt8) (s : Bool) (k : Nat) : List UInt8 := if s = true ∨ l.length < k then l else l.drop k
def nS (l : List UInt8) (s : Bool) (k : Nat) : Bool := if s = true ∨ l.length < k then true else false

/-- What 'Num' leaves. -/
def NumEnd (T : TypeId) (lo hi h : Nat) (v : Int) (l : List UInt8) (s : Bool) (w : World) (e : Ending) (w' : World) : Prop :=
  ∃ A', e = .returned (.int .u64 v) ∧ RD T w' lo hi h A' l s ∧ Below lo w w' ∧ Only h w w'

theorem num_any (lo hi h : Nat) (A : Option Addr) (l : List UInt8) (s : Bool) (k : Nat) (sz : Int) (hsz : Hid (sz = k)) (hk : k ≤ 1000) (w : World) (hr : RD 120 w lo hi h A l s) (hm : l.length ≤ 100000) :
    Calls Tryz.prog 59 #[.pointer (some ⟨h, 0, none⟩), .int .i64 sz] w (NumEnd 120 lo hi h (nV l s k) (nL l s k) (nS l s k) w) := by
  by_cases hc : s = true ∨ l.length < k
  · have hbad : BadN s l.length sz := by
      rw [hsz.out]
      rcases hc with h | h
      · exact .inl h
      · exact .inr (.inr (by omega))
    have hs := hsz.out
    have e1 : nV l s k = 0 := if_pos hc
    have e2 : nL l s k = l := if_pos hc
    have e3 : nS l s k = true := if_pos hc
    rw [e1, e2, e3]
    refine (num_badO lo hi h A l s sz w hr (by omega) (by omega) (by omega) hbad).mono ?_
    rintro e w' ⟨rfl, h1, h2, h3⟩
    exact ⟨_, rfl, h1, h2, h3⟩
  · have hs : s = false := by cases s; rfl; exact absurd (.inl rfl) hc
    have e1 : nV l s k = numU (l.take k) := if_neg hc
    have e2 : nL l s k = l.drop k := if_neg hc
    have e3 : nS l s k = false := if_neg hc
    rw [e1, e2, e3]
    subst hs
    refine (num_okO lo hi h A l k sz hsz w hr (by omega) (by omega)).mono ?_
    rintro e w' ⟨rfl, h1, h2, h3⟩
    exact ⟨_, rfl, h1, h2, h3⟩

theorem nL_len (l : List UInt8) (s : Bool) (k : Nat) : (nL l s k).length ≤ l.length := by
  unfold nL
  split
  · exact Nat.le_refl _
  · simp

theorem nV_lo (l : List UInt8) (s : Bool) (k : Nat) : 0 ≤ nV l s k ∧ nV l s k < 18446744073709551616 := by
  unfold nV
  split
  · omega
  · exact numU_lo _

end Go.Proofs.YteplefdnnehdgaaGreatDoor

/- A configuration read, as the program reads it, whatever the reader's state. -/
namespace Go.Proofs.YteplefdnnehdgaaGreatDoor
set_option maxRecDepth 100000
open Go.ChangeShapes Go.WideShapes Go.ChangeAt Go.RowKit
set_option linter.unusedVariables false

theorem BB.only {h g : Nat} {w w' : World} {tc ch ak : Bool} {ro co br po ag ma he de : Int} (o : Only h w w') (k : BB w g tc ch ak ro co br po ag ma he de) (hg : g ≠ h) : BB w' g tc ch ak ro co br po ag ma he de := o.bk k hg

/-- One number read: its value, what is left, whether the end came too soon. -/
def NR (l : List UInt8) (s : Bool) (k : Nat) (v : Int) (l' : List UInt8) (s' : Bool) : Prop := nV l s k = v ∧ nL l s k = l' ∧ nS l s k = s'

/-- What 'config' leaves. -/
def CfgEnd (lo hi h : Nat) (ch ak : Bool) (ro co br po ag ma he de : Int) (l : List UInt8) (s : Bool) (w : World) (e : Ending) (w' : World) : Prop :=
  ∃ A', e = .returned (.agg #[.bool false, .bool ch, .bool ak, .int .u64 ro, .int .u32 co, .int .u64 br, .int .u16 po, .int .u16 ag, .int .u16 ma, .int .u16 he, .int .u16 de]) ∧ RD 120 w' lo hi h A' l s ∧ Below lo w w'

/-- The state between two of its statements: the reader; the answer's place, still empty; the Bpdu so far. -/
def CS (lo hi h : Nat) (l : List UInt8) (s : Bool) (cs : List Value) (w wc : World) : Prop :=
  ∃ A, RD 120 wc lo hi h A l s ∧ BB wc w.heap.size false false false 0 0 0 0 0 0 0 0 ∧ Bk wc (w.heap.size + 1) 56 cs ∧ Below lo w wc

theorem CS.num {lo hi h : Nat} {l l' : List UInt8} {s s' : Bool} {cs : List Value} {w wc wd : World} {A' : Option Addr} (c : CS lo hi h l s cs w wc) (hh : h < w.heap.size) (hr : RD 120 wd lo hi h A' l' s') (hb : Below lo wc wd) (ho : Only h wc wd) : CS lo hi h l' s' cs w wd := by
  obtain ⟨A, _, h2, h3, h4⟩ := c
  exact ⟨A', hr, h2.only ho (Nat.ne_of_gt hh), ho.bk h3 (Nat.ne_of_gt (Nat.lt_succ_of_lt hh)), h4.trans hb⟩

theorem CS.put {lo hi h : Nat} {l : List UInt8} {s : Bool} {cs : List Value} {w wc : World} (c : CS lo hi h l s cs w wc) (hhi : hi ≤ w.heap.size) (i : Nat) (u : Value) : CS lo hi h l s (cs.set i u) w (wc.setCell ⟨w.heap.size + 1, i, none⟩ u) := by
  obtain ⟨A, h1, h2, h3, h4⟩ := c
  have hlo : lo ≤ w.heap.size := Nat.le_trans h1.1 (Nat.le_trans (Nat.le_of_lt h1.2.1) hhi)
  exact ⟨A, h1.set (.inr (Nat.le_succ_of_le hhi)) u, Bk.far h2 (p := ⟨w.heap.size + 1, i, none⟩) (Nat.succ_ne_self _) u, h3.set i u, h4.setCell (Nat.le_succ_of_le hlo) u⟩

/-- The same with the array, behind so many rounds. -/
def CA (lo hi h : Nat) (l : List UInt8) (s : Bool) (cs arr : List Value) (w wc : World) : Prop := CS lo hi h l s cs w wc ∧ Bk wc (w.heap.size + 2) 123 arr

def CL (lo hi h : Nat) (l4 l5 l6 l7 l8 l9 : List UInt8) (s4 s5 s6 s7 s8 s9 : Bool) (cs : List Value) (po ag ma he de : Int) (w wc : World) : Nat → Prop
  | 0 => CA lo hi h l4 s4 cs [.int .u16 0, .int .u16 0, .int .u16 0, .int .u16 0, .int .u16 0] w wc
  | 1 => CA lo hi h l5 s5 cs [.int .u16 po, .int .u16 0, .int .u16 0, .int .u16 0, .int .u16 0] w wc
  | 2 => CA lo hi h l6 s6 cs [.int .u16 po, .int .u16 ag, .int .u16 0, .int .u16 0, .int .u16 0] w wc
  | 3 => CA lo hi h l7 s7 cs [.int .u16 po, .int .u16 ag, .int .u16 ma, .int .u16 0, .int .u16 0] w wc
  | 4 => CA lo hi h l8 s8 cs [.int .u16 po, .int .u16 ag, .int .u16 ma, .int .u16 he, .int .u16 0] w wc
  | _ => CA lo hi h l9 s9 cs [.int .u16 po, .int .u16 ag, .int .u16 ma, .int .u16 he, .int .u16 de] w wc

theorem CA.num {lo hi h : Nat} {l l' : List UInt8} {s s' : Bool} {cs arr : List Value} {w wc wd : World} {A' : Option Addr} (c : CA lo hi h l s cs arr w wc) (hh : h < w.heap.size) (hr : RD 120 wd lo hi h A' l' s') (hb : Below lo wc wd) (ho : Only h wc wd) : CA lo hi h l' s' cs arr w wd :=
  ⟨c.1.num hh hr hb ho, ho.bk c.2 (Nat.ne_of_gt (Nat.lt_succ_of_lt (Nat.lt_succ_of_lt hh)))⟩

theorem CA.arr {lo hi h : Nat} {l : List UInt8} {s : Bool} {cs arr : List Value} {w wc : World} (c : CA lo hi h l s cs arr w wc) (hhi : hi ≤ w.heap.size) (i : Nat) (u : Value) : CA lo hi h l s cs (arr.set i u) w (wc.setCell ⟨w.heap.size + 2, i, none⟩ u) := by
  obtain ⟨⟨A, h1, h2, h3, h4⟩, h5⟩ := c
  have hlo : lo ≤ w.heap.size := Nat.le_trans h1.1 (Nat.le_trans (Nat.le_of_lt h1.2.1) hhi)
  exact ⟨⟨A, h1.set (.inr (Nat.le_succ_of_le (Nat.le_succ_of_le hhi))) u, Bk.far h2 (p := ⟨w.heap.size + 2, i, none⟩) (by show w.heap.size + 2 ≠ _; omega) u, h3.far (p := ⟨w.heap.size + 2, i, none⟩) (by show w.heap.size + 2 ≠ _; omega) u, h4.setCell (Nat.le_succ_of_le (Nat.le_succ_of_le hlo)) u⟩, h5.set i u⟩

theorem CA.put {lo hi h : Nat} {l : List UInt8} {s : Bool} {cs arr : List Value} {w wc : World} (c : CA lo hi h l s cs arr w wc) (hhi : hi ≤ w.heap.size) (i : Nat) (u : Value) : CA lo hi h l s (cs.set i u) arr w (wc.setCell ⟨w.heap.size + 1, i, none⟩ u) :=
  ⟨c.1.put hhi i u, c.2.far (p := ⟨w.heap.size + 1, i, none⟩) (by show w.heap.size + 1 ≠ _; omega) u⟩

/-- The reader, and the answer's place as it is being filled. -/
def CR (lo hi h : Nat) (l : List UInt8) (s : Bool) (cs : List Value) (w wc : World) : Prop :=
  ∃ A, RD 120 wc lo hi h A l s ∧ Bk wc w.heap.size 56 cs ∧ Below lo w wc

theorem CR.put {lo hi h : Nat} {l : List UInt8} {s : Bool} {cs : List Value} {w wc : World} (c : CR lo hi h l s cs w wc) (hhi : hi ≤ w.heap.size) (i : Nat) (u : Value) : CR lo hi h l s (cs.set i u) w (wc.setCell ⟨w.heap.size, i, none⟩ u) := by
  obtain ⟨A, h1, h2, h3⟩ := c
  have hlo : lo ≤ w.heap.size := Nat.le_trans h1.1 (Nat.le_trans (Nat.le_of_lt h1.2.1) hhi)
  exact ⟨A, h1.set (.inr hhi) u, h2.set i u, h3.setCell hlo u⟩

theorem CA.answer {lo hi h : Nat} {l : List UInt8} {s : Bool} {cs arr : List Value} {w wc : World} (c : CA lo hi h l s cs arr w wc) : CR lo hi h l s [.bool false, .bool false, .bool false, .int .u64 0, .int .u32 0, .int .u64 0, .int .u16 0, .int .u16 0, .int .u16 0, .int .u16 0, .int .u16 0] w wc := by
  obtain ⟨⟨A, h1, h2, _, h4⟩, _⟩ := c
  exact ⟨A, h1, h2, h4⟩

set_option maxHeartbeats 2000000 in
theorem config_any (lo hi h : Nat) (A : Option Addr) (l0 l1 l2 l3 l4 l5 l6 l7 l8 l9 : List UInt8) (s0 s1 s2 s3 s4 s5 s6 s7 s8 s9 : Bool) (v0 ro co br po ag ma he de : Int) (ch ak : Bool)
    (h0 : Hid (NR l0 s0 1 v0 l1 s1)) (h1 : Hid (NR l1 s1 8 ro l2 s2)) (h2 : Hid (NR l2 s2 4 co l3 s3)) (h3 : Hid (NR l3 s3 8 br l4 s4)) (h4 : Hid (NR l4 s4 2 po l5 s5)) (h5 : Hid (NR l5 s5 2 ag l6 s6)) (h6 : Hid (NR l6 s6 2 ma l7 s7)) (h7 : Hid (NR l7 s7 2 he l8 s8)) (h8 : Hid (NR l8 s8 2 de l9 s9))
    (hch : (bits .and .u64 v0 1 != 0) = ch) (hak : (bits .and .u64 v0 128 != 0) = ak) (hin : BpIn ro co br po ag ma he de) (hm : l0.length ≤ 100000) (w : World) (hr : RD 120 w lo hi h A l0 s0) (hhi : hi ≤ w.heap.size) :
    Calls Tryz.prog 61 #[.pointer (some ⟨h, 0, none⟩)] w (CfgEnd lo hi h ch ak ro co br po ag ma he de l9 s9 w) := by
  have m1 : l1.length ≤ 100000 := by rw [← h0.out.2.1]; exact Nat.le_trans (nL_len _ _ _) hm
  have m2 : l2.length ≤ 100000 := by rw [← h1.out.2.1]; exact Nat.le_trans (nL_len _ _ _) m1
  have m3 : l3.length ≤ 100000 := by rw [← h2.out.2.1]; exact Nat.le_trans (nL_len _ _ _) m2
  have m4 : l4.length ≤ 100000 := by rw [← h3.out.2.1]; exact Nat.le_trans (nL_len _ _ _) m3
  have m5 : l5.length ≤ 100000 := by rw [← h4.out.2.1]; exact Nat.le_trans (nL_len _ _ _) m4
  have m6 : l6.length ≤ 100000 := by rw [← h5.out.2.1]; exact Nat.le_trans (nL_len _ _ _) m5
  have m7 : l7.length ≤ 100000 := by rw [← h6.out.2.1]; exact Nat.le_trans (nL_len _ _ _) m6
  have m8 : l8.length ≤ 100000 := by rw [← h7.out.2.1]; exact Nat.le_trans (nL_len _ _ _) m7
  have hhz : h < w.heap.size := Nat.lt_of_lt_of_le hr.2.1 hhi
  have hlz : lo ≤ w.heap.size := Nat.le_trans hr.1 (Nat.le_of_lt hhz)
  obtain ⟨⟨r0, r1⟩, ⟨o0, o1⟩, ⟨b0, b1⟩, ⟨p0, p1⟩, ⟨a0, a1⟩, ⟨n0, n1⟩, ⟨e0, e1⟩, ⟨d0, d1⟩⟩ := hin
  have wco : IntKind.u32.wrap co = co := by rw [show IntKind.u32.wrap co = co % 4294967296 by simp [IntKind.wrap, IntKind.bits, IntKind.signed]]; omega
  have wpo : IntKind.u16.wrap po = po := by rw [show IntKind.u16.wrap po = po % 65536 by simp [IntKind.wrap, IntKind.bits, IntKind.signed]]; omega
  have wag : IntKind.u16.wrap ag = ag := by rw [show IntKind.u16.wrap ag = ag % 65536 by simp [IntKind.wrap, IntKind.bits, IntKind.signed]]; omega
  have wma : IntKind.u16.wrap ma = ma := by rw [show IntKind.u16.wrap ma = ma % 65536 by simp [IntKind.wrap, IntKind.bits, IntKind.signed]]; omega
  have whe : IntKind.u16.wrap he = he := by rw [show IntKind.u16.wrap he = he % 65536 by simp [IntKind.wrap, IntKind.bits, IntKind.signed]]; omega
  have wde : IntKind.u16.wrap de = de := by rw [show IntKind.u16.wrap de = de % 65536 by simp [IntKind.wrap, IntKind.bits, IntKind.signed]]; omega
  go_enter Tryz.func61, Tryz.ntmps61
  go_wp2_with fail
  obtain ⟨wa, hBa, hba, hsa, hwa⟩ := bboxed w false false false 0 0 0 0 0 0 0 0
  rw [← hwa]
  have hza : wa.heap.size = w.heap.size + 1 := by rw [hwa]; simp
  have HZA := Lib.hid hza
  clear hwa hza
  (with_reducible refine (num_any lo hi h A l0 s0 1 1 (Lib.hid rfl) (by omega) _ (hr.below hba hhi) hm).mono ?_); rintro e wb ⟨Ab, rfl, hRb, hbb, hob⟩
  rw [h0.out.1]
  rw [h0.out.2.1, h0.out.2.2] at hRb
  have hBb := hBa.only hob (Nat.ne_of_gt hhz)
  have hzb : Hid (wb.heap.size = w.heap.size + 1) := Lib.hid (hob.1.trans HZA.out)
  have hbwb : Below lo w wb := (hba.mono hlz).trans hbb
  clear hBa hba hsa HZA hbb hob
  go_wp2_with fail
  obtain ⟨wc, hBc, hbc, hsc, hwc⟩ := bboxed wb false ch ak 0 0 0 0 0 0 0 0
  rw [← hwc]
  have hzc : Hid (wc.heap.size = w.heap.size + 2) := by show _ = _; rw [hwc, World.size_alloc, hzb.out]
  rw [hzb.out] at hBc ⊢
  have c0 : CS lo hi h l1 s1 [.bool false, .bool ch, .bool ak, .int .u64 0, .int .u32 0, .int .u64 0, .int .u16 0, .int .u16 0, .int .u16 0, .int .u16 0, .int .u16 0] w wc :=
    ⟨Ab, hRb.below hbc (by rw [hzb.out]; omega), hBb.below hbc (by rw [hzb.out]; omega), hBc, hbwb.trans (hbc.mono (by rw [hzb.out]; omega))⟩
  clear hwc hBc hbc hsc hBb hbwb hRb
  obtain ⟨A1, hR1, _⟩ := id c0
  (with_reducible refine (num_any lo hi h A1 l1 s1 8 8 (Lib.hid rfl) (by omega) _ hR1 m1).mono ?_); rintro e wd ⟨Ad, rfl, hRd, hbd, hod⟩
  rw [h1.out.1]
  rw [h1.out.2.1, h1.out.2.2] at hRd
  have d0 := c0.num hhz hRd hbd hod
  have hzd : Hid (wd.heap.size = w.heap.size + 2) := Lib.hid (hod.1.trans hzc.out)
  clear hR1 hRd hbd hod hzc c0
  obtain ⟨_, _, _, hX, _⟩ := id d0
  have hx := hX.cell 3
  have hf := hX.thaw 3
  clear hX
  simp only [List.getElem?_cons_zero, List.getElem?_cons_succ] at hx
  go_wp2_with fail
  clear hx hf
  obtain ⟨wc, hwc⟩ : ∃ wc, wc = wd.setCell ⟨w.heap.size + 1, 3, none⟩ (.int .u64 ro) := ⟨_, rfl⟩
  have c1 : CS lo hi h l2 s2 [.bool false, .bool ch, .bool ak, .int .u64 ro, .int .u32 0, .int .u64 0, .int .u16 0, .int .u16 0, .int .u16 0, .int .u16 0, .int .u16 0] w wc := by rw [hwc]; exact d0.put hhi 3 _
  have hzc : Hid (wc.heap.size = w.heap.size + 2) := by show _ = _; rw [hwc, ← hzd.out]; simp [World.setCell]
  rw [← hwc]
  clear hwc hzd d0
  obtain ⟨A1, hR1, _⟩ := id c1
  (with_reducible refine (num_any lo hi h A1 l2 s2 4 4 (Lib.hid rfl) (by omega) _ hR1 m2).mono ?_); rintro e wd ⟨Ad, rfl, hRd, hbd, hod⟩
  rw [h2.out.1]
  rw [h2.out.2.1, h2.out.2.2] at hRd
  have d1 := c1.num hhz hRd hbd hod
  have hzd : Hid (wd.heap.size = w.heap.size + 2) := Lib.hid (hod.1.trans hzc.out)
  clear hR1 hRd hbd hod hzc c1
  obtain ⟨_, _, _, hX, _⟩ := id d1
  have hx := hX.cell 4
  have hf := hX.thaw 4
  clear hX
  simp only [List.getElem?_cons_zero, List.getElem?_cons_succ] at hx
  go_wp2_with fail
  clear hx hf
  obtain ⟨wc, hwc⟩ : ∃ wc, wc = wd.setCell ⟨w.heap.size + 1, 4, none⟩ (.int .u32 co) := ⟨_, rfl⟩
  have c2 : CS lo hi h l3 s3 [.bool false, .bool ch, .bool ak, .int .u64 ro, .int .u32 co, .int .u64 0, .int .u16 0, .int .u16 0, .int .u16 0, .int .u16 0, .int .u16 0] w wc := by rw [hwc]; exact d1.put hhi 4 _
  have hzc : Hid (wc.heap.size = w.heap.size + 2) := by show _ = _; rw [hwc, ← hzd.out]; simp [World.setCell]
  rw [← hwc]
  clear hwc hzd d1
  obtain ⟨A1, hR1, _⟩ := id c2
  (with_reducible refine (num_any lo hi h A1 l3 s3 8 8 (Lib.hid rfl) (by omega) _ hR1 m3).mono ?_); rintro e wd ⟨Ad, rfl, hRd, hbd, hod⟩
  rw [h3.out.1]
  rw [h3.out.2.1, h3.out.2.2] at hRd
  have d2 := c2.num hhz hRd hbd hod
  have hzd : Hid (wd.heap.size = w.heap.size + 2) := Lib.hid (hod.1.trans hzc.out)
  clear hR1 hRd hbd hod hzc c2
  obtain ⟨_, _, _, hX, _⟩ := id d2
  have hx := hX.cell 5
  have hf := hX.thaw 5
  clear hX
  simp only [List.getElem?_cons_zero, List.getElem?_cons_succ] at hx
  go_wp2_with fail
  clear hx hf
  obtain ⟨wc, hwc⟩ : ∃ wc, wc = wd.setCell ⟨w.heap.size + 1, 5, none⟩ (.int .u64 br) := ⟨_, rfl⟩
  have c3 : CS lo hi h l4 s4 [.bool false, .bool ch, .bool ak, .int .u64 ro, .int .u32 co, .int .u64 br, .int .u16 0, .int .u16 0, .int .u16 0, .int .u16 0, .int .u16 0] w wc := by rw [hwc]; exact d2.put hhi 5 _
  have hzc : Hid (wc.heap.size = w.heap.size + 2) := by show _ = _; rw [hwc, ← hzd.out]; simp [World.setCell]
  rw [← hwc, hzd.out]
  clear hwc hzd d2
  obtain ⟨wx, hwx⟩ : ∃ wx, wx = wc.alloc (.cells #[.int .u16 0, .int .u16 0, .int .u16 0, .int .u16 0, .int .u16 0] 123) := ⟨_, rfl⟩
  have hA0 : Bk wx (w.heap.size + 2) 123 [.int .u16 0, .int .u16 0, .int .u16 0, .int .u16 0, .int .u16 0] := by rw [hwx, ← hzc.out]; exact heap_alloc_new wc _
  have hbx : Below wc.heap.size wc wx := by rw [hwx]; exact below_new (Nat.le_refl _)
  rw [hzc.out] at hbx
  have cx : CA lo hi h l4 s4 [.bool false, .bool ch, .bool ak, .int .u64 ro, .int .u32 co, .int .u64 br, .int .u16 0, .int .u16 0, .int .u16 0, .int .u16 0, .int .u16 0] [.int .u16 0, .int .u16 0, .int .u16 0, .int .u16 0, .int .u16 0] w wx := by
    obtain ⟨A, q1, q2, q3, q4⟩ := c3
    exact ⟨⟨A, q1.below hbx (by omega), q2.below hbx (by omega), q3.below hbx (by omega), q4.trans (hbx.mono (by omega))⟩, hA0⟩
  rw [← hwx]
  clear hwx hA0 hbx c3 hzc
  go_loopw [26] (fun i wr => ∃ j : Nat, j ≤ 5 ∧ i = .int .i64 j ∧ CL lo hi h l4 l5 l6 l7 l8 l9 s4 s5 s6 s7 s8 s9 [.bool false, .bool ch, .bool ak, .int .u64 ro, .int .u32 co, .int .u64 br, .int .u16 0, .int .u16 0, .int .u16 0, .int .u16 0, .int .u16 0] po ag ma he de w wr j) (fun i _ => 5 - (intOf i).toNat)
  case atStart => exact ⟨0, by omega, rfl, cx⟩
  case round =>
    obtain ⟨j, hj, rfl, hc⟩ := hrel
    clear cx
    match j, hj with
    | 0, _ =>
      have c : CA lo hi h l4 s4 [.bool false, .bool ch, .bool ak, .int .u64 ro, .int .u32 co, .int .u64 br, .int .u16 0, .int .u16 0, .int .u16 0, .int .u16 0, .int .u16 0] [.int .u16 0, .int .u16 0, .int .u16 0, .int .u16 0, .int .u16 0] w wr := hc
      clear hc
      obtain ⟨⟨A1, hR1, _⟩, _⟩ := id c
      go_wp2_with fail
      (with_reducible refine (num_any lo hi h A1 l4 s4 2 2 (Lib.hid rfl) (by omega) _ hR1 m4).mono ?_); rintro e wd ⟨Ad, rfl, hRd, hbd, hod⟩
      rw [h4.out.1]
      rw [h4.out.2.1, h4.out.2.2] at hRd
      have d := c.num hhz hRd hbd hod
      clear hR1 hRd hbd hod c
      have hx := d.2.cell 0
      have hf := d.2.thaw 0
      simp only [List.getElem?_cons_zero] at hx
      have D := d.arr hhi 0 (.int .u16 po)
      clear d
      go_wp2
      go_roundw
      case rel => exact ⟨1, by omega, by go_num, D⟩
      case measure => simp [intOf]
    | 1, _ =>
      have c : CA lo hi h l5 s5 [.bool false, .bool ch, .bool ak, .int .u64 ro, .int .u32 co, .int .u64 br, .int .u16 0, .int .u16 0, .int .u16 0, .int .u16 0, .int .u16 0] [.int .u16 po, .int .u16 0, .int .u16 0, .int .u16 0, .int .u16 0] w wr := hc
      clear hc
      obtain ⟨⟨A1, hR1, _⟩, _⟩ := id c
      go_wp2_with fail
      (with_reducible refine (num_any lo hi h A1 l5 s5 2 2 (Lib.hid rfl) (by omega) _ hR1 m5).mono ?_); rintro e wd ⟨Ad, rfl, hRd, hbd, hod⟩
      rw [h5.out.1]
      rw [h5.out.2.1, h5.out.2.2] at hRd
      have d := c.num hhz hRd hbd hod
      clear hR1 hRd hbd hod c
      have hx := d.2.cell 1
      have hf := d.2.thaw 1
      simp only [List.getElem?_cons_zero, List.getElem?_cons_succ] at hx
      have D := d.arr hhi 1 (.int .u16 ag)
      clear d
      go_wp2
      go_roundw
      case rel => exact ⟨2, by omega, by go_num, D⟩
      case measure => simp [intOf]
    | 2, _ =>
      have c : CA lo hi h l6 s6 [.bool false, .bool ch, .bool ak, .int .u64 ro, .int .u32 co, .int .u64 br, .int .u16 0, .int .u16 0, .int .u16 0, .int .u16 0, .int .u16 0] [.int .u16 po, .int .u16 ag, .int .u16 0, .int .u16 0, .int .u16 0] w wr := hc
      clear hc
      obtain ⟨⟨A1, hR1, _⟩, _⟩ := id c
      go_wp2_with fail
      (with_reducible refine (num_any lo hi h A1 l6 s6 2 2 (Lib.hid rfl) (by omega) _ hR1 m6).mono ?_); rintro e wd ⟨Ad, rfl, hRd, hbd, hod⟩
      rw [h6.out.1]
      rw [h6.out.2.1, h6.out.2.2] at hRd
      have d := c.num hhz hRd hbd hod
      clear hR1 hRd hbd hod c
      have hx := d.2.cell 2
      have hf := d.2.thaw 2
      simp only [List.getElem?_cons_zero, List.getElem?_cons_succ] at hx
      have D := d.arr hhi 2 (.int .u16 ma)
      clear d
      go_wp2
      go_roundw
      case rel => exact ⟨3, by omega, by go_num, D⟩
      case measure => simp [intOf]
    | 3, _ =>
      have c : CA lo hi h l7 s7 [.bool false, .bool ch, .bool ak, .int .u64 ro, .int .u32 co, .int .u64 br, .int .u16 0, .int .u16 0, .int .u16 0, .int .u16 0, .int .u16 0] [.int .u16 po, .int .u16 ag, .int .u16 ma, .int .u16 0, .int .u16 0] w wr := hc
      clear hc
      obtain ⟨⟨A1, hR1, _⟩, _⟩ := id c
      go_wp2_with fail
      (with_reducible refine (num_any lo hi h A1 l7 s7 2 2 (Lib.hid rfl) (by omega) _ hR1 m7).mono ?_); rintro e wd ⟨Ad, rfl, hRd, hbd, hod⟩
      rw [h7.out.1]
      rw [h7.out.2.1, h7.out.2.2] at hRd
      have d := c.num hhz hRd hbd hod
      clear hR1 hRd hbd hod c
      have hx := d.2.cell 3
      have hf := d.2.thaw 3
      simp only [List.getElem?_cons_zero, List.getElem?_cons_succ] at hx
      have D := d.arr hhi 3 (.int .u16 he)
      clear d
      go_wp2
      go_roundw
      case rel => exact ⟨4, by omega, by go_num, D⟩
      case measure => simp [intOf]
    | 4, _ =>
      have c : CA lo hi h l8 s8 [.bool false, .bool ch, .bool ak, .int .u64 ro, .int .u32 co, .int .u64 br, .int .u16 0, .int .u16 0, .int .u16 0, .int .u16 0, .int .u16 0] [.int .u16 po, .int .u16 ag, .int .u16 ma, .int .u16 he, .int .u16 0] w wr := hc
      clear hc
      obtain ⟨⟨A1, hR1, _⟩, _⟩ := id c
      go_wp2_with fail
      (with_reducible refine (num_any lo hi h A1 l8 s8 2 2 (Lib.hid rfl) (by omega) _ hR1 m8).mono ?_); rintro e wd ⟨Ad, rfl, hRd, hbd, hod⟩
      rw [h8.out.1]
      rw [h8.out.2.1, h8.out.2.2] at hRd
      have d := c.num hhz hRd hbd hod
      clear hR1 hRd hbd hod c
      have hx := d.2.cell 4
      have hf := d.2.thaw 4
      simp only [List.getElem?_cons_zero, List.getElem?_cons_succ] at hx
      have D := d.arr hhi 4 (.int .u16 de)
      clear d
      go_wp2
      go_roundw
      case rel => exact ⟨5, by omega, by go_num, D⟩
      case measure => simp [intOf]
    | 5, _ =>
      have c : CA lo hi h l9 s9 [.bool false, .bool ch, .bool ak, .int .u64 ro, .int .u32 co, .int .u64 br, .int .u16 0, .int .u16 0, .int .u16 0, .int .u16 0, .int .u16 0] [.int .u16 po, .int .u16 ag, .int .u16 ma, .int .u16 he, .int .u16 de] w wr := hc
      clear hc
      have y0 : wr.cell? ⟨w.heap.size + 2, 0, none⟩ = some (.int .u16 po) := c.2.cell 0
      obtain ⟨_, _, _, hX, _⟩ := id c.1
      have x6 : wr.cell? ⟨w.heap.size + 1, 6, none⟩ = some (.int .u16 0) := hX.cell 6
      have f6 := hX.thaw 6
      clear hX
      go_wp2_with fail
      obtain ⟨wq, hwq⟩ : ∃ wq, wq = wr.setCell ⟨w.heap.size + 1, 6, none⟩ (.int .u16 po) := ⟨_, rfl⟩
      have cq : CA lo hi h l9 s9 [.bool false, .bool ch, .bool ak, .int .u64 ro, .int .u32 co, .int .u64 br, .int .u16 po, .int .u16 0, .int .u16 0, .int .u16 0, .int .u16 0] [.int .u16 po, .int .u16 ag, .int .u16 ma, .int .u16 he, .int .u16 de] w wq := by rw [hwq]; exact c.put hhi 6 _
      rw [← hwq]
      clear hwq x6 f6 y0 c
      obtain ⟨y1, y2, y3, y4⟩ : wq.cell? ⟨w.heap.size + 2, 1, none⟩ = some (.int .u16 ag) ∧ wq.cell? ⟨w.heap.size + 2, 2, none⟩ = some (.int .u16 ma) ∧ wq.cell? ⟨w.heap.size + 2, 3, none⟩ = some (.int .u16 he) ∧ wq.cell? ⟨w.heap.size + 2, 4, none⟩ = some (.int .u16 de) := ⟨cq.2.cell 1, cq.2.cell 2, cq.2.cell 3, cq.2.cell 4⟩
      obtain ⟨_, _, _, hX, _⟩ := id cq.1
      obtain ⟨d0, d1, d2, d3, d4, d5, d6, d7, d8, d9, d10⟩ := BB.cells (show BB wq (w.heap.size + 1) false ch ak ro co br po 0 0 0 0 from hX)
      obtain ⟨f0, f1, f2, f3, f4, f5, f6, f7, f8, f9, f10⟩ := BB.thaws (show BB wq (w.heap.size + 1) false ch ak ro co br po 0 0 0 0 from hX)
      clear hX
      go_region_held3 (fun w' => w'.cell? ⟨w.heap.size + 2, 1, none⟩ = some (.int .u16 ag) ∧ w'.cell? ⟨w.heap.size + 2, 2, none⟩ = some (.int .u16 ma) ∧ w'.cell? ⟨w.heap.size + 2, 3, none⟩ = some (.int .u16 he) ∧ w'.cell? ⟨w.heap.size + 2, 4, none⟩ = some (.int .u16 de)) (go_keep) (fail)
      clear y1 y2 y3 y4 wco wpo wag wma whe wde hch hak
      obtain ⟨_, _, hBr, _, _⟩ := id cq.1
      obtain ⟨c0, c1, c2, c3, c4, c5, c6, c7, c8, c9, c10⟩ := hBr.cells
      obtain ⟨z0, z1, z2, z3, z4, z5, z6, z7, z8, z9, z10⟩ := hBr.thaws
      clear hBr
      go_wp2_with fail
      have cr := ((((cq.put hhi 7 (.int .u16 ag)).put hhi 8 (.int .u16 ma)).put hhi 9 (.int .u16 he)).put hhi 10 (.int .u16 de)).answer
      have cr := (((((((((((cr.put hhi 0 (.bool false)).put hhi 1 (.bool ch)).put hhi 2 (.bool ak)).put hhi 3 (.int .u64 ro)).put hhi 4 (.int .u32 co)).put hhi 5 (.int .u64 br)).put hhi 6 (.int .u16 po)).put hhi 7 (.int .u16 ag)).put hhi 8 (.int .u16 ma)).put hhi 9 (.int .u16 he)).put hhi 10 (.int .u16 de))
      clear c0 c1 c2 c3 c4 c5 c6 c7 c8 c9 c10 z0 z1 z2 z3 z4 z5 z6 z7 z8 z9 z10 d0 d1 d2 d3 d4 d5 d6 d7 d8 d9 d10 f0 f1 f2 f3 f4 f5 f6 f7 f8 f9 f10 cq
      generalize World.setCell _ ⟨w.heap.size, 10, none⟩ _ = we at cr ⊢
      obtain ⟨A', k1, k2, k3⟩ := cr
      obtain ⟨e0, e1, e2, e3, e4, e5, e6, e7, e8, e9, e10⟩ := BB.cells (show BB we w.heap.size false ch ak ro co br po ag ma he de from k2)
      exact bodyPost_ret (v := .agg #[.bool false, .bool ch, .bool ak, .int .u64 ro, .int .u32 co, .int .u64 br, .int .u16 po, .int .u16 ag, .int .u16 ma, .int .u16 he, .int .u16 de]) (by simp [results, Tryz.results61, go_sem, e0, e1, e2, e3, e4, e5, e6, e7, e8, e9, e10]) rfl ⟨A', rfl, k1, k3.drew⟩

end Go.Proofs.YteplefdnnehdgaaGreatDoor
