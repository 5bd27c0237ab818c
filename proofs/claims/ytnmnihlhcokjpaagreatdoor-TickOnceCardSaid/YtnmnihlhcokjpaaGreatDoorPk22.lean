/- Several texts in one, one behind the other: HeardLaw, TickCount, BytesArg, BpduIn, HeardIn, TickHeardsIn, HeardTcn. -/
import Derived.Test.YtnmnihlhcokjpaaGreatDoorPk21
import Derived.Test.YtnmnihlhcokjpaaGreatDoorPk09
import Derived.Test.YtnmnihlhcokjpaaGreatDoorPk17
import Derived.Test.YtnmnihlhcokjpaaGreatDoorPk18
import Derived.Test.YtnmnihlhcokjpaaGreatDoorPk20
import Derived.Test.YtnmnihlhcokjpaaGreatDoorPk01
import Derived.BigQuiet
import Derived.Deep.QuietTactic
import Derived.LoopTactic
import Derived.Deep.DeepCutAuto
import Derived.Test.YtnmnihlhcokjpaaGreatDoorRows
import Derived.Deep.Slices
import Derived.Deep.Fields
import Derived.ChangeSame
import Derived.Lib.SmallJoins
import Derived.Test.YtnmnihlhcokjpaaGreatDoorPk07
import Derived.Test.YtnmnihlhcokjpaaGreatDoorPk08
import Derived.Test.YtnmnihlhcokjpaaGreatDoorPk11
import Derived.Test.YtnmnihlhcokjpaaGreatDoorPk02

/- What hearing leaves of bounds; a telling in a port that was handed out. -/
namespace Go.Proofs.YtnmnihlhcokjpaaGreatDoor
set_option maxRecDepth 100000
open Go.ChangeShapes Go.WideShapes Go.ChangeAt Go.RowKit
set_option linter.unusedVariables false
set_option linter.unusedSimpArgs false

def AllB (r : Th × List Po) (n : Nat) : Prop := ThB r.1 ∧ ((-9223372036854775808 ≤ r.1.n1 ∧ r.1.n1 ≤ 9223372036854775807 ∧ -9223372036854775808 ≤ r.1.n2 ∧ r.1.n2 ≤ 9223372036854775807 ∧ -9223372036854775808 ≤ r.1.n3 ∧ r.1.n3 ≤ 9223372036854775807)) ∧ (∀ z ∈ r.2, PoB z) ∧ r.2.length = n
theorem told_nb {t : Th} {x : Bq} (hx : BqIn x) : (-9223372036854775808 ≤ (toldT t x).n1 ∧ (toldT t x).n1 ≤ 9223372036854775807 ∧ -9223372036854775808 ≤ (toldT t x).n2 ∧ (toldT t x).n2 ≤ 9223372036854775807 ∧ -9223372036854775808 ≤ (toldT t x).n3 ∧ (toldT t x).n3 ≤ 9223372036854775807) := by
  unfold BqIn BpIn at hx
  unfold toldT
  dsimp only
  omega
theorem acked_nb {t : Th} {x : Bq} (h : (-9223372036854775808 ≤ t.n1 ∧ t.n1 ≤ 9223372036854775807 ∧ -9223372036854775808 ≤ t.n2 ∧ t.n2 ≤ 9223372036854775807 ∧ -9223372036854775808 ≤ t.n3 ∧ t.n3 ≤ 9223372036854775807)) : (-9223372036854775808 ≤ (ackedT t x).n1 ∧ (ackedT t x).n1 ≤ 9223372036854775807 ∧ -9223372036854775808 ≤ (ackedT t x).n2 ∧ (ackedT t x).n2 ≤ 9223372036854775807 ∧ -9223372036854775808 ≤ (ackedT t x).n3 ∧ (ackedT t x).n3 ≤ 9223372036854775807) := by unfold ackedT; split <;> exact h
theorem acked_bd {t : Th} {x : Bq} (h : ThB t) : ThB (ackedT t x) := by unfold ackedT; split <;> exact h
theorem took_all {t : Th} {L : List Po} {k : Nat} {p : Po} {x : Bq} (hl : L.length ≤ 200) (ht : ThB t) (hn : (-9223372036854775808 ≤ t.n1 ∧ t.n1 ≤ 9223372036854775807 ∧ -9223372036854775808 ≤ t.n2 ∧ t.n2 ≤ 9223372036854775807 ∧ -9223372036854775808 ≤ t.n3 ∧ t.n3 ≤ 9223372036854775807)) (hb : ∀ z ∈ L, PoB z) (hx : BqIn x) (hp : L[k]? = some p) : AllB (tookR t L k p x).1 L.length := by
  have hl2 : (L.set k (heldP p x)).length = L.length := List.length_set
  have hb2 : ∀ z ∈ L.set k (heldP p x), PoB z := set_bd hb (held_bd (hb p (List.mem_of_getElem? hp)) hx)
  have h1 : ThB (settleR t (L.set k (heldP p x))).1.1 := settle_bd (by omega) ht hb2
  have h2 := settle_nb (t := t) (L := L.set k (heldP p x)) hn
  have h3 := settle_pb hb2 (sel_bd (by omega) ht hb2)
  have h4 : (settleR t (L.set k (heldP p x))).1.2.length = L.length := settle_n hl2
  unfold tookR
  dsimp only
  split
  · have ha := allR_bd (t := toldT (lateT (decide (t.ro = t.ow)) (settleR t (L.set k (heldP p x))).1.1) x) h3 L.length
    exact ⟨acked_bd (t := toldT _ x) (late_bd h1), acked_nb (told_nb hx), ha.2.2, ha.1.trans h4⟩
  · exact ⟨late_bd h1, late_nb h2, h3, h4⟩
theorem heard_all {t : Th} {L : List Po} {i : Int} {x : Bq} (hl : L.length ≤ 200) (ht : ThB t) (hn : (-9223372036854775808 ≤ t.n1 ∧ t.n1 ≤ 9223372036854775807 ∧ -9223372036854775808 ≤ t.n2 ∧ t.n2 ≤ 9223372036854775807 ∧ -9223372036854775808 ≤ t.n3 ∧ t.n3 ≤ 9223372036854775807)) (hb : ∀ z ∈ L, PoB z) (hx : BqIn x) : AllB (heardR t L i x).1 L.length := by
  have same : AllB (t, L) L.length := ⟨ht, hn, hb, rfl⟩
  unfold heardR
  split
  · split
    · exact same
    · rename_i p hp
      split
      · exact same
      · split
        · exact took_all hl ht hn hb hx hp
        · split
          · exact ⟨ht, hn, confR_bd hb i, confR_len t L i⟩
          · exact same
  · exact same
end Go.Proofs.YtnmnihlhcokjpaaGreatDoor

/- How many configurations go out by each port, counted by the law's own function. -/
namespace Go.Proofs.YtnmnihlhcokjpaaGreatDoor
set_option maxRecDepth 100000
open Go.ChangeShapes Go.WideShapes Go.ChangeAt Go.RowKit
set_option linter.unusedVariables false
set_option linter.unusedSimpArgs false

/-- What is counted: no TCN, as it is read. -/
def isC (o : Ou) : Bool := !(gE (bqB o.x) == 0) || !gTc (bqB o.x)
theorem isC_tcn {o : Ou} (h : o.x.tc = true) : isC o = false := by
  have e : bqB o.x = tcnB ++ [] := by unfold bqB; rw [if_pos h, List.append_nil]
  unfold isC
  rw [e, gE_tcnB, (g_tcnB []).1]
  rfl
def cntG (k : Int) : List Ou → Nat
  | [] => 0
  | o :: r => (if o.i = k ∧ isC o = true then 1 else 0) + cntG k r
theorem cntG_le (k : Int) (M : List Ou) : cntG k M ≤ cntI k M := by
  induction M with
  | nil => exact Nat.le_refl _
  | cons o r ih =>
    simp only [cntG, cntI]
    have : (if o.i = k ∧ isC o = true then 1 else 0) ≤ (if o.i = k ∧ o.x.tc = false then 1 else 0) := by
      by_cases h : o.i = k ∧ isC o = true
      · rw [if_pos h]
        have : o.x.tc = false := by
          cases e : o.x.tc with
          | false => rfl
          | true => have := isC_tcn e; rw [h.2] at this; cases this
        rw [if_pos ⟨h.1, this⟩]
        exact Nat.le_refl _
      · rw [if_neg h]; exact Nat.zero_le _
    omega
theorem cntG_app (k : Int) (a b : List Ou) : cntG k (a ++ b) = cntG k a + cntG k b := by
  induction a with
  | nil => simp [cntG]
  | cons o r ih => simp only [List.cons_append, cntG, ih]; omega
theorem cntG_len (k : Int) (M : List Ou) : cntG k M ≤ M.length := by
  induction M with
  | nil => exact Nat.le_refl _
  | cons o r ih =>
    simp only [cntG, List.length_cons]
    split <;> omega
/-- The numbers in the box. -/
def lN (f : Nat → Nat) : List Value := (List.range 16).map (fun k => .int .i64 (f k))
theorem lN_len (f : Nat → Nat) : (lN f).length = 16 := by unfold lN; simp
theorem lN_at (f : Nat → Nat) {k : Nat} (h : k < 16) : (lN f)[k]? = some (.int .i64 (f k)) := by
  unfold lN
  rw [List.getElem?_map, List.getElem?_range h]
  rfl
def bump (f : Nat → Nat) (q : Nat) : Nat → Nat := fun k => if k = q then f k + 1 else f k
theorem lN_set (f : Nat → Nat) (q : Nat) : (lN f).set q (.int .i64 ((f q : Int) + 1)) = lN (bump f q) := by
  apply List.ext_getElem?
  intro k
  by_cases h : k < 16
  · by_cases e : q = k
    · subst e
      rw [List.getElem?_set_self (by rw [lN_len]; exact h), lN_at _ h]
      unfold bump
      rw [if_pos rfl]
      simp
    · rw [List.getElem?_set_ne e, lN_at _ h, lN_at _ h]
      unfold bump
      rw [if_neg (fun z => e z.symm)]
  · rw [List.getElem?_eq_none (by rw [List.length_set, lN_len]; omega), List.getElem?_eq_none (by rw [lN_len]; omega)]
def addF (f : Nat → Nat) (M : List Ou) : Nat → Nat := fun k => f k + cntG k M
theorem addF_nil (f : Nat → Nat) : addF f [] = f := by funext k; simp [addF, cntG]
theorem addF_app (f : Nat → Nat) (a b : List Ou) : addF f (a ++ b) = addF (addF f a) b := by funext k; simp only [addF, cntG_app]; omega
theorem addF_no (f : Nat → Nat) (o : Ou) (h : (o.i < 0 ∨ 16 ≤ o.i) ∨ isC o = false) (k : Nat) (hk : k < 16) : addF f [o] k = f k := by
  have : ¬ (o.i = (k : Int) ∧ isC o = true) := by
    rintro ⟨h1, h2⟩
    rcases h with h | h
    · omega
    · rw [h2] at h; cases h
  simp [addF, cntG, this]
theorem lN_same {f g : Nat → Nat} (h : ∀ k, k < 16 → f k = g k) : lN f = lN g := by
  apply List.ext_getElem?
  intro k
  by_cases q : k < 16
  · rw [lN_at _ q, lN_at _ q, h k q]
  · rw [List.getElem?_eq_none (by rw [lN_len]; omega), List.getElem?_eq_none (by rw [lN_len]; omega)]
theorem addF_yes (f : Nat → Nat) (o : Ou) (q : Nat) (h : o.i = (q : Int)) (hc : isC o = true) : addF f [o] = bump f q := by
  funext k
  by_cases e : k = q
  · subst e
    simp [addF, cntG, bump, h, hc]
  · have : ¬ ((q : Int) = (k : Int)) := by omega
    simp [addF, cntG, bump, h, e, this]
theorem lN_no (f : Nat → Nat) (M : List Ou) (o : Ou) (h : (o.i < 0 ∨ 16 ≤ o.i) ∨ isC o = false) : lN (addF f (M ++ [o])) = lN (addF f M) := by
  rw [addF_app]
  exact lN_same (fun k hk => addF_no _ o h k hk)
/-- Nothing that was there changes but block g. -/
def OnlyG (g : Nat) (w w' : World) : Prop := (∀ k, k ≠ g → k < w.heap.size → w'.heap[k]? = w.heap[k]?) ∧ Below g w w'
theorem OnlyG.refl (g : Nat) (w : World) : OnlyG g w w := ⟨fun _ _ _ => rfl, Below.refl _ _⟩
theorem OnlyG.trans {g : Nat} {a b c : World} (h : OnlyG g a b) (k : OnlyG g b c) : OnlyG g a c :=
  ⟨fun i h1 h2 => (k.1 i h1 (by have := h.2.size; omega)).trans (h.1 i h1 h2), h.2.trans k.2⟩
theorem OnlyG.below {g : Nat} {a b : World} (h : Below a.heap.size a b) (hg : g ≤ a.heap.size) : OnlyG g a b := ⟨fun i _ h2 => h.block i h2, h.mono hg⟩
theorem OnlyG.set (g j : Nat) (w : World) (u : Value) : OnlyG g w (w.setCell ⟨g, j, none⟩ u) :=
  ⟨fun k h1 _ => Below.heap_setCell w ⟨g, j, none⟩ u k h1, (Below.refl g w).setCell (p := ⟨g, j, none⟩) (Nat.le_refl _) u⟩
theorem OnlyG.drew {g : Nat} {a b : World} (h : OnlyG g a b) : OnlyG g a b.drew := ⟨h.1, h.2.drew⟩
theorem Hs.onlyG {w wx wy : World} {l : List (Nat × TypeId × List Value)} (h : Hs w l wx) (i : Nat) {g : Nat} {T : TypeId} {cs : List Value} (hi : l[i]? = some (g, T, cs)) (cs' : List Value) (hb : Bk wy g T cs') (ho : OnlyG g wx wy) : Hs w (l.set i (g, T, cs')) wy := by
  have hg := (h.1 _ _ _ _ hi).2
  refine ⟨fun k g' T' cs'' hk => ?_, fun j k a b hn hj hk => ?_, h.old.trans (ho.2.mono hg)⟩
  · by_cases e : k = i
    · subst e
      rw [List.getElem?_set_self (List.getElem?_eq_some_iff.1 hi).1] at hk
      cases hk
      exact ⟨hb, hg⟩
    · rw [List.getElem?_set_ne (fun q => e q.symm)] at hk
      have hne := h.2.1 k i _ _ e hk hi
      exact ⟨(ho.1 g' hne (h.lt k hk)).trans (h.1 _ _ _ _ hk).1, (h.1 _ _ _ _ hk).2⟩
  · have key : ∀ (k : Nat) (x : Nat × TypeId × List Value), (l.set i (g, T, cs'))[k]? = some x → ∃ y, l[k]? = some y ∧ y.1 = x.1 := by
      intro k x hx
      by_cases e : k = i
      · subst e
        rw [List.getElem?_set_self (List.getElem?_eq_some_iff.1 hi).1] at hx
        cases hx
        exact ⟨_, hi, rfl⟩
      · rw [List.getElem?_set_ne (fun q => e q.symm)] at hx
        exact ⟨x, hx, rfl⟩
    obtain ⟨y, hy, e1⟩ := key j a hj
    obtain ⟨z, hz, e2⟩ := key k b hk
    rw [← e1, ← e2]
    exact h.2.1 j k y z hn hy hz
theorem TS.onlyG {w wx wy : World} {l : List (Nat × TypeId × List Value)} {D : Option Addr} {L : List Po} (h : TS w l D L wx) (i : Nat) {g : Nat} {T : TypeId} {cs : List Value} (hi : l[i]? = some (g, T, cs)) (cs' : List Value) (hb : Bk wy g T cs') (ho : OnlyG g wx wy) : TS w (l.set i (g, T, cs')) D L wy := by
  refine ⟨h.1.onlyG i hi cs' hb ho, h.2.imp id fun ⟨g', r, q, s⟩ => ⟨g', r, q, ?_⟩⟩
  have hl := (List.getElem?_eq_some_iff.1 hi).1
  have := s.onlyG i (by rw [List.getElem?_append_left hl]; exact hi) cs' hb ho
  rwa [List.set_append_left _ _ hl] at this
theorem OutsR.onlyG {w w' : World} {B g : Nat} {v : Value} {M : List Ou} (h : OutsR w B v M) (hg : g < B) (ho : OnlyG g w w') : OutsR w' B v M := by
  obtain ⟨C, e, hown, hd⟩ := h
  refine ⟨C, e, ⟨hown.1, hown.2.imp id ?_⟩, fun c hc => ?_⟩
  · rintro ⟨g', cap', cur, hv, hg', hh, r⟩
    have hlt : g' < w.heap.size := by
      rcases Nat.lt_or_ge g' w.heap.size with q | q
      · exact q
      · rw [Array.getElem?_eq_none q] at hh; cases hh
    exact ⟨g', cap', cur, hv, hg', (ho.1 g' (by omega) hlt).trans hh, r⟩
  · obtain ⟨hg', sp, y1, y2, y3⟩ := hd c hc
    exact ⟨hg', sp, y1, y2, (ho.1 c.g (by omega) (Bk.lt y3)).trans y3⟩

set_option maxHeartbeats 4000000 in
theorem count_is (A : Option Addr) (cap m : Nat) (M : List Ou) (g B : Nat) (f : Nat → Nat) (hM : Hid (M.length = m)) (hm : m ≤ 1000) (hf : Hid (∀ k, f k ≤ 2)) (w : World) (hb : Hid (Bk w g 40 (lN f))) (hg : Hid (g < B)) (hB : Hid (B ≤ w.heap.size)) (ho : Hid (OutsR w B (.slice A m cap) M)) :
    Calls Tryz.prog 11 #[.slice A m cap, .pointer (some ⟨g, 0, none⟩)] w fun e w' => e = .returned (.tuple #[]) ∧ Bk w' g 40 (lN (addF f M)) ∧ OnlyG g w w' := by
  have RR : Hid (Bk w g 40 (lN (addF f (M.take 0))) ∧ OnlyG g w w ∧ OutsR w B (.slice A m cap) M) := Lib.hid ⟨by rw [List.take_zero, addF_nil]; exact hb.out, OnlyG.refl _ _, ho.out⟩
  clear hb ho
  go_enter Tryz.func11, Tryz.ntmps11
  go_wp2_with fail
  go_loopw [4] (fun i wr => ∃ j : Nat, j ≤ m ∧ i = .int .i64 j ∧ Hid (Bk wr g 40 (lN (addF f (M.take j))) ∧ OnlyG g w wr ∧ OutsR wr B (.slice A m cap) M)) (fun i _ => m - (intOf i).toNat)
  case atStart => exact ⟨0, Nat.zero_le _, rfl, RR⟩
  case round =>
    clear RR
    obtain ⟨j, hj, rfl, Q⟩ := hrel
    by_cases hjm : j < m
    · have hji : (j : Int) < (m : Int) := by omega
      have hjz : ¬ (m : Int) ≤ (j : Int) := by omega
      obtain ⟨o, ho⟩ : ∃ o, M[j]? = some o := ⟨M[j]'(by have := hM.out; omega), List.getElem?_eq_getElem _⟩
      have HO := Lib.hid ho
      have HTK := Lib.hid (show M.take (j + 1) = M.take j ++ [o] by rw [List.take_add_one, ho]; rfl)
      clear ho
      obtain ⟨c, u, hco, rfl, hu, hcl, hat⟩ := Q.out.2.2.at HO.out
      have hN3 : 3 ≤ ouN c.o := by unfold ouN; omega
      have hrow : Row wr c.g c.cap (ouB c.o) := hat.2
      have hcap : ouN c.o ≤ c.cap := by
        obtain ⟨_, _, h3, _⟩ := hrow
        rw [ouB_len] at h3
        exact h3
      have p4 : wr.cell? ⟨u, j * 5 + 1 + 3, none⟩ = some (.slice (some ⟨c.g, 0, none⟩) (ouN c.o) c.cap) := hcl 4 _ rfl
      have HP0 := Lib.hid (show ∀ W, Below wr.heap.size wr W → W.cell? ⟨u, j * 5, none⟩ = some (.int .i64 o.i) from fun W b => by
        have := hcl 0 _ rfl
        rw [hco] at this
        exact (b.cell (p := ⟨u, j * 5, none⟩) hu).trans this)
      obtain ⟨CA, hCA⟩ : ∃ q, cutA (some ⟨c.g, 0, none⟩) 3 c.cap = q := ⟨_, rfl⟩
      obtain ⟨m3, hm3⟩ : ∃ q, ouN c.o - 3 = q := ⟨_, rfl⟩
      obtain ⟨c3, hc3⟩ : ∃ q, c.cap - 3 = q := ⟨_, rfl⟩
      obtain ⟨lb, hlb⟩ : ∃ q, bqB o.x = q := ⟨_, rfl⟩
      have hcut : ∀ W, (Instr.sliceAt 79 (.slice (some ⟨c.g, 0, none⟩) (ouN c.o) c.cap) (some (.int .i64 3)) none none).run Tryz.prog W = .ok (.slice CA m3 c3) W := fun W => by rw [← hCA, ← hm3, ← hc3]; exact scut_any _ _ _ 3 hN3 W
      have hrb : RB wr CA 0 wr.heap.size lb := by
        have h := (hrow.rb 0 wr.heap.size (Nat.zero_le _) hrow.lt).drop 3 c.cap (by rw [ouB_len]; exact hcap)
        rw [hCA, hco] at h
        rw [← hlb]
        exact h
      have hlen : lb.length = m3 := by
        rw [← hlb, ← hm3, bqB_len, hco]
        unfold ouN
        omega
      have hm3b : m3 ≤ 10000 := by
        have := bqN_le o.x
        rw [← hlen, ← hlb, bqB_len]
        omega
      have HGT : Hid (Calls Tryz.prog 29 #[.slice CA m3 c3] wr (fun e w' => e = .returned (.tuple #[.agg (lB (getQ lb)).toArray, .int .i64 (gE lb)]) ∧ Below wr.heap.size wr w')) := Lib.hid (get_any CA c3 lb m3 (Lib.hid hlen) hm3b (by omega) wr hrb)
      have hIS : isC o = (!(gE lb == 0) || !gTc lb) := by unfold isC; rw [hlb]
      clear hlb hrb hlen hm3b hCA hm3 hc3 hrow hat hcl hco hcap hN3 hu
      have HGB := Lib.hid (show g < wr.heap.size from Bk.lt Q.out.1)
      go_wp2_with fail
      (with_reducible refine HGT.out.mono ?_); rintro e w10 ⟨rfl, b10⟩
      have Q10 : Hid (Bk w10 g 40 (lN (addF f (M.take j))) ∧ OnlyG g w w10 ∧ OutsR w10 B (.slice (some ⟨u, 0, none⟩) m cap) M) := Lib.hid ⟨Q.out.1.below b10 HGB.out, Q.out.2.1.trans (OnlyG.below b10 (Nat.le_of_lt HGB.out)), Q.out.2.2.below b10⟩
      have p0 := HP0.out _ b10
      have HP1 := Lib.hid (show ∀ W, Below w10.heap.size w10 W → W.cell? ⟨u, j * 5, none⟩ = some (.int .i64 o.i) from fun W b => HP0.out W (b10.trans (b.mono b10.size)))
      clear Q HGT HP0 b10 p4 hcut p0 HGB
      go_upto_region 4 with (refine wpList_store_row rfl 46 _ _ rfl _ _ rfl rfl _ _ (heap_alloc_new _ _) (by kernel_rfl) (by kernel_rfl) (by kernel_rfl) ?_)
      rw [alloc_row]
      have bN := new_below w10 (.cells (lB (getQ lb)).toArray 46)
      have x0 : (w10.alloc (.cells (lB (getQ lb)).toArray 46)).cell? ⟨w10.heap.size, 0, none⟩ = some (.bool (gTc lb)) := (show Bk _ w10.heap.size 46 (lB (getQ lb)) from heap_alloc_new _ _).cell 0
      obtain ⟨tc, htc⟩ : ∃ q, gTc lb = q := ⟨_, rfl⟩
      obtain ⟨ge, hge⟩ : ∃ q, gE lb = q := ⟨_, rfl⟩
      rw [htc] at x0 hIS
      rw [hge] at hIS ⊢
      clear htc hge
      have HGB := Lib.hid (show g < w10.heap.size from Bk.lt Q10.out.1)
      have Q11 : Hid (Bk _ g 40 (lN (addF f (M.take j))) ∧ OnlyG g w _ ∧ OutsR _ B (.slice (some ⟨u, 0, none⟩) m cap) M) := Lib.hid ⟨Q10.out.1.below bN HGB.out, Q10.out.2.1.trans (OnlyG.below bN (Nat.le_of_lt HGB.out)), Q10.out.2.2.below bN⟩
      have p0 := HP1.out _ bN
      obtain ⟨w11, hw11⟩ : ∃ q, w10.alloc (.cells (lB (getQ lb)).toArray 46) = q := ⟨_, rfl⟩
      obtain ⟨V, hV⟩ : ∃ q, w10.heap.size = q := ⟨_, rfl⟩
      rw [hw11] at x0 Q11 p0 ⊢
      rw [hV] at x0 ⊢
      clear hw11 hV bN Q10 HP1 HGB
      obtain ⟨z, hz⟩ : ∃ z, o.i = z := ⟨_, rfl⟩
      rw [hz] at p0
      by_cases h0 : 0 ≤ z
      · by_cases h1 : z < 16
        · obtain ⟨b2, hb2⟩ : ∃ q, (ge == 0) = q := ⟨_, rfl⟩
          have hb3 : (ge != 0) = !b2 := by rw [← hb2]; rfl
          rw [hb2] at hIS
          cases hc : isC o with
          | false =>
            rw [hc] at hIS
            obtain ⟨rfl, rfl⟩ : b2 = true ∧ tc = true := by cases b2 <;> cases tc <;> simp at hIS ⊢
            have QN := Lib.hid (show _ ∧ _ ∧ _ from ⟨(lN_no f (M.take j) o (.inr hc)) ▸ Q11.out.1, Q11.out.2.1, Q11.out.2.2⟩)
            rw [← HTK.out] at QN
            clear hIS hc hz HO HTK Q11
            go_wp2
            go_roundw
            case rel => exact ⟨j + 1, by omega, by go_num, QN⟩
            case measure => simp [intOf]; omega
          | true =>
            obtain ⟨q, rfl⟩ : ∃ q : Nat, z = q := ⟨z.toNat, by omega⟩
            have hq16 : q < 16 := by omega
            obtain ⟨F, hF⟩ : ∃ F, addF f (M.take j) = F := ⟨_, rfl⟩
            have hFb : F q ≤ 1002 := by
              rw [← hF]
              unfold addF
              have h1 := hf.out q
              have h2 := cntG_len (q : Int) (M.take j)
              rw [List.length_take] at h2
              omega
            have HFF := Lib.hid hF
            have n0 : w11.cell? ⟨g, q, none⟩ = some (.int .i64 (F q)) := by
              have := Q11.out.1.cell q
              rw [hF, lN_at _ hq16] at this
              exact this
            have fz := Q11.out.1.thaw q
            have hqn : ¬ (16 : Int) ≤ (q : Int) := by omega
            have hwf : IntKind.i64.wrap ((F q : Int) + 1) = (F q : Int) + 1 := by simp [IntKind.wrap, IntKind.bits, IntKind.signed]; omega
            have QN : Hid (Bk (w11.setCell ⟨g, q, none⟩ (.int .i64 ((F q : Int) + 1))).drew g 40 (lN (addF f (M.take (j + 1)))) ∧ OnlyG g w (w11.setCell ⟨g, q, none⟩ (.int .i64 ((F q : Int) + 1))).drew ∧ OutsR (w11.setCell ⟨g, q, none⟩ (.int .i64 ((F q : Int) + 1))).drew B (.slice (some ⟨u, 0, none⟩) m cap) M) := by
              have h1 := Q11.out.1.set q (.int .i64 ((F q : Int) + 1))
              rw [hF, lN_set] at h1
              have hO := OnlyG.drew (OnlyG.set g q w11 (.int .i64 ((F q : Int) + 1)))
              refine Lib.hid ⟨?_, Q11.out.2.1.trans hO, Q11.out.2.2.onlyG hg.out hO⟩
              rw [HTK.out, addF_app, hF, addF_yes F o q hz hc]
              exact h1
            rw [hc] at hIS
            clear hz HO HTK hF hc Q11 hFb HFF
            cases b2 with
            | false =>
              clear hIS
              go_wp2
              go_region
              go_wp2
              go_roundw
              case rel => exact ⟨j + 1, by omega, by go_num, QN⟩
              case measure => simp [intOf]; omega
            | true =>
              obtain rfl : tc = false := by simpa using hIS
              clear hIS
              go_wp2
              go_region
              go_wp2
              go_roundw
              case rel => exact ⟨j + 1, by omega, by go_num, QN⟩
              case measure => simp [intOf]; omega
        · have QN := Lib.hid (show _ ∧ _ ∧ _ from ⟨(lN_no f (M.take j) o (.inl (.inr (by omega)))) ▸ Q11.out.1, Q11.out.2.1, Q11.out.2.2⟩)
          rw [← HTK.out] at QN
          clear hz HO HTK Q11 hIS
          go_wp2
          go_roundw
          case rel => exact ⟨j + 1, by omega, by go_num, QN⟩
          case measure => simp [intOf]; omega
      · have QN := Lib.hid (show _ ∧ _ ∧ _ from ⟨(lN_no f (M.take j) o (.inl (.inl (by omega)))) ▸ Q11.out.1, Q11.out.2.1, Q11.out.2.2⟩)
        rw [← HTK.out] at QN
        clear hz HO HTK Q11 hIS
        go_wp2
        go_roundw
        case rel => exact ⟨j + 1, by omega, by go_num, QN⟩
        case measure => simp [intOf]; omega
    · have hjz : ¬ (j : Int) < (m : Int) := by omega
      have e : M.take j = M := List.take_of_length_le (by have := hM.out; omega)
      have QN := Q.out
      rw [e] at QN
      clear Q e
      go_wp2
      exact bodyPost_end (results_none rfl _ _ _) rfl ⟨rfl, QN.1, QN.2.1⟩

end Go.Proofs.YtnmnihlhcokjpaaGreatDoor

/- Bytes that came in as an argument. -/
namespace Go.Proofs.YtnmnihlhcokjpaaGreatDoor
set_option maxRecDepth 100000
open Go.Joins Go.ChangeShapes Go.WideShapes Go.ChangeAt Go.RowKit Go.Deep
set_option linter.unusedVariables false

end Go.Proofs.YtnmnihlhcokjpaaGreatDoor

/- A Bpdu that came in as an argument: its eleven fields. -/
namespace Go.Proofs.YtnmnihlhcokjpaaGreatDoor
set_option maxRecDepth 100000
open Go.Joins Go.ChangeShapes Go.WideShapes Go.ChangeAt Go.RowKit Go.Deep
set_option linter.unusedVariables false

theorem Tryz.cellsBpdu : Tryz.prog.cellsOf 46 = 11 := by kernel_rfl

section
variable {H : Type} {enc : TypeId × Value → H} {P : Program} {w : World} {base : Nat} {spare : Nat → Bool} {held : Bool}
end

end Go.Proofs.YtnmnihlhcokjpaaGreatDoor

/- A Bpdu that came in as an argument, under one name. -/
namespace Go.Proofs.YtnmnihlhcokjpaaGreatDoor
set_option maxRecDepth 100000
open Go.ChangeShapes Go.WideShapes Go.ChangeAt Go.RowKit
set_option linter.unusedVariables false
set_option linter.unusedSimpArgs false

end Go.Proofs.YtnmnihlhcokjpaaGreatDoor

/- A slice of what is heard that came in as an argument: of each the port and the telling. -/
namespace Go.Proofs.YtnmnihlhcokjpaaGreatDoor
set_option maxRecDepth 100000
open Go.Joins Go.ChangeShapes Go.WideShapes Go.ChangeAt Go.RowKit Go.Deep
set_option linter.unusedVariables false

/-- What a port hears. -/
structure HV where
  i : Int
  x : Bq

/-- The slice at 'a' holds the tellings L. -/
def HeardsIn (w : World) (a : Option Addr) (B : Nat) (L : List HV) : Prop :=
  ∀ k y, L[k]? = some y → ∃ ad, a = some ad ∧ ad.block < B ∧ w.cell? (ad.add (k * 12)) = some (.int .u8 y.i) ∧ (∀ j v, (lB y.x)[j]? = some v → w.cell? ((ad.add (k * 12)).add (1 + j)) = some v) ∧ (0 ≤ y.i ∧ y.i ≤ 255) ∧ BqIn y.x
theorem HeardsIn.below {w w' : World} {a : Option Addr} {B : Nat} {L : List HV} (h : HeardsIn w a B L) (hb : Below B w w') : HeardsIn w' a B L := fun k x e => by
  obtain ⟨ad, h1, h2, h3, h4, h5⟩ := h k x e
  exact ⟨ad, h1, h2, (hb.cell (p := ad.add (k * 12)) (by rw [Go.Proofs.YtnmnihlhcokjpaaGreatDoor.add_block]; exact h2)).trans h3, fun j v hv => (hb.cell (p := (ad.add (k * 12)).add (1 + j)) (by rw [Go.Proofs.YtnmnihlhcokjpaaGreatDoor.add_block, Go.Proofs.YtnmnihlhcokjpaaGreatDoor.add_block]; exact h2)).trans (h4 j v hv), h5⟩

theorem hv_list_of {τ : Type} {P : Nat → τ → Prop} : ∀ n, (∀ i, i < n → ∃ t, P i t) → ∃ L : List τ, L.length = n ∧ ∀ k t, L[k]? = some t → P k t
  | 0, _ => ⟨[], rfl, fun k t e => by simp at e⟩
  | n + 1, h => by
    obtain ⟨L, hl, hL⟩ := hv_list_of n (fun i hi => h i (by omega))
    obtain ⟨t, ht⟩ := h n (by omega)
    refine ⟨L ++ [t], by simp [hl], fun k u e => ?_⟩
    rcases Nat.lt_or_ge k n with q | q
    · rw [List.getElem?_append_left (by omega)] at e
      exact hL k u e
    · rw [List.getElem?_append_right (by omega)] at e
      have : k - L.length = 0 := by
        rcases Nat.eq_zero_or_pos (k - L.length) with z | z
        · exact z
        · rw [List.getElem?_eq_none (by simp; omega)] at e; cases e
      rw [this] at e
      have hk : k = n := by omega
      have := Option.some.inj e
      subst this
      rw [hk]; exact ht

theorem Tryz.cellsHV : Tryz.prog.cellsOf 48 = 12 := by kernel_rfl
theorem Tryz.hv_one_b : Tryz.prog.cellsOf 4 = 1 := by kernel_rfl
theorem Tryz.hv_one_id : Tryz.prog.cellsOf 23 = 1 := by kernel_rfl
theorem Tryz.hv_one_32 : Tryz.prog.cellsOf 24 = 1 := by kernel_rfl
theorem Tryz.hv_one_pid : Tryz.prog.cellsOf 44 = 1 := by kernel_rfl
theorem Tryz.hv_one_16 : Tryz.prog.cellsOf 43 = 1 := by kernel_rfl
theorem Tryz.hv_one_8 : Tryz.prog.cellsOf 5 = 1 := by kernel_rfl

section
variable {H : Type} {enc : TypeId × Value → H} {w : World} {base : Nat} {spare : Nat → Bool} {held : Bool}
/-- The cells of a telling, read. -/
theorem bq_trod {n : Nat} {c0 c1 c2 c3 c4 c5 c6 c7 c8 c9 c10 : Value} {y : DataW H × List MemPlace} (h : DataW.trod enc Tryz.prog w base spare held n 46 [c0, c1, c2, c3, c4, c5, c6, c7, c8, c9, c10] = some y) :
    ∃ x : Bq, [c0, c1, c2, c3, c4, c5, c6, c7, c8, c9, c10] = lB x ∧ BqIn x := by
  obtain ⟨ys, n', _, _, hlen, hyl, hfl⟩ := DataW.trod_struct Tryz.underlying46 h
  have h0 : DataW.trod enc Tryz.prog w base spare held n' 4 (([c0, c1, c2, c3, c4, c5, c6, c7, c8, c9, c10].drop 0).take (Tryz.prog.cellsOf 4)) = ys[0]? := hfl 0 _ rfl
  rw [Tryz.hv_one_b] at h0
  have h1 : DataW.trod enc Tryz.prog w base spare held n' 4 (([c0, c1, c2, c3, c4, c5, c6, c7, c8, c9, c10].drop 1).take (Tryz.prog.cellsOf 4)) = ys[1]? := hfl 1 _ rfl
  rw [Tryz.hv_one_b] at h1
  have h2 : DataW.trod enc Tryz.prog w base spare held n' 4 (([c0, c1, c2, c3, c4, c5, c6, c7, c8, c9, c10].drop 2).take (Tryz.prog.cellsOf 4)) = ys[2]? := hfl 2 _ rfl
  rw [Tryz.hv_one_b] at h2
  have h3 : DataW.trod enc Tryz.prog w base spare held n' 23 (([c0, c1, c2, c3, c4, c5, c6, c7, c8, c9, c10].drop 3).take (Tryz.prog.cellsOf 23)) = ys[3]? := hfl 3 _ rfl
  rw [Tryz.hv_one_id] at h3
  have h4 : DataW.trod enc Tryz.prog w base spare held n' 24 (([c0, c1, c2, c3, c4, c5, c6, c7, c8, c9, c10].drop 4).take (Tryz.prog.cellsOf 24)) = ys[4]? := hfl 4 _ rfl
  rw [Tryz.hv_one_32] at h4
  have h5 : DataW.trod enc Tryz.prog w base spare held n' 23 (([c0, c1, c2, c3, c4, c5, c6, c7, c8, c9, c10].drop 5).take (Tryz.prog.cellsOf 23)) = ys[5]? := hfl 5 _ rfl
  rw [Tryz.hv_one_id] at h5
  have h6 : DataW.trod enc Tryz.prog w base spare held n' 44 (([c0, c1, c2, c3, c4, c5, c6, c7, c8, c9, c10].drop 6).take (Tryz.prog.cellsOf 44)) = ys[6]? := hfl 6 _ rfl
  rw [Tryz.hv_one_pid] at h6
  have h7 : DataW.trod enc Tryz.prog w base spare held n' 43 (([c0, c1, c2, c3, c4, c5, c6, c7, c8, c9, c10].drop 7).take (Tryz.prog.cellsOf 43)) = ys[7]? := hfl 7 _ rfl
  rw [Tryz.hv_one_16] at h7
  have h8 : DataW.trod enc Tryz.prog w base spare held n' 43 (([c0, c1, c2, c3, c4, c5, c6, c7, c8, c9, c10].drop 8).take (Tryz.prog.cellsOf 43)) = ys[8]? := hfl 8 _ rfl
  rw [Tryz.hv_one_16] at h8
  have h9 : DataW.trod enc Tryz.prog w base spare held n' 43 (([c0, c1, c2, c3, c4, c5, c6, c7, c8, c9, c10].drop 9).take (Tryz.prog.cellsOf 43)) = ys[9]? := hfl 9 _ rfl
  rw [Tryz.hv_one_16] at h9
  have h10 : DataW.trod enc Tryz.prog w base spare held n' 43 (([c0, c1, c2, c3, c4, c5, c6, c7, c8, c9, c10].drop 10).take (Tryz.prog.cellsOf 43)) = ys[10]? := hfl 10 _ rfl
  rw [Tryz.hv_one_16] at h10
  have hy : ys.length = 11 := hyl
  have y0 : ys[0]? = some (ys[0]'(by omega)) := List.getElem?_eq_getElem (by omega)
  rw [y0] at h0
  have y1 : ys[1]? = some (ys[1]'(by omega)) := List.getElem?_eq_getElem (by omega)
  rw [y1] at h1
  have y2 : ys[2]? = some (ys[2]'(by omega)) := List.getElem?_eq_getElem (by omega)
  rw [y2] at h2
  have y3 : ys[3]? = some (ys[3]'(by omega)) := List.getElem?_eq_getElem (by omega)
  rw [y3] at h3
  have y4 : ys[4]? = some (ys[4]'(by omega)) := List.getElem?_eq_getElem (by omega)
  rw [y4] at h4
  have y5 : ys[5]? = some (ys[5]'(by omega)) := List.getElem?_eq_getElem (by omega)
  rw [y5] at h5
  have y6 : ys[6]? = some (ys[6]'(by omega)) := List.getElem?_eq_getElem (by omega)
  rw [y6] at h6
  have y7 : ys[7]? = some (ys[7]'(by omega)) := List.getElem?_eq_getElem (by omega)
  rw [y7] at h7
  have y8 : ys[8]? = some (ys[8]'(by omega)) := List.getElem?_eq_getElem (by omega)
  rw [y8] at h8
  have y9 : ys[9]? = some (ys[9]'(by omega)) := List.getElem?_eq_getElem (by omega)
  rw [y9] at h9
  have y10 : ys[10]? = some (ys[10]'(by omega)) := List.getElem?_eq_getElem (by omega)
  rw [y10] at h10
  obtain ⟨tc, e0, _⟩ := DataW.trod_bool Tryz.underlying4 h0
  obtain ⟨ch, e1, _⟩ := DataW.trod_bool Tryz.underlying4 h1
  obtain ⟨ak, e2, _⟩ := DataW.trod_bool Tryz.underlying4 h2
  obtain ⟨ro, e3, _, u3⟩ := DataW.trod_int Tryz.underlying23 h3
  obtain ⟨co, e4, _, u4⟩ := DataW.trod_int Tryz.underlying24 h4
  obtain ⟨br, e5, _, u5⟩ := DataW.trod_int Tryz.underlying23 h5
  obtain ⟨po, e6, _, u6⟩ := DataW.trod_int Tryz.underlying44 h6
  obtain ⟨ag, e7, _, u7⟩ := DataW.trod_int Tryz.underlying43 h7
  obtain ⟨ma, e8, _, u8⟩ := DataW.trod_int Tryz.underlying43 h8
  obtain ⟨he, e9, _, u9⟩ := DataW.trod_int Tryz.underlying43 h9
  obtain ⟨de, e10, _, u10⟩ := DataW.trod_int Tryz.underlying43 h10
  simp at e0 e1 e2 e3 e4 e5 e6 e7 e8 e9 e10
  subst e0 e1 e2 e3 e4 e5 e6 e7 e8 e9 e10
  have b3 := bounds_u64 u3
  have b4 := bounds_u32 u4
  have b5 := bounds_u64 u5
  have b6 := bounds_u16 u6
  have b7 := bounds_u16 u7
  have b8 := bounds_u16 u8
  have b9 := bounds_u16 u9
  have b10 := bounds_u16 u10
  exact ⟨⟨tc, ch, ak, ro, co, br, po, ag, ma, he, de⟩, rfl, ⟨by dsimp only; omega, by dsimp only; omega⟩, ⟨by dsimp only; omega, by dsimp only; omega⟩, ⟨by dsimp only; omega, by dsimp only; omega⟩, ⟨by dsimp only; omega, by dsimp only; omega⟩, ⟨by dsimp only; omega, by dsimp only; omega⟩, ⟨by dsimp only; omega, by dsimp only; omega⟩, ⟨by dsimp only; omega, by dsimp only; omega⟩, ⟨by dsimp only; omega, by dsimp only; omega⟩⟩
end

set_option maxRecDepth 100000 in
theorem heards_arg {H : Type} {enc : TypeId × Value → H} {w : World} {r : Reach} {base b0 : Nat} {v : Value} {d : DataW H} {p : List MemPlace}
    (hv : Value.okWide Tryz.prog w r b0 39 v) (h : DataW.Trod enc Tryz.prog w base (fun _ => true) true 39 v d p) :
    ∃ a len cap L, v = .slice a len cap ∧ L.length = len ∧ len ≤ maxLen ∧ HeardsIn w a w.heap.size L := by
  obtain ⟨a, len, cap, rfl⟩ := okWide_slice Tryz.underlying39 hv
  obtain ⟨fuel, hf⟩ := h
  rcases open_slice Tryz.underlying39 hf with ⟨hcs, _⟩ | ⟨x, l, c, m, n, D, Q, hcs, _, hl, hm, hmm, _, hi⟩
  · simp [Value.cells] at hcs
    obtain ⟨rfl, rfl, rfl⟩ := hcs
    exact ⟨_, _, _, [], rfl, rfl, Nat.zero_le _, fun k y e => by simp at e⟩
  · simp [Value.cells] at hcs
    obtain ⟨rfl, rfl, rfl⟩ := hcs
    have hlm : len ≤ m := by rw [hmm]; split <;> omega
    obtain ⟨L, hL, hP⟩ := hv_list_of (P := fun k (y : HV) => w.cell? (x.add (k * 12)) = some (.int .u8 y.i) ∧ (∀ j v, (lB y.x)[j]? = some v → w.cell? ((x.add (k * 12)).add (1 + j)) = some v) ∧ (0 ≤ y.i ∧ y.i ≤ 255) ∧ BqIn y.x) len (fun i hin => by
        obtain ⟨cs', hc, ht⟩ := hi i (by omega)
        rw [Tryz.cellsHV] at hc
        obtain ⟨ys, n', _, _, hlen, hyl, hfl⟩ := DataW.trod_struct Tryz.underlying48 ht
        rw [Tryz.cellsHV] at hlen
        obtain ⟨_, hcl, hat⟩ := World.cells?_some hc
        match cs', hlen with
        | [q0, q1, q2, q3, q4, q5, q6, q7, q8, q9, q10, q11], _ =>
          have h0 : DataW.trod enc Tryz.prog w base (fun _ => true) true n' 5 (([q0, q1, q2, q3, q4, q5, q6, q7, q8, q9, q10, q11].drop 0).take (Tryz.prog.cellsOf 5)) = ys[0]? := hfl 0 _ rfl
          have h1 : DataW.trod enc Tryz.prog w base (fun _ => true) true n' 46 (([q0, q1, q2, q3, q4, q5, q6, q7, q8, q9, q10, q11].drop 1).take (Tryz.prog.cellsOf 46)) = ys[1]? := hfl 1 _ rfl
          rw [Tryz.hv_one_8] at h0
          rw [Tryz.cellsBpdu] at h1
          have hy3 : ys.length = 2 := hyl
          have y0 : ys[0]? = some (ys[0]'(by omega)) := List.getElem?_eq_getElem (by omega)
          have y1 : ys[1]? = some (ys[1]'(by omega)) := List.getElem?_eq_getElem (by omega)
          rw [y0] at h0
          rw [y1] at h1
          obtain ⟨z, e0, _, wz⟩ := DataW.trod_int Tryz.underlying5 h0
          obtain ⟨xq, e1, hx⟩ := bq_trod h1
          obtain ⟨b0, b1⟩ := bounds_u8 wz
          simp at e0
          subst e0
          have g0 := hat 0 (by omega)
          rw [Go.Proofs.YtnmnihlhcokjpaaGreatDoor.add_add] at g0
          refine ⟨⟨z, xq⟩, g0, fun j v hj => ?_, ⟨b0, by show z ≤ _; omega⟩, hx⟩
          have hj' : (lB xq)[j]? = some v := hj
          rw [← e1] at hj'
          have hj11 : j < 11 := by
            rcases Nat.lt_or_ge j 11 with q | q
            · exact q
            · rw [List.getElem?_eq_none (by simpa using q)] at hj'; cases hj'
          have g1 := hat (1 + j) (by omega)
          rw [g1]
          rw [Nat.add_comm 1 j]
          exact hj')
    refine ⟨some x, len, cap, L, rfl, hL, Nat.le_trans hl hm, fun k y e => ?_⟩
    obtain ⟨h1, h2, h3, h4⟩ := hP k y e
    have hb := block_lt_of_cell h1
    rw [Go.Proofs.YtnmnihlhcokjpaaGreatDoor.add_block] at hb
    exact ⟨x, rfl, hb, h1, h2, h3, h4⟩

end Go.Proofs.YtnmnihlhcokjpaaGreatDoor

/- Tcn heard: contract. -/
namespace Go.Proofs.YtnmnihlhcokjpaaGreatDoor
set_option maxRecDepth 100000
open Go.ChangeShapes Go.WideShapes Go.ChangeAt Go.RowKit
set_option linter.unusedVariables false
set_option linter.unusedSimpArgs false

set_option maxHeartbeats 4000000 in
theorem htcn_is (t : Th) (A : Option Addr) (n cap : Nat) (L : List Po) (i : Int) (hi : -9223372036854775808 ≤ i ∧ i ≤ 9223372036854775807) (hL : Hid (L.length = n)) (hf : n ≤ 200) (ht : Hid (ThB t)) (hn : Hid (-9223372036854775808 ≤ t.n1 ∧ t.n1 ≤ 9223372036854775807 ∧ -9223372036854775808 ≤ t.n2 ∧ t.n2 ≤ 9223372036854775807 ∧ -9223372036854775808 ≤ t.n3 ∧ t.n3 ≤ 9223372036854775807)) (hb : Hid (∀ x ∈ L, PoB x)) (hc : Hid (A = none → cap = 0)) (w : World) (hd : Hd w) (hp : Hid (PoAt w A w.heap.size L)) :
    Calls Tryz.prog 12 #[.agg (lT t A n cap).toArray, .int .i64 i] w (ConfEnd w (tcnHeardR t L i).1.1 n ((tcnHeardR t L i).1.2, (tcnHeardR t L i).2)) := by
  have HD := Lib.hid hd
  clear hd
  obtain ⟨S0, hS0⟩ : ∃ S0, tcnHeardR t L i = S0 := ⟨_, rfl⟩
  rw [hS0]
  have HS0 := Lib.hid hS0
  clear hS0
  obtain ⟨q, hq⟩ : ∃ q, (if 0 ≤ i then (match L[i.toNat]? with | none => false | some p => !decide (p.st = 0)) else false) = q := ⟨_, rfl⟩
  have HON := fun W (h : Below w.heap.size w W) => Lib.hid (hears_is t A n cap L hL i q (Lib.hid hq) W (Lib.hid ((hp.out.below h (Nat.le_refl _)).wide h.size)))
  have HQ := Lib.hid hq
  clear hq
  obtain ⟨wb, hwb, S⟩ := hs_two w 31 31 (lT t A n cap) [.int .u64 0, .int .u64 0, .int .u32 0, .int .i64 0, .int .i64 0, .int .i64 0, .int .i64 0, .int .i64 0, .int .i64 0, .int .i64 0, .bool false, .bool false, .bool false, .int .i64 0, .bool false, .int .i64 0, .bool false, .int .i64 0, .slice none 0 0]
  go_enter Tryz.func12, Tryz.ntmps12
  go_upto_region 1 with fail
  clear hwb
  obtain ⟨X, hX⟩ : ∃ q, w.heap.size = q := ⟨_, rfl⟩
  rw [hX] at S
  obtain ⟨Y, hY⟩ : ∃ q, X + 1 = q := ⟨_, rfl⟩
  rw [hY] at S
  rw [hX]
  rw [hY]
  clear hX hY
  have HH := fun q : LaterW wb => HON q.w' (S.old.trans (q.h.mono S.old.size))
  clear HON
  have hs0 := HS0.out
  unfold tcnHeardR at hs0
  have hq := HQ.out
  cases q with
  | false =>
    have hs0 : ((t, L), []) = S0 := by
      rw [← hs0]
      by_cases i0 : 0 ≤ i
      · rw [if_pos i0] at hq ⊢
        cases hl : L[i.toNat]? with
        | none => rfl
        | some p =>
          rw [hl] at hq
          have : p.st = 0 := by simpa using hq
          simp only [if_pos this]
      · rw [if_neg i0]
    clear hq
    go_cut [22] (fun u wx => u = .bool true ∧ Below wb.heap.size wb wx)
    case first =>
      refine region_later mixedL (by kernel_rfl) ?_
      (refine BigFrame.wpQuiet_want (by kernel_rfl) (fun K hK => ?_); refine quiet_load_row 31 _ rfl X (by kernel_rfl) _ _ (0, 0) _ (S.bkq 1 rfl) Tryz.underlying31 rfl (by kernel_rfl) ?_; refine hK _ ?_; clear hK; go_simp)
      go_big_quiet_step (fail)
      go_big_quiet_step ((go_at_call 30; with_reducible exact Calls.later (HH _).out))
      repeat (go_big_quiet_step (fail))
      refine wpQuiet_nil ?_
      intro r
      go_wp2_with fail
      go_meet
      exact ⟨rfl, r.h⟩
    case rest =>
      obtain ⟨rfl, B1⟩ := hcut
      rename World => w1
      have S1 := S.below B1
      clear S B1 HH
      subst hs0
      have HC := Lib.hid (tcopy_is t A n cap L hL hf hc _ (Lib.hid ((hp.out.below S1.old (Nat.le_refl _)).wide S1.old.size)))
      have hx := S1.bk 1 rfl
      go_wp2_with (with_reducible refine wpList_load_row rfl 31 (.tmp 2) rfl X (by kernel_rfl) _ _ (0, 0) _ hx Tryz.underlying31 rfl (by kernel_rfl) ?_)
      (with_reducible refine HC.out.mono ?_); rintro e wz ⟨Dz, cz, rfl, hzz, kz⟩
      have Sz := TS.take S1 kz
      have hy := Sz.hs.bk 0 rfl
      have Sy := Sz.row 0 rfl (lT t Dz n cz)
      have hyF := Sy.hs.bk 0 rfl
      clear S1 hx HC kz
      go_wp2_with (refine wpList_store_row rfl 31 _ _ rfl Y _ rfl rfl _ _ hy (by kernel_rfl) (by kernel_rfl) (by kernel_rfl) ?_)
      exact bodyPost_ret (v := .tuple #[.agg (lT t Dz n cz).toArray, .slice none 0 0]) (results_two rfl _ _ Y _ _ _ _ rfl _ rfl hyF Tryz.underlying31 rfl (by kernel_rfl)) rfl ⟨Dz, cz, _, rfl, hzz, Sy.nobox, OutsR.nil _ _⟩
  | true =>
    have h0 : 0 ≤ i := by
      by_cases i0 : 0 ≤ i
      · exact i0
      · rw [if_neg i0] at hq; cases hq
    obtain ⟨k, rfl⟩ : ∃ k : Nat, i = k := ⟨i.toNat, by omega⟩
    rw [if_pos h0, Int.toNat_natCast] at hq
    clear hs0
    obtain ⟨p, hp0⟩ : ∃ p, L[k]? = some p := by
      cases hl : L[k]? with
      | none => rw [hl] at hq; cases hq
      | some p => exact ⟨p, rfl⟩
    rw [hp0] at hq
    have hst : p.st ≠ 0 := by simpa using hq
    have hkn : k < n := by have := po_lt hp0; have := hL.out; omega
    have hki : (k : Int) < (n : Int) := by omega
    have hkz : ¬ (n : Int) ≤ (k : Int) := by omega
    have HXK := Lib.hid hp0
    have hs0 := HS0.out
    unfold tcnHeardR at hs0
    rw [if_pos h0, Int.toNat_natCast, hp0] at hs0
    simp only [if_neg hst] at hs0
    obtain ⟨d, hd⟩ : ∃ d, desB p t.ow = d := ⟨_, rfl⟩
    rw [hd] at hs0
    have HDS := fun W => Lib.hid (desig_row p t.ow d (Lib.hid hd) W)
    have HSS := Lib.hid hs0
    clear hq hp0 hs0 h0 hi hst hd HS0 HQ
    obtain ⟨ad, rfl⟩ := hp.out.some HXK.out
    have c18 : ∀ q : LaterW wb, q.w'.cell? ⟨X, 18, none⟩ = some (.slice (some ad) n cap) := fun q => (S.below q.h).cell 1 18 rfl rfl
    have c0 : ∀ q : LaterW wb, q.w'.cell? ⟨X, 0, none⟩ = some (.int .u64 t.ow) := fun q => (S.below q.h).cell 1 0 rfl rfl
    go_cut [22] (fun u wx => u = .bool (!d) ∧ Below wb.heap.size wb wx)
    case first =>
      refine region_later mixedL (by kernel_rfl) ?_
      (refine BigFrame.wpQuiet_want (by kernel_rfl) (fun K hK => ?_); refine quiet_load_row 31 _ rfl X (by kernel_rfl) _ _ (0, 0) _ (S.bkq 1 rfl) Tryz.underlying31 rfl (by kernel_rfl) ?_; refine hK _ ?_; clear hK; go_simp)
      go_big_quiet_step (fail)
      go_big_quiet_step ((go_at_call 30; with_reducible exact Calls.later (HH _).out))
      go_big_quiet_step (fail)
      go_big_quiet_step (fail)
      go_big_quiet_step (fail)
      go_big_quiet_step (fail)
      go_big_quiet_step (fail)
      go_big_quiet_step (fail)
      (refine BigFrame.wpQuiet_want (by kernel_rfl) (fun K hK => ?_); refine quiet_load_at 63 _ rfl (ad.add (k * 15)) (by kernel_rfl) _ _ (fun v hv => by obtain ⟨q, rfl⟩ := hv; exact (hp.out.below (S.below q.h).old (Nat.le_refl _)).at HXK.out rfl) Tryz.underlying63 rfl (by kernel_rfl) ?_; refine hK _ ?_; clear hK; go_simp)
      go_big_quiet_step (fail)
      go_big_quiet_step (fail)
      go_big_quiet_step ((go_at_call 31; with_reducible exact Calls.later (HDS _).out))
      repeat (go_big_quiet_step (fail))
      refine wpQuiet_nil ?_
      intro r
      go_wp2_with fail
      go_meet
      exact ⟨rfl, r.h⟩
    case rest =>
      obtain ⟨rfl, B1⟩ := hcut
      rename World => w1
      have S1 := S.below B1
      clear S B1 HH HDS c18 c0
      have hs0 := HSS.out
      cases d with
      | false =>
        simp only [Bool.false_eq_true, if_false] at hs0
        subst hs0
        have HC := Lib.hid (tcopy_is t (some ad) n cap L hL hf hc _ (Lib.hid ((hp.out.below S1.old (Nat.le_refl _)).wide S1.old.size)))
        have hx := S1.bk 1 rfl
        go_wp2_with (with_reducible refine wpList_load_row rfl 31 (.tmp 2) rfl X (by kernel_rfl) _ _ (0, 0) _ hx Tryz.underlying31 rfl (by kernel_rfl) ?_)
        (with_reducible refine HC.out.mono ?_); rintro e wz ⟨Dz, cz, rfl, hzz, kz⟩
        have Sz := TS.take S1 kz
        have hy := Sz.hs.bk 0 rfl
        have Sy := Sz.row 0 rfl (lT t Dz n cz)
        have hyF := Sy.hs.bk 0 rfl
        clear S1 hx HC kz
        go_wp2_with (refine wpList_store_row rfl 31 _ _ rfl Y _ rfl rfl _ _ hy (by kernel_rfl) (by kernel_rfl) (by kernel_rfl) ?_)
        exact bodyPost_ret (v := .tuple #[.agg (lT t Dz n cz).toArray, .slice none 0 0]) (results_two rfl _ _ Y _ _ _ _ rfl _ rfl hyF Tryz.underlying31 rfl (by kernel_rfl)) rfl ⟨Dz, cz, _, rfl, hzz, Sy.nobox, OutsR.nil _ _⟩
      | true =>
        simp only [if_true] at hs0
        have HSS := Lib.hid hs0
        clear hs0
        obtain ⟨u, hu⟩ : ∃ u, detT t = u := ⟨_, rfl⟩
        have HTU := Lib.hid (show ThB u by rw [← hu]; exact det_bd ht.out)
        have HNU := Lib.hid (show (-9223372036854775808 ≤ u.n1 ∧ u.n1 ≤ 9223372036854775807 ∧ -9223372036854775808 ≤ u.n2 ∧ u.n2 ≤ 9223372036854775807 ∧ -9223372036854775808 ≤ u.n3 ∧ u.n3 ≤ 9223372036854775807) by rw [← hu]; exact nb_det hn.out)
        obtain ⟨o, ho⟩ : ∃ o, detO t n = o := ⟨_, rfl⟩
        have HOL := Lib.hid (show o.length ≤ 1 by rw [← ho]; exact det_few _ _)
        have HC := Lib.hid (sdetect_is t (some ad) n cap L hL hf ht hc w1 (HD.out.below S1.old (Nat.le_refl _)) (Lib.hid ((hp.out.below S1.old (Nat.le_refl _)).wide S1.old.size)))
        rw [hu, ho] at HC
        have HUU := Lib.hid hu
        have HOO := Lib.hid ho
        clear hu ho
        go_upto_region 3 with fail
        have hx := S1.bk 1 rfl
        go_wp2_with (with_reducible refine wpList_load_row rfl 31 (.tmp 2) rfl X (by kernel_rfl) _ _ (0, 0) _ hx Tryz.underlying31 rfl (by kernel_rfl) ?_)
        (with_reducible refine HC.out.mono ?_); rintro e w2 ⟨D1, c1, v, rfl, hz1, k2, hO⟩
        have S2 := TS.take S1 k2
        have hO2 := hO.mono S1.old.size
        have HZ1 := Lib.hid hz1
        clear S1 hx HC k2 hO hz1
        have hx := S2.hs.bk 1 rfl
        go_upto_region 4 with (refine wpList_store_row rfl 31 _ _ rfl X _ rfl rfl _ _ hx (by kernel_rfl) (by kernel_rfl) (by kernel_rfl) ?_)
        have S3 : TS w [(Y, 31, [.int .u64 0, .int .u64 0, .int .u32 0, .int .i64 0, .int .i64 0, .int .i64 0, .int .i64 0, .int .i64 0, .int .i64 0, .int .i64 0, .bool false, .bool false, .bool false, .int .i64 0, .bool false, .int .i64 0, .bool false, .int .i64 0, .slice none 0 0]), (X, 31, lT u D1 n c1)] D1 L _ := S2.row 1 rfl (lT u D1 n c1)
        have hO3 := hO2.store S2.hs 1 rfl (lT u D1 n c1).toArray
        generalize w2.setRow X (lT u D1 n c1).toArray = w3 at S3 hO3 ⊢
        clear S2 hO2 hx
        have HC := Lib.hid (with_is u D1 n c1 L k p ({ p with ak := true } : Po) HXK 34 #[] (enters_of Tryz.func34 (by kernel_rfl) rfl) hL hf HZ1 w3 (Lib.hid (tcn1_ok HXK.out w3)) (Lib.hid S3.ports))
        have hx := S3.hs.bk 1 rfl
        go_wp2_with (with_reducible refine wpList_load_row rfl 31 (.tmp 2) rfl X (by kernel_rfl) _ _ (0, 0) _ hx Tryz.underlying31 rfl (by kernel_rfl) ?_)
        (with_reducible refine HC.out.mono ?_); rintro e w4 ⟨D2, c2, rfl, hz2, k4⟩
        have S4 := TS.take S3.hs k4
        have hO4 := hO3.below k4.old
        have HZ2 := Lib.hid hz2
        clear S3 hO3 hx HC k4 hz2
        have hx := S4.hs.bk 1 rfl
        go_upto_region 5 with (refine wpList_store_row rfl 31 _ _ rfl X _ rfl rfl _ _ hx (by kernel_rfl) (by kernel_rfl) (by kernel_rfl) ?_)
        have S5 : TS w [(Y, 31, [.int .u64 0, .int .u64 0, .int .u32 0, .int .i64 0, .int .i64 0, .int .i64 0, .int .i64 0, .int .i64 0, .int .i64 0, .int .i64 0, .bool false, .bool false, .bool false, .int .i64 0, .bool false, .int .i64 0, .bool false, .int .i64 0, .slice none 0 0]), (X, 31, lT u D2 n c2)] D2 (L.set k ({ p with ak := true } : Po)) _ := S4.row 1 rfl (lT u D2 n c2)
        have hO5 := hO4.store S4.hs 1 rfl (lT u D2 n c2).toArray
        generalize w4.setRow X (lT u D2 n c2).toArray = w5 at S5 hO5 ⊢
        clear S4 hO4 hx
        have HBN := Lib.hid (show ∀ y ∈ L.set k ({ p with ak := true } : Po), PoB y from set_bd hb.out (by have := hb.out p (List.mem_of_getElem? HXK.out); unfold PoB at *; exact this))
        have HC := Lib.hid (sconf_is u D2 n c2 (L.set k ({ p with ak := true } : Po)) k (by omega) (Lib.hid (set_len hL.out)) hf HTU HNU HBN HZ2 w5 (HD.out.below S5.old (Nat.le_refl _)) (Lib.hid S5.ports))
        have HRF := Lib.hid (confR_few u (L.set k ({ p with ak := true } : Po)) k)
        obtain ⟨R, hR⟩ : ∃ R, confR u (L.set k ({ p with ak := true } : Po)) k = R := ⟨_, rfl⟩
        rw [hR] at HC HRF
        have HRR := Lib.hid hR
        clear hR
        have hx := S5.hs.bk 1 rfl
        go_wp2_with (with_reducible refine wpList_load_row rfl 31 (.tmp 2) rfl X (by kernel_rfl) _ _ (0, 0) _ hx Tryz.underlying31 rfl (by kernel_rfl) ?_)
        (with_reducible refine HC.out.mono ?_); rintro e w6 ⟨D3, c3, v3, rfl, hz3, k6, hO⟩
        have S6 := TS.take S5.hs k6
        have hO6 := hO5.below k6.old
        have HWQ := Lib.hid (show w.heap.size ≤ w5.heap.size from S5.old.size)
        have HZ3 := Lib.hid hz3
        clear S5 hO5 hx HC k6 hz3
        have hx := S6.hs.bk 1 rfl
        go_upto_region 6 with (refine wpList_store_row rfl 31 _ _ rfl X _ rfl rfl _ _ hx (by kernel_rfl) (by kernel_rfl) (by kernel_rfl) ?_)
        have S7 : TS w [(Y, 31, [.int .u64 0, .int .u64 0, .int .u32 0, .int .i64 0, .int .i64 0, .int .i64 0, .int .i64 0, .int .i64 0, .int .i64 0, .int .i64 0, .bool false, .bool false, .bool false, .int .i64 0, .bool false, .int .i64 0, .bool false, .int .i64 0, .slice none 0 0]), (X, 31, lT u D3 n c3)] D3 R.1 _ := S6.row 1 rfl (lT u D3 n c3)
        have hO7 := hO6.store S6.hs 1 rfl (lT u D3 n c3).toArray
        have hQ7 := hO.store S6.hs 1 rfl (lT u D3 n c3).toArray
        generalize w6.setRow X (lT u D3 n c3).toArray = w7 at S7 hO7 hQ7 ⊢
        clear S6 hO6 hO hx
        have hlen : o.length + R.2.length ≤ 100000 := by have h1 := HOL.out; have h2 := HRF.out; omega
        refine wp_region_held_drew (S := (fun w' => Bk w' X 31 (lT u D3 n c3))) (by kernel_rfl) ((S7.hs.drewB 1 rfl)) (fun hHeld => ?_)
        have Sd := S7.below ((Below.refl _ _).drew)
        have hOd := hO7.below ((Below.refl _ _).drew)
        have hQd := hQ7.below ((Below.refl _ _).drew)
        obtain ⟨vd, hvd⟩ : ∃ y, w7.drew = y := ⟨_, rfl⟩
        rw [hvd] at Sd hOd hQd hHeld ⊢
        clear hvd S7 hO7 hQ7
        have hbd : w.heap.size ≤ vd.heap.size := Sd.old.size
        obtain ⟨_, _, hown⟩ := hOd.own
        refine wpAnyH_take (i := 0) (v := _) rfl (by kernel_rfl) (by kernel_rfl) (by kernel_rfl) (fun _ _ _ h => h) (Or.inl ⟨by kernel_rfl, fun w' hSw => exec_load_row 31 _ rfl X (by kernel_rfl) _ _ (0, 0) _ (hSw) Tryz.underlying31 rfl (by kernel_rfl)⟩) (by assumption) ?_
        try simp only [Act.put, List.getElem_toArray, List.getElem_cons_succ, List.getElem_cons_zero, List.setIfInBounds_toArray, List.set_cons_succ, List.set_cons_zero]
        refine wpAnyH_take (i := 1) (v := ?_) rfl (by kernel_rfl) (by kernel_rfl) (by kernel_rfl) (fun _ _ _ h => h) (Or.inl ⟨by kernel_rfl, ?_⟩) (by assumption) ?_
        rotate_left
        · intro w' hSw; (try dsimp only at hSw); go_simp; with_reducible rfl
        try simp only [Act.put, List.getElem_toArray, List.getElem_cons_succ, List.getElem_cons_zero, List.setIfInBounds_toArray, List.set_cons_succ, List.set_cons_zero]
        refine wpAnyH_take (i := 2) (v := ?_) rfl (by kernel_rfl) (by kernel_rfl) (by kernel_rfl) (fun _ _ _ h => h) (Or.inl ⟨by kernel_rfl, ?_⟩) (by assumption) ?_
        rotate_left
        · intro w' hSw; (try dsimp only at hSw); go_simp; with_reducible rfl
        try simp only [Act.put, List.getElem_toArray, List.getElem_cons_succ, List.getElem_cons_zero, List.setIfInBounds_toArray, List.set_cons_succ, List.set_cons_zero]
        refine wpAnyH_ready (rs := [3]) (by kernel_rfl) (by simp) ?_
        refine AllReadyH.cons rfl (fun K hK => ?_) AllReadyH.nil
        refine step_append_outs rfl (.tmp 40) (.tmp 41) (by kernel_rfl) w.heap.size w5.heap.size v v3 o R.2 (by kernel_rfl) (by kernel_rfl) hOd hQd HWQ.out hlen hbd ?_
        intro v' we hOe gr
        have Se := Sd.grownT hown gr (fun y hy => by simp only [List.mem_cons, List.not_mem_nil, or_false] at hy; rcases hy with rfl | rfl <;> (dsimp only; decide)) (Nat.le_refl _)
        clear Sd hOd hQd gr hown
        refine hK.out _ _ ((Se.hs.1 1 _ _ _ rfl).1) (fun hHeld => ?_)
        clear hK K
        try simp only [Act.put, List.getElem_toArray, List.getElem_cons_succ, List.getElem_cons_zero, List.setIfInBounds_toArray, List.set_cons_succ, List.set_cons_zero]
        have hy := Se.hs.bk 0 rfl
        refine wpAnyH_ready (rs := [4]) (by kernel_rfl) (by simp) ?_
        refine AllReadyH.cons rfl (fun K hK => ?_) AllReadyH.nil
        refine exec_if_store (by kernel_rfl) 31 (.tmp 4) (.tmp 39) rfl Y (lT u D3 n c3).toArray (by kernel_rfl) (by kernel_rfl) _ _ hy (by kernel_rfl) (by kernel_rfl) (by kernel_rfl) ?_
        have Sf := Se.row 0 rfl (lT u D3 n c3)
        refine hK.out _ _ ((Sf.hs.1 1 _ _ _ rfl).1) (fun hHeld => ?_)
        clear hK K
        try simp only [Act.put, List.getElem_toArray, List.getElem_cons_succ, List.getElem_cons_zero, List.setIfInBounds_toArray, List.set_cons_succ, List.set_cons_zero]
        refine wpAnyH_take (i := 5) (v := ?_) rfl (by kernel_rfl) (by kernel_rfl) (by kernel_rfl) (fun _ _ _ h => h) (Or.inl ⟨by kernel_rfl, ?_⟩) (by assumption) ?_
        rotate_left
        · intro w' hSw; (try dsimp only at hSw); go_simp; with_reducible rfl
        try simp only [Act.put, List.getElem_toArray, List.getElem_cons_succ, List.getElem_cons_zero, List.setIfInBounds_toArray, List.set_cons_succ, List.set_cons_zero]
        refine wpAnyH_done (by kernel_rfl) ?_ _
        have hOF := hOe.store Se.hs 0 rfl (lT u D3 n c3).toArray
        have hyF := Sf.hs.bk 0 rfl
        have e := HSS.out
        rw [HUU.out, hL.out, HOO.out, HRR.out] at e
        subst e
        go_wp2
        exact bodyPost_ret (v := .tuple #[.agg (lT u D3 n c3).toArray, v']) (results_two rfl _ _ Y _ _ _ _ rfl _ rfl hyF Tryz.underlying31 rfl (by kernel_rfl)) rfl ⟨D3, c3, _, rfl, HZ3.out, Sf.nobox, hOF⟩

end Go.Proofs.YtnmnihlhcokjpaaGreatDoor
