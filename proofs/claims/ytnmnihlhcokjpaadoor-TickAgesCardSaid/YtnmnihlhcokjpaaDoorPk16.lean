/- Several texts in one, one behind the other: TreeFit, TickFit, TickFits, TreeIn. -/
import Derived.Test.YtnmnihlhcokjpaaDoorPk03
import Derived.LoopTactic
import Derived.Deep.DeepCutAuto
import Derived.Test.YtnmnihlhcokjpaaDoorPk09
import Derived.Test.YtnmnihlhcokjpaaDoorPk02
import Derived.Deep.Slices
import Derived.Deep.Fields
import Derived.ChangeSame
import Derived.Lib.SmallJoins

/- The document's Fit: what it tells if it says yes. -/
namespace Go.Proofs.YtnmnihlhcokjpaaDoor
set_option maxRecDepth 100000
open Go.ChangeShapes Go.WideShapes Go.ChangeAt Go.RowKit
set_option linter.unusedVariables false

/-- What fits, and Fit, hand out. -/
def FitsEnd (w : World) (e : Ending) (w' : World) : Prop := ∃ q : Bool, e = .returned (.bool q) ∧ Below w.heap.size w w'
def FitEnd (w : World) (n : Nat) (L : List Po) (e : Ending) (w' : World) : Prop := ∃ q : Bool, e = .returned (.bool q) ∧ (q = true → n ≤ 12 ∧ Unlike L) ∧ Below w.heap.size w w'

/-- The first i ports have unlike numbers. -/
def UnlikeTo (L : List Po) (i : Nat) : Prop := ∀ (a b : Nat) (p q : Po), a < i → b < a → L[a]? = some p → L[b]? = some q → p.id ≠ q.id
theorem unlike_of {L : List Po} {n : Nat} (hL : L.length = n) (h : UnlikeTo L n) : Unlike L := by
  intro i j p q hi hj e
  have h1 := po_lt hi
  have h2 := po_lt hj
  rcases Nat.lt_or_ge j i with k | k
  · exact h i j p q (by omega) k hi hj
  · exact fun e' => h j i q p (by omega) (by omega) hj hi e'.symm
theorem unlike_step {L : List Po} {i : Nat} {x : Po} (h : UnlikeTo L i) (hx : L[i]? = some x) (hi : ∀ (b : Nat) (q : Po), b < i → L[b]? = some q → q.id ≠ x.id) : UnlikeTo L (i + 1) := by
  intro a b p q ha hb hp hq
  by_cases e : a = i
  · subst e
    rw [hx] at hp
    cases hp
    exact fun e' => hi b q hb hq e'.symm
  · exact h a b p q (by omega) hb hp hq

end Go.Proofs.YtnmnihlhcokjpaaDoor

/- The document's Fit: what it tells, of all timers too, if it says yes. -/
namespace Go.Proofs.YtnmnihlhcokjpaaDoor
set_option maxRecDepth 100000
open Go.ChangeShapes Go.WideShapes Go.ChangeAt Go.RowKit
set_option linter.unusedVariables false

def FitsTEnd (w : World) (o : Bool) (v : Int) (e : Ending) (w' : World) : Prop := ∃ q : Bool, e = .returned (.bool q) ∧ (q = true → TmFit o v) ∧ Below w.heap.size w w'
def FitTEnd (w : World) (t : Th) (n : Nat) (L : List Po) (e : Ending) (w' : World) : Prop := ∃ q : Bool, e = .returned (.bool q) ∧ (q = true → n ≤ 12 ∧ Unlike L ∧ ThTm t ∧ ∀ x ∈ L, PoTm x) ∧ Below w.heap.size w w'
def TmTo (L : List Po) (i : Nat) : Prop := ∀ (b : Nat) (q : Po), b < i → L[b]? = some q → PoTm q
theorem tm_step {L : List Po} {i : Nat} {x : Po} (h : TmTo L i) (hx : L[i]? = some x) (hv : PoTm x) : TmTo L (i + 1) := by
  intro b q hb hq
  by_cases e : b = i
  · subst e
    rw [hx] at hq
    cases hq
    exact hv
  · exact h b q (by omega) hq
theorem tm_of {L : List Po} {n : Nat} (hL : L.length = n) (h : TmTo L n) : ∀ x ∈ L, PoTm x := by
  intro x hx
  obtain ⟨k, hk, e⟩ := List.getElem_of_mem hx
  exact h k x (by omega) (by rw [List.getElem?_eq_getElem hk, e])

theorem fitst_tm (o : Bool) (v : Int) (w : World) :
    Calls Tryd.prog 37 #[.agg #[.bool o, .int .i64 v]] w (FitsTEnd w o v) := by
  by_cases h0 : v < 0
  · go_enter Tryd.func37, Tryd.ntmps37
    go_wp2
    go_ret
    exact ⟨_, rfl, (fun e => by first | cases e | (exfalso; simp at e) | (exfalso; omega)), (Below.refl _ _).alloc (Nat.le_refl _) _⟩
  by_cases h1 : 1073741824 < v
  · go_enter Tryd.func37, Tryd.ntmps37
    go_wp2
    go_ret
    exact ⟨_, rfl, (fun e => by first | cases e | (exfalso; simp at e) | exact ⟨by omega, by omega, by omega⟩), (Below.refl _ _).alloc (Nat.le_refl _) _⟩
  cases o with
  | true =>
    go_enter Tryd.func37, Tryd.ntmps37
    go_wp2
    go_ret
    exact ⟨_, rfl, (fun _ => ⟨by omega, by omega, .inl rfl⟩), (Below.refl _ _).alloc (Nat.le_refl _) _⟩
  | false =>
    by_cases hv0 : v = 0
    · subst hv0
      go_enter Tryd.func37, Tryd.ntmps37
      go_wp2
      go_ret
      exact ⟨_, rfl, (fun _ => ⟨by omega, by omega, .inr rfl⟩), (Below.refl _ _).alloc (Nat.le_refl _) _⟩
    · have hvb : (v == 0) = false := by simpa using hv0
      go_enter Tryd.func37, Tryd.ntmps37
      go_wp2
      go_ret
      exact ⟨_, rfl, (fun e => by first | cases e | simp at e), (Below.refl _ _).alloc (Nat.le_refl _) _⟩

set_option maxRecDepth 100000 in
set_option maxHeartbeats 2000000 in
theorem fitt_is (t : Th) (A : Option Addr) (n cap : Nat) (L : List Po) (hL : Hid (L.length = n)) (hn : n ≤ 9223372036854775807) (w : World) (hp : Hid (PoAt w A w.heap.size L)) :
    Calls Tryd.prog 20 #[.agg (lT t A n cap).toArray] w (FitTEnd w t n L) := by
  obtain ⟨wb, hwb, S⟩ := hs_one w 31 (lT t A n cap)
  go_enter Tryd.func20, Tryd.ntmps20
  go_upto_region 1 with fail
  clear hwb
  obtain ⟨X, hX⟩ : ∃ X, w.heap.size = X := ⟨_, rfl⟩
  rw [hX] at S
  rw [hX]
  have HX := Lib.hid hX
  clear hX
  have c18 := S.cell 0 18 rfl rfl
  by_cases h12 : 12 < n
  · have h12' : (12 : Int) < (n : Int) := by omega
    go_wp2
    go_ret
    exact ⟨false, rfl, (fun e => by cases e), HX.out ▸ S.old⟩
  have h12' : ¬ (12 : Int) < (n : Int) := by omega
  have HN := Lib.hid (show n ≤ 12 by omega)
  clear h12 hn
  have c12 := S.cell 0 12 rfl rfl
  have c13 := S.cell 0 13 rfl rfl
  go_wp2_with fail
  (with_reducible refine (fitst_tm _ _ _).mono ?_); rintro e w1 ⟨q1, rfl, hvw, b1⟩; have HW1 := Lib.hid hvw; clear hvw
  have S1 := S.below b1
  clear S b1 c18 c12 c13
  cases q1 with
  | false =>
    go_wp2
    go_ret
    exact ⟨false, rfl, (fun e => by cases e), HX.out ▸ S1.old⟩
  | true =>
  have c14 := S1.cell 0 14 rfl rfl
  have c15 := S1.cell 0 15 rfl rfl
  go_wp2_with fail
  (with_reducible refine (fitst_tm _ _ _).mono ?_); rintro e w2 ⟨q2, rfl, hvw, b2⟩; have HW2 := Lib.hid hvw; clear hvw
  have S2 := S1.below b2
  clear S1 b2 c14 c15
  cases q2 with
  | false =>
    go_wp2
    go_ret
    exact ⟨false, rfl, (fun e => by cases e), HX.out ▸ S2.old⟩
  | true =>
  have c16 := S2.cell 0 16 rfl rfl
  have c17 := S2.cell 0 17 rfl rfl
  go_wp2_with fail
  (with_reducible refine (fitst_tm _ _ _).mono ?_); rintro e w3 ⟨q3, rfl, hvw, b3⟩; have HW3 := Lib.hid hvw; clear hvw
  have S3 := S2.below b3
  clear S2 b3 c16 c17
  cases q3 with
  | false =>
    go_wp2
    go_ret
    exact ⟨false, rfl, (fun e => by cases e), HX.out ▸ S3.old⟩
  | true =>
  clear h12'
  go_wp2
  go_loopw [3] (fun i wr => ∃ k : Nat, k ≤ n ∧ i = .int .i64 k ∧ Hid (UnlikeTo L k ∧ TmTo L k) ∧ Hs w [(X, 31, lT t A n cap)] wr) (fun i _ => n - (intOf i).toNat)
  case atStart => exact ⟨0, Nat.zero_le _, rfl, Lib.hid ⟨fun a b p q h => by omega, fun b q h => by omega⟩, S3⟩
  case round =>
    clear S3
    obtain ⟨k, hk, rfl, hu, S⟩ := hrel
    have x18 := S.cell 0 18 rfl rfl
    by_cases hkn : k < n
    · obtain ⟨x, hx⟩ := po_at hL.out hkn
      have hki : (k : Int) < (n : Int) := by omega
      have hkz : ¬ (n : Int) ≤ (k : Int) := by omega
      have HP := Lib.hid ((hp.out.below S.old (Nat.le_refl _)).wide S.old.size)
      obtain ⟨ad, hA, hab, h0, h1⟩ := HP.out.cells hx
      have HX2 := Lib.hid hx
      have HA := Lib.hid hA
      have k9 : wr.cell? ⟨(ad.add (k * 15)).block, (ad.add (k * 15)).off + 9, none⟩ = some (.bool x.ao) := h1 8 _ rfl
      have k10 : wr.cell? ⟨(ad.add (k * 15)).block, (ad.add (k * 15)).off + 9 + 1, none⟩ = some (.int .i64 x.av) := h1 9 _ rfl
      have k11 : wr.cell? ⟨(ad.add (k * 15)).block, (ad.add (k * 15)).off + 11, none⟩ = some (.bool x.yo) := h1 10 _ rfl
      have k12 : wr.cell? ⟨(ad.add (k * 15)).block, (ad.add (k * 15)).off + 11 + 1, none⟩ = some (.int .i64 x.yv) := h1 11 _ rfl
      have k13 : wr.cell? ⟨(ad.add (k * 15)).block, (ad.add (k * 15)).off + 13, none⟩ = some (.bool x.ho) := h1 12 _ rfl
      have k14 : wr.cell? ⟨(ad.add (k * 15)).block, (ad.add (k * 15)).off + 13 + 1, none⟩ = some (.int .i64 x.hv) := h1 13 _ rfl
      rw [hA] at x18
      clear hx h0 h1
      go_wp2_with fail
      (with_reducible refine (fitst_tm _ _ _).mono ?_); rintro e v1 ⟨q1, rfl, hva, b1⟩; have HV1 := Lib.hid hva; clear hva
      have T1 := S.below b1
      have j11 : v1.cell? ⟨(ad.add (k * 15)).block, (ad.add (k * 15)).off + 11, none⟩ = some (.bool x.yo) := (b1.cell (by rw [Go.Proofs.YtnmnihlhcokjpaaDoor.add_block]; exact Nat.lt_of_lt_of_le hab (Nat.le_refl _))).trans k11
      have j12 : v1.cell? ⟨(ad.add (k * 15)).block, (ad.add (k * 15)).off + 11 + 1, none⟩ = some (.int .i64 x.yv) := (b1.cell (by rw [Go.Proofs.YtnmnihlhcokjpaaDoor.add_block]; exact hab)).trans k12
      have j13 : v1.cell? ⟨(ad.add (k * 15)).block, (ad.add (k * 15)).off + 13, none⟩ = some (.bool x.ho) := (b1.cell (by rw [Go.Proofs.YtnmnihlhcokjpaaDoor.add_block]; exact hab)).trans k13
      have j14 : v1.cell? ⟨(ad.add (k * 15)).block, (ad.add (k * 15)).off + 13 + 1, none⟩ = some (.int .i64 x.hv) := (b1.cell (by rw [Go.Proofs.YtnmnihlhcokjpaaDoor.add_block]; exact hab)).trans k14
      have hab1 := Nat.lt_of_lt_of_le hab b1.size
      clear k9 k10 k11 k12 k13 k14 x18 S b1 hab
      cases q1 with
      | false =>
        go_wp2
        go_ret
        exact ⟨false, rfl, (fun e => by cases e), HX.out ▸ T1.old⟩
      | true =>
      have x18 := T1.cell 0 18 rfl rfl
      rw [HA.out] at x18
      go_wp2_with fail
      (with_reducible refine (fitst_tm _ _ _).mono ?_); rintro e v2 ⟨q2, rfl, hva, b2⟩; have HV2 := Lib.hid hva; clear hva
      have T2 := T1.below b2
      have i13 : v2.cell? ⟨(ad.add (k * 15)).block, (ad.add (k * 15)).off + 13, none⟩ = some (.bool x.ho) := (b2.cell (by rw [Go.Proofs.YtnmnihlhcokjpaaDoor.add_block]; exact hab1)).trans j13
      have i14 : v2.cell? ⟨(ad.add (k * 15)).block, (ad.add (k * 15)).off + 13 + 1, none⟩ = some (.int .i64 x.hv) := (b2.cell (by rw [Go.Proofs.YtnmnihlhcokjpaaDoor.add_block]; exact hab1)).trans j14
      clear j11 j12 j13 j14 x18 T1 b2 hab1
      cases q2 with
      | false =>
        go_wp2
        go_ret
        exact ⟨false, rfl, (fun e => by cases e), HX.out ▸ T2.old⟩
      | true =>
      have x18 := T2.cell 0 18 rfl rfl
      rw [HA.out] at x18
      go_wp2_with fail
      (with_reducible refine (fitst_tm _ _ _).mono ?_); rintro e v3 ⟨q3, rfl, hva, b3⟩; have HV3 := Lib.hid hva; clear hva
      have T3 := T2.below b3
      clear i13 i14 x18 T2 b3 HP
      cases q3 with
      | false =>
        go_wp2
        go_ret
        exact ⟨false, rfl, (fun e => by cases e), HX.out ▸ T3.old⟩
      | true =>
      go_wp2
      clear hki hkz
      go_loopw [4] (fun i wr => ∃ j : Nat, j ≤ k ∧ i = .int .i64 j ∧ Hid (∀ (b : Nat) (q : Po), b < j → L[b]? = some q → q.id ≠ x.id) ∧ Hs w [(X, 31, lT t A n cap)] wr) (fun i _ => k - (intOf i).toNat)
      case atStart => exact ⟨0, Nat.zero_le _, rfl, Lib.hid (fun b q h => by omega), T3⟩
      case round =>
        clear T3
        obtain ⟨j, hj, rfl, hs, S⟩ := hrel
        by_cases hjk : j < k
        · have hji : (j : Int) < (k : Int) := by omega
          have hjn : (j : Int) < (n : Int) := by omega
          have hjz : ¬ (n : Int) ≤ (j : Int) := by omega
          have hkn' : (k : Int) < (n : Int) := by omega
          have hkz : ¬ (n : Int) ≤ (k : Int) := by omega
          obtain ⟨y, hy⟩ := po_at hL.out (show j < n by omega)
          have HY := Lib.hid hy
          have HP := Lib.hid ((hp.out.below S.old (Nat.le_refl _)).wide S.old.size)
          obtain ⟨a1, e1, hab, h0, -⟩ := HP.out.cells HX2.out
          obtain rfl : ad = a1 := Option.some.inj (HA.out.symm.trans e1)
          obtain ⟨a2, e2, -, g0, -⟩ := HP.out.cells hy
          obtain rfl : ad = a2 := Option.some.inj (HA.out.symm.trans e2)
          have x18 := S.cell 0 18 rfl rfl
          rw [HA.out] at x18
          obtain ⟨p, hp1⟩ : ∃ p, (y.id == x.id) = p := ⟨_, rfl⟩
          have HPP := Lib.hid hp1
          clear hy e1 e2
          cases p with
          | true =>
            go_upto_region 11 with fail
            go_quiet (fail)
            go_wp2
            go_ret
            exact ⟨false, rfl, (fun e => by cases e), HX.out ▸ (S.old.trans ⟨rfl, rfl, rfl, Nat.le_refl _, fun _ _ => rfl⟩ : Below w.heap.size w (wr.drewN nq))⟩
          | false =>
            go_upto_region 11 with fail
            go_quiet (fail)
            have S4 := S.below (show Below wr.heap.size wr (wr.drewN nq) from ⟨rfl, rfl, rfl, Nat.le_refl _, fun _ _ => rfl⟩)
            generalize wr.drewN nq = w4 at S4 ⊢
            clear S h0 g0 x18 HP
            have hN := HN.out
            go_wp2
            exact ⟨⟨j + 1, hjk, by go_num, Lib.hid (fun b q hb hq => by
              by_cases e : b = j
              · subst e
                rw [HY.out] at hq
                cases hq
                simpa using HPP.out
              · exact hs.out b q (by omega) hq), S4⟩, by simp [intOf]; omega⟩
        · have hjz : ¬ (j : Int) < (k : Int) := by omega
          have hje : j = k := by omega
          have hN := HN.out
          go_wp2
          rw [← HA.out]
          go_roundw
          case rel => exact ⟨k + 1, by omega, by go_num, Lib.hid ⟨unlike_step hu.out.1 HX2.out (fun b q hb hq => hs.out b q (by omega) hq), tm_step hu.out.2 HX2.out ⟨HV2.out (by trivial), HV1.out (by trivial), HV3.out (by trivial)⟩⟩, S⟩
          case measure => simp [intOf]; omega
    · have hkz : ¬ (k : Int) < (n : Int) := by omega
      have hke : k = n := by omega
      go_wp2
      go_ret
      exact ⟨true, rfl, (fun _ => ⟨HN.out, unlike_of hL.out (hke ▸ hu.out.1), ⟨HW1.out (by trivial), HW2.out (by trivial), HW3.out (by trivial)⟩, tm_of hL.out (hke ▸ hu.out.2)⟩), HX.out ▸ S.old⟩

end Go.Proofs.YtnmnihlhcokjpaaDoor

/- The law's fits of stage 16: contract. -/
namespace Go.Proofs.YtnmnihlhcokjpaaDoor
set_option maxRecDepth 100000
open Go.ChangeShapes Go.WideShapes Go.ChangeAt Go.RowKit
set_option linter.unusedVariables false
set_option linter.unusedSimpArgs false

def Fits16End (w : World) (t : Th) (n : Nat) (L : List Po) (e : Ending) (w' : World) : Prop := ∃ q : Bool, e = .returned (.bool q) ∧ (q = true → TkF t ∧ n ≤ 12 ∧ Unlike L ∧ ThTm t ∧ ∀ x ∈ L, PoTm x) ∧ Below w.heap.size w w'
set_option maxHeartbeats 2000000 in
theorem fits16_is (t : Th) (A : Option Addr) (n cap : Nat) (L : List Po) (hL : Hid (L.length = n)) (hn : n ≤ 9223372036854775807) (w : World) (hp : Hid (PoAt w A w.heap.size L)) :
    Calls Tryd.prog 8 #[.agg (lT t A n cap).toArray] w (Fits16End w t n L) := by
  have HF := fun W (h : Below w.heap.size w W) => Lib.hid (fitt_is t A n cap L hL hn W (Lib.hid ((hp.out.below h (Nat.le_refl _)).wide h.size)))
  obtain ⟨wb, hwb, S⟩ := hs_one w 31 (lT t A n cap)
  go_enter Tryd.func8, Tryd.ntmps8
  go_upto_region 1 with fail
  clear hwb
  obtain ⟨X, hX⟩ : ∃ X, w.heap.size = X := ⟨_, rfl⟩
  rw [hX] at S ⊢
  clear hX
  have c4 := S.cell 0 4 rfl rfl
  have c5 := S.cell 0 5 rfl rfl
  have c6 := S.cell 0 6 rfl rfl
  have c7 := S.cell 0 7 rfl rfl
  have c8 := S.cell 0 8 rfl rfl
  have c9 := S.cell 0 9 rfl rfl
  go_wp2
  clear c4 c5 c6 c7 c8 c9
  have S1 := S.al rfl 26 [.int .i64 t.n1, .int .i64 t.n2, .int .i64 t.n3, .int .i64 t.m1, .int .i64 t.m2, .int .i64 t.m3]
  obtain ⟨G, hG⟩ : ∃ G, wb.heap.size = G := ⟨_, rfl⟩
  rw [hG] at S1 ⊢
  obtain ⟨w1, hw1⟩ : ∃ y, wb.alloc (.cells #[.int .i64 t.n1, .int .i64 t.n2, .int .i64 t.n3, .int .i64 t.m1, .int .i64 t.m2, .int .i64 t.m3] 26) = y := ⟨_, rfl⟩
  have S2 : Hs w [(G, 26, [.int .i64 t.n1, .int .i64 t.n2, .int .i64 t.n3, .int .i64 t.m1, .int .i64 t.m2, .int .i64 t.m3]), (X, 31, lT t A n cap)] w1 := by rw [← hw1]; exact S1
  rw [hw1]
  clear hw1 hG S S1
  go_loopw [11] (fun i wr => ∃ k : Nat, k ≤ 2 ∧ i = .int .i64 k ∧ Hid ((1 ≤ k → (0 ≤ t.n1 ∧ t.n1 ≤ 65535) ∧ (0 ≤ t.n2 ∧ t.n2 ≤ 65535) ∧ (0 ≤ t.n3 ∧ t.n3 ≤ 65535)) ∧ (2 ≤ k → (0 ≤ t.m1 ∧ t.m1 ≤ 65535) ∧ (0 ≤ t.m2 ∧ t.m2 ≤ 65535) ∧ (0 ≤ t.m3 ∧ t.m3 ≤ 65535))) ∧ Hs w [(G, 26, [.int .i64 t.n1, .int .i64 t.n2, .int .i64 t.n3, .int .i64 t.m1, .int .i64 t.m2, .int .i64 t.m3]), (X, 31, lT t A n cap)] wr) (fun i _ => 2 - (intOf i).toNat)
  case atStart => exact ⟨0, by omega, rfl, Lib.hid ⟨fun h => by omega, fun h => by omega⟩, S2⟩
  case round =>
    clear S2
    obtain ⟨k, hk, rfl, hb, S⟩ := hrel
    match k, hk with
    | 0, _ =>
      have g0 := S.cell 0 0 rfl rfl
      have g1 := S.cell 0 1 rfl rfl
      have g2 := S.cell 0 2 rfl rfl
      by_cases k3 : t.n1 < 0
      · go_wp2
        go_ret
        exact ⟨false, rfl, (fun e => by cases e), (S.al rfl 26 [.int .i64 t.n1, .int .i64 t.n2, .int .i64 t.n3]).old⟩
      by_cases k7 : 65535 < t.n1
      · go_wp2
        go_ret
        exact ⟨false, rfl, (fun e => by cases e), (S.al rfl 26 [.int .i64 t.n1, .int .i64 t.n2, .int .i64 t.n3]).old⟩
      by_cases k11 : t.n2 < 0
      · go_wp2
        go_ret
        exact ⟨false, rfl, (fun e => by cases e), (S.al rfl 26 [.int .i64 t.n1, .int .i64 t.n2, .int .i64 t.n3]).old⟩
      by_cases k15 : 65535 < t.n2
      · go_wp2
        go_ret
        exact ⟨false, rfl, (fun e => by cases e), (S.al rfl 26 [.int .i64 t.n1, .int .i64 t.n2, .int .i64 t.n3]).old⟩
      by_cases k19 : t.n3 < 0
      · go_wp2
        go_ret
        exact ⟨false, rfl, (fun e => by cases e), (S.al rfl 26 [.int .i64 t.n1, .int .i64 t.n2, .int .i64 t.n3]).old⟩
      by_cases k23 : 65535 < t.n3
      · go_wp2
        go_ret
        exact ⟨false, rfl, (fun e => by cases e), (S.al rfl 26 [.int .i64 t.n1, .int .i64 t.n2, .int .i64 t.n3]).old⟩
      have HN := Lib.hid (show (0 ≤ t.n1 ∧ t.n1 ≤ 65535) ∧ (0 ≤ t.n2 ∧ t.n2 ≤ 65535) ∧ (0 ≤ t.n3 ∧ t.n3 ≤ 65535) from by omega)
      have S3 := (S.al rfl 26 [.int .i64 t.n1, .int .i64 t.n2, .int .i64 t.n3]).tail
      go_wp2
      go_roundw
      case rel => exact ⟨1, by omega, by go_num, Lib.hid ⟨fun _ => HN.out, fun h => by omega⟩, S3⟩
      case measure => simp [intOf]
    | 1, _ =>
      have g0 := S.cell 0 3 rfl rfl
      have g1 := S.cell 0 4 rfl rfl
      have g2 := S.cell 0 5 rfl rfl
      by_cases k3 : t.m1 < 0
      · go_wp2
        go_ret
        exact ⟨false, rfl, (fun e => by cases e), (S.al rfl 26 [.int .i64 t.m1, .int .i64 t.m2, .int .i64 t.m3]).old⟩
      by_cases k7 : 65535 < t.m1
      · go_wp2
        go_ret
        exact ⟨false, rfl, (fun e => by cases e), (S.al rfl 26 [.int .i64 t.m1, .int .i64 t.m2, .int .i64 t.m3]).old⟩
      by_cases k11 : t.m2 < 0
      · go_wp2
        go_ret
        exact ⟨false, rfl, (fun e => by cases e), (S.al rfl 26 [.int .i64 t.m1, .int .i64 t.m2, .int .i64 t.m3]).old⟩
      by_cases k15 : 65535 < t.m2
      · go_wp2
        go_ret
        exact ⟨false, rfl, (fun e => by cases e), (S.al rfl 26 [.int .i64 t.m1, .int .i64 t.m2, .int .i64 t.m3]).old⟩
      by_cases k19 : t.m3 < 0
      · go_wp2
        go_ret
        exact ⟨false, rfl, (fun e => by cases e), (S.al rfl 26 [.int .i64 t.m1, .int .i64 t.m2, .int .i64 t.m3]).old⟩
      by_cases k23 : 65535 < t.m3
      · go_wp2
        go_ret
        exact ⟨false, rfl, (fun e => by cases e), (S.al rfl 26 [.int .i64 t.m1, .int .i64 t.m2, .int .i64 t.m3]).old⟩
      have HN := Lib.hid (show (0 ≤ t.m1 ∧ t.m1 ≤ 65535) ∧ (0 ≤ t.m2 ∧ t.m2 ≤ 65535) ∧ (0 ≤ t.m3 ∧ t.m3 ≤ 65535) from by omega)
      have S3 := (S.al rfl 26 [.int .i64 t.m1, .int .i64 t.m2, .int .i64 t.m3]).tail
      go_wp2
      go_roundw
      case rel => exact ⟨2, by omega, by go_num, Lib.hid ⟨fun _ => hb.out.1 (by omega), fun _ => HN.out⟩, S3⟩
      case measure => simp [intOf]
    | 2, _ =>
      have HB := hb
      go_upto_region 7 with fail
      have hx := S.bk 1 rfl
      go_wp2_with (with_reducible refine wpList_load_row rfl 31 (.tmp 1) rfl X (by kernel_rfl) _ _ (0, 0) _ hx Tryd.underlying31 rfl (by kernel_rfl) ?_)
      (with_reducible refine (HF _ S.old).out.mono ?_); rintro e w2 ⟨q, rfl, hq, b2⟩
      have BO := S.old.trans (b2.mono S.old.size)
      have HQ := Lib.hid hq
      clear S hx HF b2 hq
      go_wp2
      go_ret
      refine ⟨q, rfl, fun e => ?_, BO⟩
      obtain ⟨q1, q2, q3, q4⟩ := HQ.out e
      have h1 := HB.out.1 (by omega)
      have h2 := HB.out.2 (by omega)
      exact ⟨⟨h1.1, h1.2.1, h1.2.2, h2.1, h2.2.1, h2.2.2⟩, q1, q2, q3, q4⟩

end Go.Proofs.YtnmnihlhcokjpaaDoor

/- A view that came in as an argument. -/
namespace Go.Proofs.YtnmnihlhcokjpaaDoor
set_option maxRecDepth 100000
open Go.Joins Go.ChangeShapes Go.WideShapes Go.ChangeAt Go.RowKit Go.Deep
set_option linter.unusedVariables false

theorem tr_list_of {τ : Type} {P : Nat → τ → Prop} : ∀ n, (∀ i, i < n → ∃ t, P i t) → ∃ L : List τ, L.length = n ∧ ∀ k t, L[k]? = some t → P k t
  | 0, _ => ⟨[], rfl, fun k t e => by simp at e⟩
  | n + 1, h => by
    obtain ⟨L, hl, hL⟩ := tr_list_of n (fun i hi => h i (by omega))
    obtain ⟨t, ht⟩ := h n (by omega)
    refine ⟨L ++ [t], by simp [hl], fun k u e => ?_⟩
    rcases Nat.lt_or_ge k n with q | q
    · rw [List.getElem?_append_left (by omega)] at e
      exact hL k u e
    · rw [List.getElem?_append_right (by omega)] at e
      have : k - L.length = 0 := by
        rcases Nat.eq_zero_or_pos (k - L.length) with z | z
        · exact z
        · rw [List.getElem?_eq_none (by simp; omega)] at e; cases e
      rw [this] at e
      have hk : k = n := by omega
      have := Option.some.inj e
      subst this
      rw [hk]; exact ht

theorem Tryd.cellsTree : Tryd.prog.cellsOf 31 = 19 := by kernel_rfl
theorem Tryd.cellsTms : Tryd.prog.cellsOf 26 = 3 := by kernel_rfl
theorem Tryd.cellsSlP : Tryd.prog.cellsOf 29 = 1 := by kernel_rfl

section
variable {H : Type} {enc : TypeId × Value → H} {w : World} {base : Nat} {spare : Nat → Bool} {held : Bool}
theorem tms_trod {n : Nat} {c0 c1 c2 : Value} {y : DataW H × List MemPlace} (h : DataW.trod enc Tryd.prog w base spare held n 26 [c0, c1, c2] = some y) :
    ∃ (a b c : Int), c0 = .int .i64 a ∧ c1 = .int .i64 b ∧ c2 = .int .i64 c ∧ (-9223372036854775808 ≤ a ∧ a ≤ 9223372036854775807) ∧ (-9223372036854775808 ≤ b ∧ b ≤ 9223372036854775807) ∧ (-9223372036854775808 ≤ c ∧ c ≤ 9223372036854775807) := by
  obtain ⟨ys, n', _, _, hlen, hyl, hfl⟩ := DataW.trod_struct Tryd.underlying26 h
  have h0 : DataW.trod enc Tryd.prog w base spare held n' 3 (([c0, c1, c2].drop 0).take (Tryd.prog.cellsOf 3)) = ys[0]? := hfl 0 _ rfl
  have h1 : DataW.trod enc Tryd.prog w base spare held n' 3 (([c0, c1, c2].drop 1).take (Tryd.prog.cellsOf 3)) = ys[1]? := hfl 1 _ rfl
  have h2 : DataW.trod enc Tryd.prog w base spare held n' 3 (([c0, c1, c2].drop 2).take (Tryd.prog.cellsOf 3)) = ys[2]? := hfl 2 _ rfl
  rw [Tryd.cells1_64] at h0 h1 h2
  have hy3 : ys.length = 3 := hyl
  have y0 : ys[0]? = some (ys[0]'(by omega)) := List.getElem?_eq_getElem (by omega)
  have y1 : ys[1]? = some (ys[1]'(by omega)) := List.getElem?_eq_getElem (by omega)
  have y2 : ys[2]? = some (ys[2]'(by omega)) := List.getElem?_eq_getElem (by omega)
  rw [y0] at h0
  rw [y1] at h1
  rw [y2] at h2
  obtain ⟨a, e0, _, wa⟩ := DataW.trod_int Tryd.underlying3 h0
  obtain ⟨b, e1, _, wb⟩ := DataW.trod_int Tryd.underlying3 h1
  obtain ⟨c, e2, _, wc⟩ := DataW.trod_int Tryd.underlying3 h2
  simp at e0 e1 e2
  subst e0 e1 e2
  exact ⟨a, b, c, rfl, rfl, rfl, bounds_i64 wa, bounds_i64 wb, bounds_i64 wc⟩
end

/-- The times' bounds. -/
def TmB (t : Th) : Prop := (-9223372036854775808 ≤ t.n1 ∧ t.n1 ≤ 9223372036854775807 ∧ -9223372036854775808 ≤ t.n2 ∧ t.n2 ≤ 9223372036854775807 ∧ -9223372036854775808 ≤ t.n3 ∧ t.n3 ≤ 9223372036854775807)

set_option maxRecDepth 100000 in
theorem tree_in3 {H : Type} {enc : TypeId × Value → H} {w : World} {r : Reach} {base b0 : Nat} {v : Value} {d : DataW H} {p : List MemPlace}
    (hv : Value.okWide Tryd.prog w r b0 31 v) (h : DataW.Trod enc Tryd.prog w base (fun _ => true) true 31 v d p) :
    ∃ (t : Th) (A : Option Addr) (n cap : Nat) (L : List Po), v = .agg (lT t A n cap).toArray ∧ ThB t ∧ TmB t ∧ L.length = n ∧ n ≤ 9223372036854775807 ∧ (A = none → cap = 0) ∧ (∀ x ∈ L, PoB x) ∧ PoAt w A w.heap.size L := by
  obtain ⟨cs, rfl, hsz⟩ := okWide_struct Tryd.underlying31 hv
  obtain ⟨l⟩ := cs
  match l, hsz.trans Tryd.cellsTree with
  | [c0, c1, c2, c3, c4, c5, c6, c7, c8, c9, c10, c11, c12, c13, c14, c15, c16, c17, c18], _ =>
    obtain ⟨fuel, hf⟩ := h
    obtain ⟨ys, n', _, _, hlen, hyl, hfl⟩ := DataW.trod_struct Tryd.underlying31 hf
    have h0 : DataW.trod enc Tryd.prog w base (fun _ => true) true n' 23 (([c0, c1, c2, c3, c4, c5, c6, c7, c8, c9, c10, c11, c12, c13, c14, c15, c16, c17, c18].drop 0).take (Tryd.prog.cellsOf 23)) = ys[0]? := hfl 0 _ rfl
    rw [Tryd.cells1_id] at h0
    have h1 : DataW.trod enc Tryd.prog w base (fun _ => true) true n' 23 (([c0, c1, c2, c3, c4, c5, c6, c7, c8, c9, c10, c11, c12, c13, c14, c15, c16, c17, c18].drop 1).take (Tryd.prog.cellsOf 23)) = ys[1]? := hfl 1 _ rfl
    rw [Tryd.cells1_id] at h1
    have h2 : DataW.trod enc Tryd.prog w base (fun _ => true) true n' 24 (([c0, c1, c2, c3, c4, c5, c6, c7, c8, c9, c10, c11, c12, c13, c14, c15, c16, c17, c18].drop 2).take (Tryd.prog.cellsOf 24)) = ys[2]? := hfl 2 _ rfl
    rw [Tryd.cells1_32] at h2
    have h3 : DataW.trod enc Tryd.prog w base (fun _ => true) true n' 3 (([c0, c1, c2, c3, c4, c5, c6, c7, c8, c9, c10, c11, c12, c13, c14, c15, c16, c17, c18].drop 3).take (Tryd.prog.cellsOf 3)) = ys[3]? := hfl 3 _ rfl
    rw [Tryd.cells1_64] at h3
    have h4 : DataW.trod enc Tryd.prog w base (fun _ => true) true n' 26 (([c0, c1, c2, c3, c4, c5, c6, c7, c8, c9, c10, c11, c12, c13, c14, c15, c16, c17, c18].drop 4).take (Tryd.prog.cellsOf 26)) = ys[4]? := hfl 4 _ rfl
    rw [Tryd.cellsTms] at h4
    have h5 : DataW.trod enc Tryd.prog w base (fun _ => true) true n' 26 (([c0, c1, c2, c3, c4, c5, c6, c7, c8, c9, c10, c11, c12, c13, c14, c15, c16, c17, c18].drop 7).take (Tryd.prog.cellsOf 26)) = ys[5]? := hfl 5 _ rfl
    rw [Tryd.cellsTms] at h5
    have h6 : DataW.trod enc Tryd.prog w base (fun _ => true) true n' 4 (([c0, c1, c2, c3, c4, c5, c6, c7, c8, c9, c10, c11, c12, c13, c14, c15, c16, c17, c18].drop 10).take (Tryd.prog.cellsOf 4)) = ys[6]? := hfl 6 _ rfl
    rw [Tryd.cells1_b] at h6
    have h7 : DataW.trod enc Tryd.prog w base (fun _ => true) true n' 4 (([c0, c1, c2, c3, c4, c5, c6, c7, c8, c9, c10, c11, c12, c13, c14, c15, c16, c17, c18].drop 11).take (Tryd.prog.cellsOf 4)) = ys[7]? := hfl 7 _ rfl
    rw [Tryd.cells1_b] at h7
    have h8 : DataW.trod enc Tryd.prog w base (fun _ => true) true n' 28 (([c0, c1, c2, c3, c4, c5, c6, c7, c8, c9, c10, c11, c12, c13, c14, c15, c16, c17, c18].drop 12).take (Tryd.prog.cellsOf 28)) = ys[8]? := hfl 8 _ rfl
    rw [Tryd.cellsTm] at h8
    have h9 : DataW.trod enc Tryd.prog w base (fun _ => true) true n' 28 (([c0, c1, c2, c3, c4, c5, c6, c7, c8, c9, c10, c11, c12, c13, c14, c15, c16, c17, c18].drop 14).take (Tryd.prog.cellsOf 28)) = ys[9]? := hfl 9 _ rfl
    rw [Tryd.cellsTm] at h9
    have h10 : DataW.trod enc Tryd.prog w base (fun _ => true) true n' 28 (([c0, c1, c2, c3, c4, c5, c6, c7, c8, c9, c10, c11, c12, c13, c14, c15, c16, c17, c18].drop 16).take (Tryd.prog.cellsOf 28)) = ys[10]? := hfl 10 _ rfl
    rw [Tryd.cellsTm] at h10
    have h11 : DataW.trod enc Tryd.prog w base (fun _ => true) true n' 29 (([c0, c1, c2, c3, c4, c5, c6, c7, c8, c9, c10, c11, c12, c13, c14, c15, c16, c17, c18].drop 18).take (Tryd.prog.cellsOf 29)) = ys[11]? := hfl 11 _ rfl
    rw [Tryd.cellsSlP] at h11
    have hy : ys.length = 12 := hyl
    have y0 : ys[0]? = some (ys[0]'(by omega)) := List.getElem?_eq_getElem (by omega)
    rw [y0] at h0
    have y1 : ys[1]? = some (ys[1]'(by omega)) := List.getElem?_eq_getElem (by omega)
    rw [y1] at h1
    have y2 : ys[2]? = some (ys[2]'(by omega)) := List.getElem?_eq_getElem (by omega)
    rw [y2] at h2
    have y3 : ys[3]? = some (ys[3]'(by omega)) := List.getElem?_eq_getElem (by omega)
    rw [y3] at h3
    have y4 : ys[4]? = some (ys[4]'(by omega)) := List.getElem?_eq_getElem (by omega)
    rw [y4] at h4
    have y5 : ys[5]? = some (ys[5]'(by omega)) := List.getElem?_eq_getElem (by omega)
    rw [y5] at h5
    have y6 : ys[6]? = some (ys[6]'(by omega)) := List.getElem?_eq_getElem (by omega)
    rw [y6] at h6
    have y7 : ys[7]? = some (ys[7]'(by omega)) := List.getElem?_eq_getElem (by omega)
    rw [y7] at h7
    have y8 : ys[8]? = some (ys[8]'(by omega)) := List.getElem?_eq_getElem (by omega)
    rw [y8] at h8
    have y9 : ys[9]? = some (ys[9]'(by omega)) := List.getElem?_eq_getElem (by omega)
    rw [y9] at h9
    have y10 : ys[10]? = some (ys[10]'(by omega)) := List.getElem?_eq_getElem (by omega)
    rw [y10] at h10
    have y11 : ys[11]? = some (ys[11]'(by omega)) := List.getElem?_eq_getElem (by omega)
    rw [y11] at h11
    obtain ⟨a0, e0, _, w0⟩ := DataW.trod_int Tryd.underlying23 h0
    obtain ⟨a1, e1, _, w1⟩ := DataW.trod_int Tryd.underlying23 h1
    obtain ⟨a2, e2, _, w2⟩ := DataW.trod_int Tryd.underlying24 h2
    obtain ⟨a3, e3, _, w3⟩ := DataW.trod_int Tryd.underlying3 h3
    obtain ⟨n1, n2, n3, e4, e5, e6, u1, u2, u3⟩ := tms_trod h4
    obtain ⟨m1, m2, m3, e7, e8, e9, -⟩ := tms_trod h5
    obtain ⟨de, e10, _⟩ := DataW.trod_bool Tryd.underlying4 h6
    obtain ⟨ch, e11, _⟩ := DataW.trod_bool Tryd.underlying4 h7
    obtain ⟨ho, hvv, e12, e13, _, _⟩ := tm_trod h8
    obtain ⟨xo, xv, e14, e15, _, _⟩ := tm_trod h9
    obtain ⟨zo, zv, e16, e17, _, _⟩ := tm_trod h10
    simp at e0 e1 e2 e3 e10 e11
    subst e0 e1 e2 e3 e4 e5 e6 e7 e8 e9 e10 e11 e12 e13 e14 e15 e16 e17
    have b0 := bounds_u64 w0
    have b1 := bounds_u64 w1
    have b2 := bounds_u32 w2
    have b3 := bounds_i64 w3
    rcases open_slice Tryd.underlying29 h11 with ⟨hcs, _⟩ | ⟨x, l, c, m, n, D, Q, hcs, _, hl, hm, hmm, _, hi⟩
    · simp at hcs
      subst hcs
      exact ⟨⟨a0, a1, a2, a3, n1, n2, n3, m1, m2, m3, de, ch, ho, hvv, xo, xv, zo, zv⟩, none, 0, 0, [], rfl, by unfold ThB; dsimp only; omega, by unfold TmB; dsimp only; omega, rfl, by omega, fun _ => rfl, fun x hx => by simp at hx, fun k y e => by simp at e⟩
    · simp at hcs
      subst hcs
      have hlm : l ≤ m := by rw [hmm]; split <;> omega
      obtain ⟨L, hL, hP⟩ := tr_list_of (P := fun k (y : Po) => (∀ i v, (lP y)[i]? = some v → w.cell? ((x.add (k * 15)).add i) = some v) ∧ PoB y) l (fun i hin => by
          obtain ⟨cs', hc, ht⟩ := hi i (by omega)
          rw [Tryd.cellsPo] at hc
          obtain ⟨_, hcl, hat⟩ := World.cells?_some hc
          match cs', hcl with
          | [q0, q1, q2, q3, q4, q5, q6, q7, q8, q9, q10, q11, q12, q13, q14], _ =>
            obtain ⟨y, e, hb⟩ := po_trod ht
            have hly : [q0, q1, q2, q3, q4, q5, q6, q7, q8, q9, q10, q11, q12, q13, q14] = lP y := e
            rw [hly] at hat
            refine ⟨y, fun j u hu => ?_, hb⟩
            have hj : j < 15 := by
              rcases Nat.lt_or_ge j 15 with q | q
              · exact q
              · rw [List.getElem?_eq_none (by rw [lP_len]; exact q)] at hu; cases hu
            have := hat j hj
            rw [this, ← hu])
      refine ⟨⟨a0, a1, a2, a3, n1, n2, n3, m1, m2, m3, de, ch, ho, hvv, xo, xv, zo, zv⟩, some x, l, c, L, rfl, by unfold ThB; dsimp only; omega, by unfold TmB; dsimp only; omega, hL, by unfold maxLen at hm; omega, (fun e => by cases e), fun y hy => ?_, fun k y e => ?_⟩
      · obtain ⟨k, hk, e⟩ := List.getElem_of_mem hy
        exact (hP k y (by rw [List.getElem?_eq_getElem hk, e])).2
      · have h1 := (hP k y e).1
        have hb := block_lt_of_cell (h1 0 _ rfl)
        rw [Go.Proofs.YtnmnihlhcokjpaaDoor.add_block, Go.Proofs.YtnmnihlhcokjpaaDoor.add_block] at hb
        exact ⟨x, rfl, hb, h1⟩

end Go.Proofs.YtnmnihlhcokjpaaDoor
