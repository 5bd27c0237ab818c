/- Several texts in one, one behind the other: SendOlderPure, TreeFits. -/
import Derived.Test.YtcamakkicmapcaaDoorPk10
import Derived.Test.YtcamakkicmapcaaDoorPk15
import Derived.Test.YtcamakkicmapcaaDoorPk08

/- What a configuration that went out is read as: no program but the bytes. -/
namespace Go.Proofs.YtcamakkicmapcaaDoor
set_option maxRecDepth 100000
open Go.ChangeShapes Go.WideShapes Go.ChangeAt Go.RowKit
set_option linter.unusedVariables false

theorem check_wrap14 (a : Int) (M : Nat) (h1 : a < 281474976710656) (hM : M ≤ 1500) : checkI 1652522221568 a (M : Int) M = 0 := by
  unfold checkI
  rw [if_neg (by omega), if_neg (by omega), if_neg (by omega), if_pos ⟨by omega, rfl⟩]
theorem open_wrap14 (M : Nat) (l : List UInt8) (hM : M ≤ 1500) : openB 1652522221568 (M : Int) (66 :: 66 :: 3 :: l) = true := by
  unfold openB
  have : decide ((M : Int) ≤ 1500) = true := by simp; omega
  rw [this]
  simp
/-- What Get makes of bytes. -/
def getQ (l : List UInt8) : Bq := ⟨gTc l, gCh l, gAk l, gRo l, gCo l, gBr l, gPo l, gAg l, gMa l, gHe l, gDe l⟩
theorem conf_bytes (t : Th) (a : Int) (p : Po) : bqB (confQ t a p) = bpB t.ch p.ak t.ro t.co t.ow p.id (cutI a) (cutI t.n1) (cutI t.n2) (cutI t.n3) := rfl
theorem conf_back {t : Th} {a : Int} {p : Po} (ht : ThB t) (hp : PoB p) (hc : ¬ 2147483648 ≤ t.co) (hm : ¬ 65535 < t.n1) (h0 : 0 ≤ a) (hl : ¬ t.n1 ≤ a) :
    gE (bqB (confQ t a p)) = 0 ∧ gTc (bqB (confQ t a p)) = false ∧ gCh (bqB (confQ t a p)) = t.ch ∧ gAk (bqB (confQ t a p)) = p.ak ∧ gRo (bqB (confQ t a p)) = t.ro ∧ gCo (bqB (confQ t a p)) = t.co ∧ gBr (bqB (confQ t a p)) = t.ow ∧ gPo (bqB (confQ t a p)) = p.id ∧ gAg (bqB (confQ t a p)) = a := by
  have hin : BqIn (confQ t a p) := confQ_in ht hp
  have e1 : cutI t.n1 = t.n1 := by unfold cutI; omega
  have e2 : cutI a = a := by unfold cutI; omega
  have hE := gE_bpB t.ch p.ak t.ro t.co t.ow p.id (cutI a) (cutI t.n1) (cutI t.n2) (cutI t.n3) hin []
  rw [List.append_nil, if_neg hc, e1, e2, if_neg hl] at hE
  rw [conf_bytes, e1, e2]
  have hg := g_bpB t.ch p.ak t.ro t.co t.ow p.id (cutI a) (cutI t.n1) (cutI t.n2) (cutI t.n3) hin []
  rw [List.append_nil, e1, e2] at hg
  obtain ⟨g0, g1, g2, g3, g4, g5, g6, g7, -⟩ := hg hE
  exact ⟨hE, g0, g1, g2, g3, g4, g5, g6, g7⟩
/-- What is told of another root is older by a second. -/
theorem told_older {t : Th} {L : List Po} {y : Po} (hne : ¬ t.ro = t.ow) (hr : 0 ≤ t.rp) (hy : L[t.rp.toNat]? = some y) (hv : 0 ≤ y.av) (hm : ¬ 65535 < t.n1) (hl : ¬ t.n1 ≤ toldI t L) : toldI t L = y.av + 256 := by
  unfold toldI at hl ⊢
  rw [if_neg hne, if_pos hr, hy] at hl ⊢
  dsimp only at hl ⊢
  unfold olderI cutI at *
  omega
theorem told_root {t : Th} {L : List Po} (h : t.ro = t.ow) : toldI t L = 0 := by unfold toldI; rw [if_pos h]

end Go.Proofs.YtcamakkicmapcaaDoor

/- The document's Fit: what it tells, of ages too, if it says yes. -/
namespace Go.Proofs.YtcamakkicmapcaaDoor
set_option maxRecDepth 100000
open Go.ChangeShapes Go.WideShapes Go.ChangeAt Go.RowKit
set_option linter.unusedVariables false

def FitsVEnd (w : World) (v : Int) (e : Ending) (w' : World) : Prop := ∃ q : Bool, e = .returned (.bool q) ∧ (q = true → 0 ≤ v) ∧ Below w.heap.size w w'
def FitVEnd (w : World) (n : Nat) (L : List Po) (e : Ending) (w' : World) : Prop := ∃ q : Bool, e = .returned (.bool q) ∧ (q = true → n ≤ 12 ∧ Unlike L ∧ ∀ x ∈ L, 0 ≤ x.av) ∧ Below w.heap.size w w'
def AvTo (L : List Po) (i : Nat) : Prop := ∀ (b : Nat) (q : Po), b < i → L[b]? = some q → 0 ≤ q.av
theorem av_step {L : List Po} {i : Nat} {x : Po} (h : AvTo L i) (hx : L[i]? = some x) (hv : 0 ≤ x.av) : AvTo L (i + 1) := by
  intro b q hb hq
  by_cases e : b = i
  · subst e
    rw [hx] at hq
    cases hq
    exact hv
  · exact h b q (by omega) hq
theorem av_of {L : List Po} {n : Nat} (hL : L.length = n) (h : AvTo L n) : ∀ x ∈ L, 0 ≤ x.av := by
  intro x hx
  obtain ⟨k, hk, e⟩ := List.getElem_of_mem hx
  exact h k x (by omega) (by rw [List.getElem?_eq_getElem hk, e])

theorem fitsv_tm (o : Bool) (v : Int) (w : World) :
    Calls Tryd.prog 29 #[.agg #[.bool o, .int .i64 v]] w (FitsVEnd w v) := by
  by_cases h0 : v < 0
  · go_enter Tryd.func29, Tryd.ntmps29
    go_wp2
    go_ret
    exact ⟨_, rfl, (fun e => by first | cases e | omega), (Below.refl _ _).alloc (Nat.le_refl _) _⟩
  by_cases h1 : 1073741824 < v
  · go_enter Tryd.func29, Tryd.ntmps29
    go_wp2
    go_ret
    exact ⟨_, rfl, (fun _ => by omega), (Below.refl _ _).alloc (Nat.le_refl _) _⟩
  cases o with
  | true =>
    go_enter Tryd.func29, Tryd.ntmps29
    go_wp2
    go_ret
    exact ⟨_, rfl, (fun _ => by omega), (Below.refl _ _).alloc (Nat.le_refl _) _⟩
  | false =>
    go_enter Tryd.func29, Tryd.ntmps29
    go_wp2
    go_ret
    exact ⟨_, rfl, (fun _ => by omega), (Below.refl _ _).alloc (Nat.le_refl _) _⟩

set_option maxRecDepth 100000 in
set_option maxHeartbeats 2000000 in
theorem fitv_is (t : Th) (A : Option Addr) (n cap : Nat) (L : List Po) (hL : Hid (L.length = n)) (hn : n ≤ 9223372036854775807) (w : World) (hp : Hid (PoAt w A w.heap.size L)) :
    Calls Tryd.prog 9 #[.agg (lT t A n cap).toArray] w (FitVEnd w n L) := by
  obtain ⟨wb, hwb, S⟩ := hs_one w 31 (lT t A n cap)
  go_enter Tryd.func9, Tryd.ntmps9
  go_upto_region 1 with fail
  clear hwb
  obtain ⟨X, hX⟩ : ∃ X, w.heap.size = X := ⟨_, rfl⟩
  rw [hX] at S
  rw [hX]
  have HX := Lib.hid hX
  clear hX
  have c18 := S.cell 0 18 rfl rfl
  by_cases h12 : 12 < n
  · have h12' : (12 : Int) < (n : Int) := by omega
    go_wp2
    go_ret
    exact ⟨false, rfl, (fun e => by cases e), HX.out ▸ S.old⟩
  have h12' : ¬ (12 : Int) < (n : Int) := by omega
  have HN := Lib.hid (show n ≤ 12 by omega)
  clear h12 hn
  have c12 := S.cell 0 12 rfl rfl
  have c13 := S.cell 0 13 rfl rfl
  go_wp2_with fail
  (with_reducible refine (fitsv_tm _ _ _).mono ?_); rintro e w1 ⟨q1, rfl, -, b1⟩
  have S1 := S.below b1
  clear S b1 c18 c12 c13
  cases q1 with
  | false =>
    go_wp2
    go_ret
    exact ⟨false, rfl, (fun e => by cases e), HX.out ▸ S1.old⟩
  | true =>
  have c14 := S1.cell 0 14 rfl rfl
  have c15 := S1.cell 0 15 rfl rfl
  go_wp2_with fail
  (with_reducible refine (fitsv_tm _ _ _).mono ?_); rintro e w2 ⟨q2, rfl, -, b2⟩
  have S2 := S1.below b2
  clear S1 b2 c14 c15
  cases q2 with
  | false =>
    go_wp2
    go_ret
    exact ⟨false, rfl, (fun e => by cases e), HX.out ▸ S2.old⟩
  | true =>
  have c16 := S2.cell 0 16 rfl rfl
  have c17 := S2.cell 0 17 rfl rfl
  go_wp2_with fail
  (with_reducible refine (fitsv_tm _ _ _).mono ?_); rintro e w3 ⟨q3, rfl, -, b3⟩
  have S3 := S2.below b3
  clear S2 b3 c16 c17
  cases q3 with
  | false =>
    go_wp2
    go_ret
    exact ⟨false, rfl, (fun e => by cases e), HX.out ▸ S3.old⟩
  | true =>
  clear h12'
  go_wp2
  go_loopw [3] (fun i wr => ∃ k : Nat, k ≤ n ∧ i = .int .i64 k ∧ Hid (UnlikeTo L k ∧ AvTo L k) ∧ Hs w [(X, 31, lT t A n cap)] wr) (fun i _ => n - (intOf i).toNat)
  case atStart => exact ⟨0, Nat.zero_le _, rfl, Lib.hid ⟨fun a b p q h => by omega, fun b q h => by omega⟩, S3⟩
  case round =>
    clear S3
    obtain ⟨k, hk, rfl, hu, S⟩ := hrel
    have x18 := S.cell 0 18 rfl rfl
    by_cases hkn : k < n
    · obtain ⟨x, hx⟩ := po_at hL.out hkn
      have hki : (k : Int) < (n : Int) := by omega
      have hkz : ¬ (n : Int) ≤ (k : Int) := by omega
      have HP := Lib.hid ((hp.out.below S.old (Nat.le_refl _)).wide S.old.size)
      obtain ⟨ad, hA, hab, h0, h1⟩ := HP.out.cells hx
      have HX2 := Lib.hid hx
      have HA := Lib.hid hA
      have k9 : wr.cell? ⟨(ad.add (k * 15)).block, (ad.add (k * 15)).off + 9, none⟩ = some (.bool x.ao) := h1 8 _ rfl
      have k10 : wr.cell? ⟨(ad.add (k * 15)).block, (ad.add (k * 15)).off + 9 + 1, none⟩ = some (.int .i64 x.av) := h1 9 _ rfl
      have k11 : wr.cell? ⟨(ad.add (k * 15)).block, (ad.add (k * 15)).off + 11, none⟩ = some (.bool x.yo) := h1 10 _ rfl
      have k12 : wr.cell? ⟨(ad.add (k * 15)).block, (ad.add (k * 15)).off + 11 + 1, none⟩ = some (.int .i64 x.yv) := h1 11 _ rfl
      have k13 : wr.cell? ⟨(ad.add (k * 15)).block, (ad.add (k * 15)).off + 13, none⟩ = some (.bool x.ho) := h1 12 _ rfl
      have k14 : wr.cell? ⟨(ad.add (k * 15)).block, (ad.add (k * 15)).off + 13 + 1, none⟩ = some (.int .i64 x.hv) := h1 13 _ rfl
      rw [hA] at x18
      clear hx h0 h1
      go_wp2_with fail
      (with_reducible refine (fitsv_tm _ _ _).mono ?_); rintro e v1 ⟨q1, rfl, hva, b1⟩; have HVA := Lib.hid hva; clear hva
      have T1 := S.below b1
      have j11 : v1.cell? ⟨(ad.add (k * 15)).block, (ad.add (k * 15)).off + 11, none⟩ = some (.bool x.yo) := (b1.cell (by rw [Go.Proofs.YtcamakkicmapcaaDoor.add_block]; exact Nat.lt_of_lt_of_le hab (Nat.le_refl _))).trans k11
      have j12 : v1.cell? ⟨(ad.add (k * 15)).block, (ad.add (k * 15)).off + 11 + 1, none⟩ = some (.int .i64 x.yv) := (b1.cell (by rw [Go.Proofs.YtcamakkicmapcaaDoor.add_block]; exact hab)).trans k12
      have j13 : v1.cell? ⟨(ad.add (k * 15)).block, (ad.add (k * 15)).off + 13, none⟩ = some (.bool x.ho) := (b1.cell (by rw [Go.Proofs.YtcamakkicmapcaaDoor.add_block]; exact hab)).trans k13
      have j14 : v1.cell? ⟨(ad.add (k * 15)).block, (ad.add (k * 15)).off + 13 + 1, none⟩ = some (.int .i64 x.hv) := (b1.cell (by rw [Go.Proofs.YtcamakkicmapcaaDoor.add_block]; exact hab)).trans k14
      have hab1 := Nat.lt_of_lt_of_le hab b1.size
      clear k9 k10 k11 k12 k13 k14 x18 S b1 hab
      cases q1 with
      | false =>
        go_wp2
        go_ret
        exact ⟨false, rfl, (fun e => by cases e), HX.out ▸ T1.old⟩
      | true =>
      have x18 := T1.cell 0 18 rfl rfl
      rw [HA.out] at x18
      go_wp2_with fail
      (with_reducible refine (fitsv_tm _ _ _).mono ?_); rintro e v2 ⟨q2, rfl, -, b2⟩
      have T2 := T1.below b2
      have i13 : v2.cell? ⟨(ad.add (k * 15)).block, (ad.add (k * 15)).off + 13, none⟩ = some (.bool x.ho) := (b2.cell (by rw [Go.Proofs.YtcamakkicmapcaaDoor.add_block]; exact hab1)).trans j13
      have i14 : v2.cell? ⟨(ad.add (k * 15)).block, (ad.add (k * 15)).off + 13 + 1, none⟩ = some (.int .i64 x.hv) := (b2.cell (by rw [Go.Proofs.YtcamakkicmapcaaDoor.add_block]; exact hab1)).trans j14
      clear j11 j12 j13 j14 x18 T1 b2 hab1
      cases q2 with
      | false =>
        go_wp2
        go_ret
        exact ⟨false, rfl, (fun e => by cases e), HX.out ▸ T2.old⟩
      | true =>
      have x18 := T2.cell 0 18 rfl rfl
      rw [HA.out] at x18
      go_wp2_with fail
      (with_reducible refine (fitsv_tm _ _ _).mono ?_); rintro e v3 ⟨q3, rfl, -, b3⟩
      have T3 := T2.below b3
      clear i13 i14 x18 T2 b3 HP
      cases q3 with
      | false =>
        go_wp2
        go_ret
        exact ⟨false, rfl, (fun e => by cases e), HX.out ▸ T3.old⟩
      | true =>
      go_wp2
      clear hki hkz
      go_loopw [4] (fun i wr => ∃ j : Nat, j ≤ k ∧ i = .int .i64 j ∧ Hid (∀ (b : Nat) (q : Po), b < j → L[b]? = some q → q.id ≠ x.id) ∧ Hs w [(X, 31, lT t A n cap)] wr) (fun i _ => k - (intOf i).toNat)
      case atStart => exact ⟨0, Nat.zero_le _, rfl, Lib.hid (fun b q h => by omega), T3⟩
      case round =>
        clear T3
        obtain ⟨j, hj, rfl, hs, S⟩ := hrel
        by_cases hjk : j < k
        · have hji : (j : Int) < (k : Int) := by omega
          have hjn : (j : Int) < (n : Int) := by omega
          have hjz : ¬ (n : Int) ≤ (j : Int) := by omega
          have hkn' : (k : Int) < (n : Int) := by omega
          have hkz : ¬ (n : Int) ≤ (k : Int) := by omega
          obtain ⟨y, hy⟩ := po_at hL.out (show j < n by omega)
          have HY := Lib.hid hy
          have HP := Lib.hid ((hp.out.below S.old (Nat.le_refl _)).wide S.old.size)
          obtain ⟨a1, e1, hab, h0, -⟩ := HP.out.cells HX2.out
          obtain rfl : ad = a1 := Option.some.inj (HA.out.symm.trans e1)
          obtain ⟨a2, e2, -, g0, -⟩ := HP.out.cells hy
          obtain rfl : ad = a2 := Option.some.inj (HA.out.symm.trans e2)
          have x18 := S.cell 0 18 rfl rfl
          rw [HA.out] at x18
          obtain ⟨p, hp1⟩ : ∃ p, (y.id == x.id) = p := ⟨_, rfl⟩
          have HPP := Lib.hid hp1
          clear hy e1 e2
          cases p with
          | true =>
            go_upto_region 11 with fail
            go_quiet (fail)
            go_wp2
            go_ret
            exact ⟨false, rfl, (fun e => by cases e), HX.out ▸ (S.old.trans ⟨rfl, rfl, rfl, Nat.le_refl _, fun _ _ => rfl⟩ : Below w.heap.size w (wr.drewN nq))⟩
          | false =>
            go_upto_region 11 with fail
            go_quiet (fail)
            have S4 := S.below (show Below wr.heap.size wr (wr.drewN nq) from ⟨rfl, rfl, rfl, Nat.le_refl _, fun _ _ => rfl⟩)
            generalize wr.drewN nq = w4 at S4 ⊢
            clear S h0 g0 x18 HP
            have hN := HN.out
            go_wp2
            exact ⟨⟨j + 1, hjk, by go_num, Lib.hid (fun b q hb hq => by
              by_cases e : b = j
              · subst e
                rw [HY.out] at hq
                cases hq
                simpa using HPP.out
              · exact hs.out b q (by omega) hq), S4⟩, by simp [intOf]; omega⟩
        · have hjz : ¬ (j : Int) < (k : Int) := by omega
          have hje : j = k := by omega
          have hN := HN.out
          go_wp2
          rw [← HA.out]
          go_roundw
          case rel => exact ⟨k + 1, by omega, by go_num, Lib.hid ⟨unlike_step hu.out.1 HX2.out (fun b q hb hq => hs.out b q (by omega) hq), av_step hu.out.2 HX2.out (HVA.out (by trivial))⟩, S⟩
          case measure => simp [intOf]; omega
    · have hkz : ¬ (k : Int) < (n : Int) := by omega
      have hke : k = n := by omega
      go_wp2
      go_ret
      exact ⟨true, rfl, (fun _ => ⟨HN.out, unlike_of hL.out (hke ▸ hu.out.1), av_of hL.out (hke ▸ hu.out.2)⟩), HX.out ▸ S.old⟩

end Go.Proofs.YtcamakkicmapcaaDoor
