/- The law SendOlder, walked. -/
import Derived.Test.YtcamakkicmapcaaDoorPk11
import Derived.Test.YtcamakkicmapcaaDoorPk16
import Derived.Test.YtcamakkicmapcaaDoorPk02
import Derived.StillTailTactics
import Derived.Deep.QuietTactic
import Derived.BigQuiet
import Derived.LoopTactic
import Derived.Deep.DeepCutAuto
namespace Go.Proofs.YtcamakkicmapcaaDoor
set_option maxRecDepth 100000
open Go.ChangeShapes Go.WideShapes Go.ChangeAt Go.RowKit
set_option linter.unusedVariables false
set_option linter.unusedSimpArgs false

set_option maxHeartbeats 4000000 in
theorem SendOlder_walk (t : Th) (A : Option Addr) (n cap : Nat) (L : List Po) (w : World) (hd : Hd w) (ht : ThB t) (hm : TmB t) (hL : L.length = n) (hn : n ≤ 9223372036854775807) (hz : A = none → cap = 0) (hb : ∀ x ∈ L, PoB x) (hp : PoAt w A w.heap.size L) :
    Calls Tryd.prog 6 #[.agg (lT t A n cap).toArray] w fun e w' => e = .returned (.bool true) ∧ Below w.heap.size w w' := by
  have HA := fun W (h : Below w.heap.size w W) => Lib.hid (awake14_is W (hd.below h (Nat.le_refl _)))
  have HD := Lib.hid hd
  have HB := Lib.hid hb
  have HTB := Lib.hid ht
  have HNB := Lib.hid (show (-9223372036854775808 ≤ t.n1 ∧ t.n1 ≤ 9223372036854775807 ∧ -9223372036854775808 ≤ t.n2 ∧ t.n2 ≤ 9223372036854775807 ∧ -9223372036854775808 ≤ t.n3 ∧ t.n3 ≤ 9223372036854775807) from hm)
  have HL := Lib.hid hL
  have HP := Lib.hid hp
  have HCZ := Lib.hid hz
  have HF := fun W (h : Below w.heap.size w W) => Lib.hid (fitv_is t A n cap L HL hn W (Lib.hid ((HP.out.below h (Nat.le_refl _)).wide h.size)))
  clear hb hL hz hp ht hn hd hm
  obtain ⟨wb, hwb, S⟩ := hs_one w 31 (lT t A n cap)
  go_enter Tryd.func6, Tryd.ntmps6
  go_upto_region 1 with fail
  clear hwb
  obtain ⟨X, hX⟩ : ∃ X, w.heap.size = X := ⟨_, rfl⟩
  rw [hX] at S
  rw [hX]
  clear hX
  go_wp2_with fail
  (with_reducible refine (HA _ S.old).out.mono ?_); rintro e w1 ⟨rfl, b1⟩
  have S1 := S.below b1
  clear S b1
  have hx := S1.bk 0 rfl
  go_wp2_with (with_reducible refine wpList_load_rowG (by kernel_rfl) 31 (.tmp 1) rfl X (by kernel_rfl) _ _ (0, 0) _ hx Tryd.underlying31 rfl (by kernel_rfl) ?_)
  (with_reducible refine (HF _ S1.old).out.mono ?_); rintro e w2 ⟨q, rfl, hq, b2⟩
  have S2 := S1.below b2
  have HQ := Lib.hid hq
  clear S1 hx HF b2 hq
  cases q with
  | false =>
    go_wp2_with fail
    (with_reducible refine (HA _ S2.old).out.mono ?_); rintro e w3 ⟨rfl, b3⟩
    have S3 := S2.below b3
    clear S2 b3
    go_wp2
    go_ret
    exact ⟨rfl, S3.old⟩
  | true =>
    have HN := Lib.hid (HQ.out rfl).1
    have HAV := Lib.hid (HQ.out rfl).2.2
    clear HQ
    have hn2 : n ≤ 200 := by have := HN.out; omega
    have HC1 := Lib.hid (sall_is t A n cap L HL hn2 HTB HNB HB HCZ _ (HD.out.below S2.old (Nat.le_refl _)) (Lib.hid ((HP.out.below S2.old (Nat.le_refl _)).wide S2.old.size)))
    have hx := S2.bk 0 rfl
    go_upto_region 3 with fail
    go_wp2_with (with_reducible refine wpList_load_rowG (by kernel_rfl) 31 (.tmp 1) rfl X (by kernel_rfl) _ _ (0, 0) _ hx Tryd.underlying31 rfl (by kernel_rfl) ?_)
    (with_reducible refine (HC1).out.mono ?_); rintro e x1 ⟨D1, k1, v1, rfl, hz1, hP1, hO1, b1⟩
    have S_1a := S2.below b1
    go_upto_region 4 with (refine wpList_store_row rfl 31 _ _ rfl _ _ rfl rfl _ _ (heap_alloc_new _ _) (by kernel_rfl) (by kernel_rfl) (by kernel_rfl) ?_)
    rw [alloc_row]
    have bN := new_below x1 (.cells (lT t D1 n k1).toArray 31)
    have KU_1 := AN.new (t := t) (n := n) (R := (allR t L n)) hz1 hP1 hO1
    have S_1 := S_1a.below bN
    obtain ⟨U, hG⟩ : ∃ G, x1.heap.size = G := ⟨_, rfl⟩
    rw [hG] at KU_1 ⊢
    obtain ⟨y1, hy⟩ : ∃ y, x1.alloc (.cells (lT t D1 n k1).toArray 31) = y := ⟨_, rfl⟩
    rw [hy] at S_1 KU_1  ⊢
    clear hy hG bN hz1 hO1 hP1 b1 S2 S_1a
    clear hx HC1
    have HBD := Lib.hid (allR_bd (t := t) HB.out n)
    obtain ⟨A1, q1, rfl⟩ := KU_1.outs.shape
    obtain ⟨m, hm⟩ : ∃ m, (allR t L n).2.length = m := ⟨_, rfl⟩
    have hmn : m ≤ n := by rw [← hm]; exact HBD.out.2.1
    rw [hm] at KU_1 ⊢
    have HM := Lib.hid hm
    have hm9 : m ≤ 200 := by omega
    clear hm hmn
    have RR : Hid (Hs w [(X, 31, lT t A n cap)] y1 ∧ OutsR y1 0 (.slice A1 m q1) (allR t L n).2) := Lib.hid ⟨S_1, KU_1.outs⟩
    clear S_1 KU_1
    go_wp2
    go_loopw [5] (fun i wr => ∃ k : Nat, k ≤ m ∧ i = .int .i64 k ∧ Hid (Hs w [(X, 31, lT t A n cap)] wr ∧ OutsR wr 0 (.slice A1 m q1) (allR t L n).2)) (fun i _ => m - (intOf i).toNat)
    case atStart => exact ⟨0, Nat.zero_le _, rfl, RR⟩
    case round =>
      clear RR
      obtain ⟨k, hk, rfl, R⟩ := hrel
      by_cases hkm : k < m
      · as_aux_lemma =>
          have hki : (k : Int) < (m : Int) := by omega
          have hkz : ¬ (m : Int) ≤ (k : Int) := by omega
          obtain ⟨o, ho⟩ : ∃ o, (allR t L n).2[k]? = some o := ⟨(allR t L n).2[k]'(by have := HM.out; omega), List.getElem?_eq_getElem _⟩
          obtain ⟨j, p, hjn, hpj, htl, hho, hage, hoj⟩ := allR_mem t L n o (List.mem_of_getElem? ho)
          obtain ⟨a, ha⟩ : ∃ a, toldI t L = a := ⟨_, rfl⟩
          have hab := toldI_bd t L
          rw [ha] at hage hoj hab
          have HA2 := Lib.hid ha
          have HAB := Lib.hid hab
          have hj0 : ¬ (j : Int) < 0 := by omega
          have hji : (j : Int) < (n : Int) := by omega
          have hjz : ¬ (n : Int) ≤ (j : Int) := by omega
          have HXJ := Lib.hid hpj
          have HPJ := Lib.hid (HB.out p (List.mem_of_getElem? hpj))
          have HTL := Lib.hid htl
          have HAGE := Lib.hid hage
          have HO := Lib.hid ho
          have HOJ := Lib.hid hoj
          obtain ⟨c, g, hco, rfl, hg, hcl, hat⟩ := R.out.2.at ho
          rw [hoj] at hco
          have HCO := Lib.hid hco
          have HAT := Lib.hid hat
          have HG := Lib.hid hg
          obtain ⟨ad0, rfl⟩ := HP.out.some hpj
          clear ha hab hpj htl hho hage hoj hco hat
          have l1 : ∀ W, Below wr.heap.size wr W → ∀ i v, (lF c)[i]? = some v → W.cell? ((⟨g, k * 5 + 1, none⟩ : Addr).add i) = some v := fun W b i v hv => by
            rw [addr_add, Nat.add_assoc]
            exact (b.cell (p := ⟨g, k * 5 + (1 + i), none⟩) hg).trans (hcl (1 + i) v (by rw [Nat.add_comm]; exact hv))
          have p0 : ∀ W, Below wr.heap.size wr W → W.cell? ⟨g, k * 5, none⟩ = some (.int .i64 j) := fun W b => by
            have := hcl 0 _ rfl
            rw [HCO.out] at this
            exact (b.cell (p := ⟨g, k * 5, none⟩) hg).trans this
          have HL1 := Lib.hid l1
          have HP0 := Lib.hid p0
          clear l1 p0 hcl hg ho
          have hat := HL1.out wr (Below.refl _ _)
          have hrow : Row wr c.g c.cap (ouB c.o) := HAT.out.2
          have hNn : ouN c.o = 38 := by rw [HCO.out]; rfl
          have hcap : 38 ≤ c.cap := by
            obtain ⟨_, _, h3, _⟩ := hrow
            rw [ouB_len, hNn] at h3
            exact h3
          have hOB : openB 1652522221568 ((ouN c.o : Nat) : Int) (ouB c.o) = true := by rw [hNn]; exact open_wrap14 38 (bqB c.o.x) (by decide)
          have hfr : c.o.fr = t.ow % 281474976710656 := by rw [HCO.out]
          have HOP : Hid (Calls Tryd.prog 21 #[.agg (lF c).toArray] wr (OpenEndC 1652522221568 (ouN c.o) (ouB c.o) (ouN c.o) wr)) := Lib.hid (openC_any 1652522221568 c.o.fr (ouN c.o) (some ⟨c.g, 0, none⟩) (ouN c.o) c.cap (ouB c.o) (Lib.hid (ouB_len _)) (by omega) (Lib.hid (fun e => by cases e)) (by omega) (by omega) (by omega) wr (HD.out.below R.out.1.old (Nat.le_refl _)) (hrow.rb 0 _ (Nat.zero_le _) hrow.lt))
          have HOB := Lib.hid hOB
          have HNN := Lib.hid hNn
          have HFR := Lib.hid hfr
          clear hrow hcap hOB hNn hfr
          go_upto_region 7 with fail
          have hk38 := hkz
          go_wp2_with (with_reducible refine wpList_load_at rfl 55 (.tmp 34) rfl ⟨g, k * 5 + 1, none⟩ (by kernel_rfl) _ _ hat Tryd.underlying55 rfl (by kernel_rfl) ?_)
          (with_reducible refine HOP.out.mono ?_); rintro e w3 (⟨-, D, kc, rfl, hkc, hRB, b3⟩ | ⟨hno, -⟩)
          case inr => rw [HOB.out] at hno; cases hno
          clear HOP hat hk38
          have R3 := Lib.hid (show _ ∧ _ from ⟨R.out.1.below b3, R.out.2.below b3⟩)
          have B3 := Lib.hid b3
          have hRB3 : RB w3 D 0 w3.heap.size (bqB (confQ t a p)) := by
            have : (ouB c.o).drop 3 = bqB (confQ t a p) := by rw [HCO.out]; rfl
            rwa [this] at hRB
          rw [show ouN c.o - 3 = 35 by rw [HNN.out]] at hkc ⊢
          have HRB := Lib.hid hRB3
          have HKC := Lib.hid hkc
          clear hRB hRB3 hkc b3
          have p0 := HP0.out w3 B3.out
          go_upto_region 9 with fail
          clear p0
          go_cut [99] (fun u wx => u = .bool false ∧ Below w3.heap.size w3 wx)
          case first =>
            by_cases hk0 : k = 0
            · as_aux_lemma =>
                have HDE := fun W => Lib.hid (desig_row p t.ow true (Lib.hid (by have h := HTL.out; unfold tellsB at h; simp only [Bool.and_eq_true] at h; simp only [Bool.and_eq_true]; exact ⟨h.1, h.2.1⟩)) W)
                have hst : (p.st == 0) = false := by have h := HTL.out; unfold tellsB at h; simp only [Bool.and_eq_true, Bool.not_eq_true', decide_eq_false_iff_not] at h; simpa using h.2.2
                have HCK : ∀ W, Hid (Calls Tryd.prog 23 #[.agg (lF c).toArray] W fun e w' => e = .returned (.int .i64 0) ∧ Below W.heap.size W w') := fun W => Lib.hid (by
                  have hb0 := HTB.out.1
                  have h := check_any 1652522221568 c.o.fr (ouN c.o) (some ⟨c.g, 0, none⟩) (ouN c.o) c.cap (by rw [HNN.out]; decide) (by decide) (by rw [HFR.out]; omega) (by omega) (by decide) (by rw [HFR.out]; omega) (by rw [HNN.out]; decide) W
                  unfold CheckEnd at h
                  rw [check_wrap14 _ _ (by rw [HFR.out]; omega) (by rw [HNN.out]; decide)] at h
                  exact h)
                have hjd : decide ((j : Int) < 0) = false := by simp
                have hnd : decide (n ≤ j) = false := by simp; omega
                have hnd2 : decide ((n : Int) ≤ (j : Int)) = false := by simp; omega
                obtain rfl : k = 0 := by omega
                have hkp : ¬ (0 : Int) < ((0 : Nat) : Int) := by omega
                have c18 : ∀ q : LaterW w3, q.w'.cell? ⟨X, 18, none⟩ = some (.slice (some ad0) n cap) := fun q => (R3.out.1.below q.h).cell 0 18 rfl rfl
                have c0 : ∀ q : LaterW w3, q.w'.cell? ⟨X, 0, none⟩ = some (.int .u64 t.ow) := fun q => (R3.out.1.below q.h).cell 0 0 rfl rfl
                have p1 : ∀ q : LaterW w3, q.w'.cell? ⟨(ad0.add (j * 15)).block, (ad0.add (j * 15)).off + 1, none⟩ = some (.int .i64 p.st) := fun q => by
                  obtain ⟨_, e0, -, -, h0⟩ := (HP.out.below (R3.out.1.below q.h).old (Nat.le_refl _)).cells HXJ.out
                  cases e0
                  exact h0 0 _ rfl
                refine region_later mixedL (by kernel_rfl) ?_
                go_big_quiet_step (fail)
                go_big_quiet_step (fail)
                go_big_quiet_step (fail)
                go_big_quiet_step (fail)
                go_big_quiet_step (fail)
                go_big_quiet_step (fail)
                go_big_quiet_step (fail)
                go_big_quiet_step (fail)
                go_big_quiet_step (fail)
                go_big_quiet_step (fail)
                go_big_quiet_step (fail)
                go_big_quiet_step (fail)
                go_big_quiet_step (fail)
                go_big_quiet_step (fail)
                go_big_quiet_step (fail)
                go_big_quiet_step (fail)
                go_big_quiet_step (fail)
                go_big_quiet_step (fail)
                (refine BigFrame.wpQuiet_want (by kernel_rfl) (fun K hK => ?_); refine quiet_load_at 48 _ rfl (ad0.add (j * 15)) (by kernel_rfl) _ _ (fun v hv => by obtain ⟨q, rfl⟩ := hv; exact (HP.out.below (R3.out.1.below q.h).old (Nat.le_refl _)).at HXJ.out rfl) Tryd.underlying48 rfl (by kernel_rfl) ?_; refine hK _ ?_; clear hK; go_simp)
                go_big_quiet_step (fail)
                go_big_quiet_step (fail)
                go_big_quiet_step ((go_at_call 22; with_reducible exact Calls.later (HDE _).out))
                go_big_quiet_step (fail)
                go_big_quiet_step (fail)
                go_big_quiet_step (fail)
                go_big_quiet_step (fail)
                go_big_quiet_step (fail)
                go_big_quiet_step (fail)
                go_big_quiet_step (fail)
                go_big_quiet_step (fail)
                go_big_quiet_step (fail)
                go_big_quiet_step (fail)
                go_big_quiet_step (fail)
                go_big_quiet_step (fail)
                go_big_quiet_step (fail)
                go_big_quiet_step (fail)
                go_big_quiet_step (fail)
                go_big_quiet_step (fail)
                (refine BigFrame.wpQuiet_want (by kernel_rfl) (fun K hK => ?_); refine quiet_load_at 55 _ rfl ⟨g, 0 * 5 + 1, none⟩ (by kernel_rfl) _ _ (fun v hv => by obtain ⟨q, rfl⟩ := hv; exact HL1.out q.w' (B3.out.trans (q.h.mono B3.out.size))) Tryd.underlying55 rfl (by kernel_rfl) ?_; refine hK _ ?_; clear hK; go_simp)
                go_big_quiet_step ((go_at_call 23; with_reducible exact Calls.later (HCK _).out))
                repeat (go_big_quiet_step (fail))
                refine wpQuiet_nil ?_
                intro r
                go_wp2_with fail
                go_meet
                exact ⟨rfl, r.h⟩
            · as_aux_lemma =>
                have HDE := fun W => Lib.hid (desig_row p t.ow true (Lib.hid (by have h := HTL.out; unfold tellsB at h; simp only [Bool.and_eq_true] at h; simp only [Bool.and_eq_true]; exact ⟨h.1, h.2.1⟩)) W)
                have hst : (p.st == 0) = false := by have h := HTL.out; unfold tellsB at h; simp only [Bool.and_eq_true, Bool.not_eq_true', decide_eq_false_iff_not] at h; simpa using h.2.2
                have HCK : ∀ W, Hid (Calls Tryd.prog 23 #[.agg (lF c).toArray] W fun e w' => e = .returned (.int .i64 0) ∧ Below W.heap.size W w') := fun W => Lib.hid (by
                  have hb0 := HTB.out.1
                  have h := check_any 1652522221568 c.o.fr (ouN c.o) (some ⟨c.g, 0, none⟩) (ouN c.o) c.cap (by rw [HNN.out]; decide) (by decide) (by rw [HFR.out]; omega) (by omega) (by decide) (by rw [HFR.out]; omega) (by rw [HNN.out]; decide) W
                  unfold CheckEnd at h
                  rw [check_wrap14 _ _ (by rw [HFR.out]; omega) (by rw [HNN.out]; decide)] at h
                  exact h)
                have hjd : decide ((j : Int) < 0) = false := by simp
                have hnd : decide (n ≤ j) = false := by simp; omega
                have hnd2 : decide ((n : Int) ≤ (j : Int)) = false := by simp; omega
                obtain ⟨k', rfl⟩ : ∃ k', k = k' + 1 := ⟨k - 1, by omega⟩
                obtain ⟨o', ho'⟩ : ∃ o, (allR t L n).2[k']? = some o := ⟨(allR t L n).2[k']'(by have := HM.out; omega), List.getElem?_eq_getElem _⟩
                have hlt := allR_before ho' HO.out
                rw [HOJ.out] at hlt
                obtain ⟨c', g', hco', e', hg', hcl', -⟩ := R3.out.2.at ho'
                obtain rfl : g = g' := by injection e' with e'; injection e'
                have q0 : ∀ W, Below w3.heap.size w3 W → W.cell? ⟨g, k' * 5, none⟩ = some (.int .i64 o'.i) := fun W b => by
                  have := hcl' 0 _ rfl
                  rw [hco'] at this
                  exact (b.cell (p := ⟨g, k' * 5, none⟩) hg').trans this
                have hle : decide ((j : Int) ≤ o'.i) = false := by
                  have : o'.i < (j : Int) := hlt
                  simp; omega
                have hle2 : ¬ (j : Int) ≤ o'.i := by have : o'.i < (j : Int) := hlt; omega
                have hkp : (0 : Int) < ((k' + 1 : Nat) : Int) := by omega
                have hkp2 : (0 : Int) < (k' : Int) + 1 := by omega
                have hwk : IntKind.i64.wrap ((k' : Int) + 1 - 1) = (k' : Int) := by rw [Int.add_sub_cancel]; simp [IntKind.wrap, IntKind.bits, IntKind.signed]; omega
                have hwk2 : IntKind.i64.wrap (k' : Int) = (k' : Int) := by simp [IntKind.wrap, IntKind.bits, IntKind.signed]; omega
                have hb1 : (0 : Int) ≤ (k' : Int) + 1 := by omega
                have hb2 : (k' : Int) + 1 < (m : Int) := by omega
                have hk'i : (k' : Int) < (m : Int) := by omega
                have hk'z : ¬ (m : Int) ≤ (k' : Int) := by omega
                clear hlt hcl' hco' e' ho'
                have c18 : ∀ q : LaterW w3, q.w'.cell? ⟨X, 18, none⟩ = some (.slice (some ad0) n cap) := fun q => (R3.out.1.below q.h).cell 0 18 rfl rfl
                have c0 : ∀ q : LaterW w3, q.w'.cell? ⟨X, 0, none⟩ = some (.int .u64 t.ow) := fun q => (R3.out.1.below q.h).cell 0 0 rfl rfl
                have p1 : ∀ q : LaterW w3, q.w'.cell? ⟨(ad0.add (j * 15)).block, (ad0.add (j * 15)).off + 1, none⟩ = some (.int .i64 p.st) := fun q => by
                  obtain ⟨_, e0, -, -, h0⟩ := (HP.out.below (R3.out.1.below q.h).old (Nat.le_refl _)).cells HXJ.out
                  cases e0
                  exact h0 0 _ rfl
                have q1 : ∀ q : LaterW w3, q.w'.cell? ⟨g, k' * 5, none⟩ = some (.int .i64 o'.i) := fun q => q0 q.w' q.h
                refine region_later mixedL (by kernel_rfl) ?_
                go_big_quiet_step (fail)
                go_big_quiet_step (fail)
                go_big_quiet_step (fail)
                go_big_quiet_step (fail)
                go_big_quiet_step (fail)
                go_big_quiet_step (fail)
                go_big_quiet_step (fail)
                go_big_quiet_step (fail)
                go_big_quiet_step (fail)
                go_big_quiet_step (fail)
                go_big_quiet_step (fail)
                go_big_quiet_step (fail)
                go_big_quiet_step (fail)
                go_big_quiet_step (fail)
                go_big_quiet_step (fail)
                go_big_quiet_step (fail)
                go_big_quiet_step (fail)
                go_big_quiet_step (fail)
                (refine BigFrame.wpQuiet_want (by kernel_rfl) (fun K hK => ?_); refine quiet_load_at 48 _ rfl (ad0.add (j * 15)) (by kernel_rfl) _ _ (fun v hv => by obtain ⟨q, rfl⟩ := hv; exact (HP.out.below (R3.out.1.below q.h).old (Nat.le_refl _)).at HXJ.out rfl) Tryd.underlying48 rfl (by kernel_rfl) ?_; refine hK _ ?_; clear hK; go_simp)
                go_big_quiet_step (fail)
                go_big_quiet_step (fail)
                go_big_quiet_step ((go_at_call 22; with_reducible exact Calls.later (HDE _).out))
                go_big_quiet_step (fail)
                go_big_quiet_step (fail)
                go_big_quiet_step (fail)
                go_big_quiet_step (fail)
                go_big_quiet_step (fail)
                go_big_quiet_step (fail)
                go_big_quiet_step (fail)
                go_big_quiet_step (fail)
                go_big_quiet_step (fail)
                go_big_quiet_step (fail)
                go_big_quiet_step (fail)
                go_big_quiet_step (fail)
                go_big_quiet_step (fail)
                go_big_quiet_step (fail)
                go_big_quiet_step (fail)
                go_big_quiet_step (fail)
                (refine BigFrame.wpQuiet_want (by kernel_rfl) (fun K hK => ?_); refine quiet_load_at 55 _ rfl ⟨g, (k' + 1) * 5 + 1, none⟩ (by kernel_rfl) _ _ (fun v hv => by obtain ⟨q, rfl⟩ := hv; exact HL1.out q.w' (B3.out.trans (q.h.mono B3.out.size))) Tryd.underlying55 rfl (by kernel_rfl) ?_; refine hK _ ?_; clear hK; go_simp)
                go_big_quiet_step ((go_at_call 23; with_reducible exact Calls.later (HCK _).out))
                repeat (go_big_quiet_step (fail))
                refine wpQuiet_nil ?_
                intro r
                go_wp2_with fail
                go_meet
                exact ⟨rfl, r.h⟩
          case rest =>
            obtain ⟨rfl, B4⟩ := hcut
            rename World => w4
            have R4 := Lib.hid (show _ ∧ _ from ⟨R3.out.1.below B4, R3.out.2.below B4⟩)
            have HRB4 := Lib.hid ((HRB.out.below B4 (Nat.le_refl _)).wide (Nat.le_refl 0) B4.size)
            clear R3 HRB B4 B3 HL1 HP0 R
            obtain ⟨lb, hlb⟩ : ∃ l, bqB (confQ t a p) = l := ⟨_, rfl⟩
            have HLB := Lib.hid hlb
            rw [hlb] at HRB4
            have hll : lb.length = 35 := by rw [← hlb]; exact bqB_len (confQ t a p)
            clear hlb
            have HGT : Hid (Calls Tryd.prog 24 #[.slice D 35 kc] w4 fun e w' => e = .returned (.tuple #[.agg (lB (getQ lb)).toArray, .int .i64 (gE lb)]) ∧ Below w4.heap.size w4 w') := Lib.hid (get_any D kc lb 35 (Lib.hid hll) (by decide) HKC.out w4 HRB4.out)
            go_upto_region 11 with fail
            go_wp2_with fail
            (with_reducible refine HGT.out.mono ?_); rintro e w5 ⟨rfl, b5⟩
            have R5 := Lib.hid (show _ ∧ _ from ⟨R4.out.1.below b5, R4.out.2.below b5⟩)
            clear R4 HRB4 HGT b5 hll
            go_upto_region 12 with (refine wpList_store_row rfl 62 _ _ rfl _ _ rfl rfl _ _ (heap_alloc_new _ _) (by kernel_rfl) (by kernel_rfl) (by kernel_rfl) ?_)
            rw [alloc_row]
            have bN := new_below w5 (.cells (lB (getQ lb)).toArray 62)
            have S6 := R5.out.1.al rfl 62 (lB (getQ lb))
            have O6 := R5.out.2.below bN
            obtain ⟨V, hV⟩ : ∃ G, w5.heap.size = G := ⟨_, rfl⟩
            rw [hV] at S6 ⊢
            obtain ⟨w6, hw6⟩ : ∃ y, w5.alloc (.cells (lB (getQ lb)).toArray 62) = y := ⟨_, rfl⟩
            rw [hw6] at S6 O6 ⊢
            clear hw6 hV bN R5
            have c2 := S6.cell 1 2 rfl rfl
            have c4 := S6.cell 1 4 rfl rfl
            by_cases hc : 2147483648 ≤ t.co
            · have R9 := Lib.hid (show _ ∧ _ from ⟨S6.tail, O6⟩)
              clear S6 O6 c4
              go_wp2
              go_roundw
              case rel => exact ⟨k + 1, by omega, by go_num, R9⟩
              case measure => simp [intOf]; omega
            by_cases hm2 : 65535 < t.n1
            · have R9 := Lib.hid (show _ ∧ _ from ⟨S6.tail, O6⟩)
              clear S6 O6
              go_wp2
              go_roundw
              case rel => exact ⟨k + 1, by omega, by go_num, R9⟩
              case measure => simp [intOf]; omega
            as_aux_lemma =>
              go_upto_region 13 with fail
              clear c2 c4
              have HCM := Lib.hid (show ¬ 65535 < t.n1 from by omega)
              obtain ⟨gE0, g0, g1, g2, g3, g4, g5, g6, g7⟩ := conf_back HTB.out HPJ.out (show ¬ 2147483648 ≤ t.co by omega) (by have := HCM.out; omega) HAB.out.1 (by have := HAGE.out; omega)
              rw [HLB.out] at gE0 g0 g1 g2 g3 g4 g5 g6 g7
              clear hc hm2
              rw [gE0]
              clear gE0
              have x0 : w6.cell? ⟨V, 0, none⟩ = some (.bool false) := by rw [← g0]; exact S6.cell 0 0 rfl rfl
              have x1 : w6.cell? ⟨V, 1, none⟩ = some (.bool t.ch) := by rw [← g1]; exact S6.cell 0 1 rfl rfl
              have x2 : w6.cell? ⟨V, 2, none⟩ = some (.bool p.ak) := by rw [← g2]; exact S6.cell 0 2 rfl rfl
              have x3 : w6.cell? ⟨V, 3, none⟩ = some (.int .u64 t.ro) := by rw [← g3]; exact S6.cell 0 3 rfl rfl
              have x4 : w6.cell? ⟨V, 4, none⟩ = some (.int .u32 t.co) := by rw [← g4]; exact S6.cell 0 4 rfl rfl
              have x5 : w6.cell? ⟨V, 5, none⟩ = some (.int .u64 t.ow) := by rw [← g5]; exact S6.cell 0 5 rfl rfl
              have x6 : w6.cell? ⟨V, 6, none⟩ = some (.int .u16 p.id) := by rw [← g6]; exact S6.cell 0 6 rfl rfl
              have HX7 : Hid (∀ W, Below w6.heap.size w6 W → W.cell? ⟨V, 7, none⟩ = some (.int .u16 a)) := Lib.hid (fun W b => by rw [← g7]; exact (S6.below b).cell 0 7 rfl rfl)
              clear g0 g1 g2 g3 g4 g5 g6 g7
              have t0 := S6.cell 1 0 rfl rfl
              have t1 := S6.cell 1 1 rfl rfl
              have t2 := S6.cell 1 2 rfl rfl
              have t11 := S6.cell 1 11 rfl rfl
              have t18 := S6.cell 1 18 rfl rfl
              obtain ⟨_, e0, -, u0, h0⟩ := (HP.out.below S6.old (Nat.le_refl _)).cells HXJ.out
              cases e0
              have u7 := h0 6 _ rfl
              clear h0
              go_wp2
              go_quiet (fail)
              have Bq : Below w6.heap.size w6 (w6.drewN nq) := ⟨rfl, rfl, rfl, Nat.le_refl _, fun _ _ => rfl⟩
              have S7 := S6.below Bq
              have O7 := O6.below Bq
              have x7 := HX7.out _ Bq
              have HX8 : Hid (∀ W, Below (w6.drewN nq).heap.size (w6.drewN nq) W → W.cell? ⟨V, 7, none⟩ = some (.int .u16 a)) := Lib.hid (fun W b => HX7.out W (Bq.trans b))
              generalize w6.drewN nq = w7 at S7 O7 x7 HX8 ⊢
              clear S6 O6 HX7 Bq x0 x1 x2 x3 x4 x5 x6 t0 t1 t2 t11 t18 u0 u7
              go_upto_region 15 with fail
              obtain ⟨r, hr⟩ : ∃ q, decide (t.ro = t.ow) = q := ⟨_, rfl⟩
              have HI := fun W => Lib.hid (isroot_is t (some ad0) n cap r (Lib.hid hr) W)
              have HRR := Lib.hid hr
              clear hr
              have hx := S7.bk 1 rfl
              cases r with
              | true =>
                as_aux_lemma =>
                  obtain rfl : 0 = a := by rw [← HA2.out, told_root (of_decide_eq_true HRR.out)]
                  go_wp2_with (with_reducible refine wpList_load_rowG (by kernel_rfl) 31 (.tmp 1) rfl X (by kernel_rfl) _ _ (0, 0) _ hx Tryd.underlying31 rfl (by kernel_rfl) ?_)
                  (with_reducible refine (HI _).out.mono ?_); rintro e w8 ⟨rfl, b8⟩
                  have S8 := S7.below b8
                  have O8 := O7.below b8
                  have x8 := HX8.out _ b8
                  have HX9 : Hid (∀ W, Below w8.heap.size w8 W → W.cell? ⟨V, 7, none⟩ = some (.int .u16 0)) := Lib.hid (fun W b => HX8.out W (b8.trans (b.mono b8.size)))
                  clear S7 O7 x7 HX8 b8 hx
                  go_upto_region 17 with fail
                  clear x8
                  refine region_later mixedL (by kernel_rfl) ?_
                  (refine BigFrame.wpQuiet_want (by kernel_rfl) (fun K hK => ?_); refine quiet_load_row 31 _ rfl X (by kernel_rfl) _ _ (0, 0) _ (S8.bkq 1 rfl) Tryd.underlying31 rfl (by kernel_rfl) ?_; refine hK _ ?_; clear hK; go_simp)
                  go_big_quiet_step ((go_at_call 25; with_reducible exact Calls.later (HI _).out))
                  repeat (go_big_quiet_step (fail))
                  refine wpQuiet_nil ?_
                  intro r
                  have R9 := Lib.hid (show _ ∧ _ from ⟨(S8.below r.h).tail, O8.below r.h⟩)
                  generalize r.w' = w9 at R9 ⊢
                  clear S8 O8
                  go_wp2
                  go_roundw
                  case rel => exact ⟨k + 1, by omega, by go_num, R9⟩
                  case measure => simp [intOf]; omega
              | false =>
                as_aux_lemma =>
                  go_wp2_with (with_reducible refine wpList_load_rowG (by kernel_rfl) 31 (.tmp 1) rfl X (by kernel_rfl) _ _ (0, 0) _ hx Tryd.underlying31 rfl (by kernel_rfl) ?_)
                  (with_reducible refine (HI _).out.mono ?_); rintro e w8 ⟨rfl, b8⟩
                  have S8 := S7.below b8
                  have O8 := O7.below b8
                  have x8 := HX8.out _ b8
                  have HX9 : Hid (∀ W, Below w8.heap.size w8 W → W.cell? ⟨V, 7, none⟩ = some (.int .u16 a)) := Lib.hid (fun W b => HX8.out W (b8.trans (b.mono b8.size)))
                  clear S7 O7 x7 HX8 b8 hx
                  go_upto_region 17 with fail
                  clear x8
                  by_cases hr0 : t.rp < 0
                  · have hd1 : decide (0 ≤ t.rp) = false := by simp; omega
                    have hr1 : ¬ 0 ≤ t.rp := by omega
                    have c3 : ∀ q : LaterW w8, q.w'.cell? ⟨X, 3, none⟩ = some (.int .i64 t.rp) := fun q => (S8.below q.h).cell 1 3 rfl rfl
                    refine region_later mixedL (by kernel_rfl) ?_
                    (refine BigFrame.wpQuiet_want (by kernel_rfl) (fun K hK => ?_); refine quiet_load_row 31 _ rfl X (by kernel_rfl) _ _ (0, 0) _ (S8.bkq 1 rfl) Tryd.underlying31 rfl (by kernel_rfl) ?_; refine hK _ ?_; clear hK; go_simp)
                    go_big_quiet_step ((go_at_call 25; with_reducible exact Calls.later (HI _).out))
                    repeat (go_big_quiet_step (fail))
                    refine wpQuiet_nil ?_
                    intro r
                    have R9 := Lib.hid (show _ ∧ _ from ⟨(S8.below r.h).tail, O8.below r.h⟩)
                    generalize r.w' = w9 at R9 ⊢
                    clear S8 O8
                    go_wp2
                    go_roundw
                    case rel => exact ⟨k + 1, by omega, by go_num, R9⟩
                    case measure => simp [intOf]; omega
                  by_cases hr2 : (n : Int) ≤ t.rp
                  · have hd1 : decide (0 ≤ t.rp) = true := by simp; omega
                    have hr1 : 0 ≤ t.rp := by omega
                    have hd2 : decide (t.rp < (n : Int)) = false := by simp; omega
                    have hr3 : ¬ t.rp < (n : Int) := by omega
                    have c3 : ∀ q : LaterW w8, q.w'.cell? ⟨X, 3, none⟩ = some (.int .i64 t.rp) := fun q => (S8.below q.h).cell 1 3 rfl rfl
                    have c18 : ∀ q : LaterW w8, q.w'.cell? ⟨X, 18, none⟩ = some (.slice (some ad0) n cap) := fun q => (S8.below q.h).cell 1 18 rfl rfl
                    refine region_later mixedL (by kernel_rfl) ?_
                    (refine BigFrame.wpQuiet_want (by kernel_rfl) (fun K hK => ?_); refine quiet_load_row 31 _ rfl X (by kernel_rfl) _ _ (0, 0) _ (S8.bkq 1 rfl) Tryd.underlying31 rfl (by kernel_rfl) ?_; refine hK _ ?_; clear hK; go_simp)
                    go_big_quiet_step ((go_at_call 25; with_reducible exact Calls.later (HI _).out))
                    repeat (go_big_quiet_step (fail))
                    refine wpQuiet_nil ?_
                    intro r
                    have R9 := Lib.hid (show _ ∧ _ from ⟨(S8.below r.h).tail, O8.below r.h⟩)
                    generalize r.w' = w9 at R9 ⊢
                    clear S8 O8
                    go_wp2
                    go_roundw
                    case rel => exact ⟨k + 1, by omega, by go_num, R9⟩
                    case measure => simp [intOf]; omega
                  obtain ⟨i, hi⟩ : ∃ i : Nat, t.rp = i := ⟨t.rp.toNat, by omega⟩
                  have hin : i < n := by omega
                  obtain ⟨y, hy⟩ := po_at HL.out hin
                  have hav : a = y.av + 256 := by rw [← HA2.out]; exact told_older (of_decide_eq_false HRR.out) (by omega) (by rw [hi, Int.toNat_natCast]; exact hy) (HAV.out y (List.mem_of_getElem? hy)) (by have := HCM.out; omega) (by rw [HA2.out]; have := HAGE.out; omega)
                  have hwa : IntKind.i64.wrap (y.av + 256) = a := by
                    have h1 := HAV.out y (List.mem_of_getElem? hy)
                    have h2 := HAB.out
                    rw [hav]
                    simp [IntKind.wrap, IntKind.bits, IntKind.signed]
                    omega
                  have hwa2 : IntKind.i64.wrap a = a := by
                    have h2 := HAB.out
                    simp [IntKind.wrap, IntKind.bits, IntKind.signed]
                    omega
                  have HYY := Lib.hid hy
                  have c3 : ∀ q : LaterW w8, q.w'.cell? ⟨X, 3, none⟩ = some (.int .i64 (i : Int)) := fun q => by rw [← hi]; exact (S8.below q.h).cell 1 3 rfl rfl
                  have c18 : ∀ q : LaterW w8, q.w'.cell? ⟨X, 18, none⟩ = some (.slice (some ad0) n cap) := fun q => (S8.below q.h).cell 1 18 rfl rfl
                  have x7 : ∀ q : LaterW w8, q.w'.cell? ⟨V, 7, none⟩ = some (.int .u16 a) := fun q => HX9.out q.w' q.h
                  have p10 : ∀ q : LaterW w8, q.w'.cell? ⟨(ad0.add (i * 15)).block, (ad0.add (i * 15)).off + 9 + 1, none⟩ = some (.int .i64 y.av) := fun q => by
                    obtain ⟨_, e0, -, -, h0⟩ := (HP.out.below (S8.below q.h).old (Nat.le_refl _)).cells HYY.out
                    cases e0
                    exact h0 9 _ rfl
                  clear hav hi hy hr0 hr2
                  have hii : (i : Int) < (n : Int) := by omega
                  have hiz : ¬ (n : Int) ≤ (i : Int) := by omega
                  have hi0 : (0 : Int) ≤ (i : Int) := by omega
                  have hd1 : decide ((0 : Int) ≤ (i : Int)) = true := by simp
                  have hd2 : decide ((i : Int) < (n : Int)) = true := by simp; omega
                  have hd3 : decide (i < n) = true := by simp; omega
                  refine region_later mixedL (by kernel_rfl) ?_
                  (refine BigFrame.wpQuiet_want (by kernel_rfl) (fun K hK => ?_); refine quiet_load_row 31 _ rfl X (by kernel_rfl) _ _ (0, 0) _ (S8.bkq 1 rfl) Tryd.underlying31 rfl (by kernel_rfl) ?_; refine hK _ ?_; clear hK; go_simp)
                  go_big_quiet_step ((go_at_call 25; with_reducible exact Calls.later (HI _).out))
                  repeat (go_big_quiet_step (fail))
                  refine wpQuiet_nil ?_
                  intro r
                  have R9 := Lib.hid (show _ ∧ _ from ⟨(S8.below r.h).tail, O8.below r.h⟩)
                  generalize r.w' = w9 at R9 ⊢
                  clear S8 O8
                  go_wp2
                  go_roundw
                  case rel => exact ⟨k + 1, by omega, by go_num, R9⟩
                  case measure => simp [intOf]; omega
      · have hki : ¬ (k : Int) < (m : Int) := by omega
        have BO := R.out.1.old
        clear R
        go_wp2
        go_ret
        exact ⟨rfl, BO⟩

end Go.Proofs.YtcamakkicmapcaaDoor
