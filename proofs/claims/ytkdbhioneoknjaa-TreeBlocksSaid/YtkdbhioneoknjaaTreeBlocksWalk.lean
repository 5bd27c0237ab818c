/- The law TreeBlocks, walked. -/
import Derived.Test.YtkdbhioneoknjaaTreeAwake
import Derived.Test.YtkdbhioneoknjaaTreeFit
import Derived.Test.YtkdbhioneoknjaaTreeUpdate
import Derived.Test.YtkdbhioneoknjaaTreeStates
import Derived.Test.YtkdbhioneoknjaaTreeSame
import Derived.Test.YtkdbhioneoknjaaTreeTwice
import Derived.Test.YtkdbhioneoknjaaLater
import Derived.Deep.DeepCutAuto
import Derived.LoopTactic
namespace Go.Proofs.Ytkdbhioneoknjaa
open Go.ChangeShapes Go.WideShapes Go.ChangeAt Go.RowKit
set_option linter.unusedVariables false
set_option linter.unusedSimpArgs false

set_option maxRecDepth 100000 in
set_option maxHeartbeats 2000000 in
theorem TreeBlocks_walk (t : Th) (A : Option Addr) (n cap : Nat) (L : List Po) (w : World) (ht : ThB t) (hL : L.length = n) (hn : n ≤ 9223372036854775807) (hz : A = none → cap = 0) (hb : ∀ x ∈ L, PoB x) (hp : PoAt w A w.heap.size L) :
    Calls Try.prog 6 #[.agg (lT t A n cap).toArray] w fun e w' => e = .returned (.bool true) ∧ Below w.heap.size w w' := by
  have HA := fun W => Lib.hid (awake_is W)
  have HB := Lib.hid hb
  have HTB := Lib.hid ht
  have HL := Lib.hid hL
  have HP := Lib.hid hp
  have HCZ := Lib.hid hz
  have HF := fun W (h : Below w.heap.size w W) => Lib.hid (fit_is t A n cap L HL hn W (Lib.hid ((HP.out.below h (Nat.le_refl _)).wide h.size)))
  clear hb hL hz hp ht hn
  obtain ⟨wb, hwb, S⟩ := hs_one w 31 (lT t A n cap)
  go_enter Try.func6, Try.ntmps6
  go_upto_region 1 with fail
  clear hwb
  obtain ⟨X, hX⟩ : ∃ X, w.heap.size = X := ⟨_, rfl⟩
  rw [hX] at S
  rw [hX]
  clear hX
  go_wp2_with fail
  (with_reducible refine (HA _).out.mono ?_); rintro e w1 ⟨rfl, b1⟩
  have S1 := S.below b1
  clear S b1
  have hx := S1.bk 0 rfl
  go_wp2_with (with_reducible refine wpList_load_rowG (by kernel_rfl) 31 (.tmp 1) rfl X (by kernel_rfl) _ _ (0, 0) _ hx Try.underlying31 rfl (by kernel_rfl) ?_)
  (with_reducible refine (HF _ S1.old).out.mono ?_); rintro e w2 ⟨q, rfl, hq, b2⟩
  have S2 := S1.below b2
  have HQ := Lib.hid hq
  clear S1 hx HF b2 hq
  cases q with
  | false =>
    go_wp2_with fail
    (with_reducible refine (HA _).out.mono ?_); rintro e w3 ⟨rfl, b3⟩
    have S3 := S2.below b3
    clear S2 b3
    go_wp2
    go_ret
    exact ⟨rfl, S3.old⟩
  | true =>
    have HN := Lib.hid (HQ.out rfl).1
    have HU := Lib.hid (HQ.out rfl).2
    clear HQ HA

    have hn2 : n ≤ 200 := by have := HN.out; omega
    go_upto_region 3 with fail
    have HUP := Lib.hid (update_is t A n cap L HL hn2 HB HCZ w2 (Lib.hid ((HP.out.below S2.old (Nat.le_refl _)).wide S2.old.size)))
    have hx := S2.bk 0 rfl
    go_wp2_with (with_reducible refine wpList_load_row rfl 31 (.tmp 1) rfl X (by kernel_rfl) _ _ (0, 0) _ hx Try.underlying31 rfl (by kernel_rfl) ?_)
    (with_reducible refine HUP.out.mono ?_); rintro e w3 ⟨D1, cap1, rfl, hz, k1⟩
    have HZ1 := Lib.hid hz
    have P1 := Lib.hid k1.ports
    have S3 := S2.below k1.old
    clear hx HUP k1 hz S2
    obtain ⟨T, hT⟩ : ∃ T, selectT t L = T := ⟨_, rfl⟩
    have hT1 : updT t L = T := hT
    have hT2 : updL t L = desL T L := by rw [← hT]; rfl
    rw [hT2] at P1
    rw [hT1]
    have HT := Lib.hid hT
    clear hT hT1 hT2
    have hlen : (desL T L).length = n := by rw [desL_len, HL.out]
    have HST := Lib.hid (states_is T D1 n cap1 (desL T L) (Lib.hid hlen) hn2 HZ1 w3 P1)
    have HLEN := Lib.hid hlen
    clear hlen
    go_wp2_with fail
    (with_reducible refine HST.out.mono ?_); rintro e w4 ⟨D, cap', rfl, hz, k1⟩
    have HZ := Lib.hid hz
    have S4 := TS.take S3 k1
    clear HST S3 k1 hz P1 HZ1
    obtain ⟨l0, hl0⟩ : ∃ l, lostB T (desL T L) n = l := ⟨_, rfl⟩
    rw [hl0]
    clear hl0
    go_upto_region 4 with (refine wpList_store_row rfl 31 _ _ rfl _ _ rfl rfl _ _ (heap_alloc_new _ _) (by kernel_rfl) (by kernel_rfl) (by kernel_rfl) ?_)
    rw [alloc_row]
    have S5 := S4.al rfl 31 (lT T D n cap')
    obtain ⟨U, hhU⟩ : ∃ g, w4.heap.size = g := ⟨_, rfl⟩
    rw [hhU] at S5 ⊢
    obtain ⟨w5, hwU⟩ : ∃ v, w4.alloc (.cells (lT T D n cap').toArray 31) = v := ⟨_, rfl⟩
    rw [hwU] at S5 ⊢
    clear hwU hhU S4

    go_wp2
    go_loopw [5] (fun i wr => ∃ k : Nat, k ≤ n ∧ i = .int .i64 k ∧ TS w [(U, 31, lT T D n cap'), (X, 31, lT t A n cap)] D (statesL T (desL T L)) wr) (fun i _ => n - (intOf i).toNat)
    case atStart => exact ⟨0, Nat.zero_le _, rfl, S5⟩
    case round =>
      clear S5
      obtain ⟨k, hk, rfl, S⟩ := hrel
      by_cases hkn : k < n
      · have hki : (k : Int) < (n : Int) := by omega
        have hkz : ¬ (n : Int) ≤ (k : Int) := by omega
        obtain ⟨x, hx⟩ := po_at HL.out hkn
        have HX := Lib.hid hx
        have HY := Lib.hid (show (desL T L)[k]? = some (desP T x) from allL_at hx)
        have HZ' := Lib.hid (show (statesL T (desL T L))[k]? = some (stP T k (desP T x)).1 from allL_at HY.out)
        have HSA := Lib.hid (st_all T k (desP T x))
        clear hx
        obtain ⟨y, hy⟩ : ∃ y, desP T x = y := ⟨_, rfl⟩
        have hys : y.st = x.st := by rw [← hy]; exact desP_st T x
        rw [hy] at HY HZ' HSA
        clear hy
        obtain ⟨z, hzz⟩ : ∃ z, (stP T k y).1 = z := ⟨_, rfl⟩
        rw [hzz] at HZ' HSA
        clear hzz
        obtain ⟨fo, hfo⟩ : ∃ f, foreB T k y = f := ⟨_, rfl⟩
        rw [hfo] at HSA
        have HFO := Lib.hid hfo
        clear hfo
        have e2 : (z.st == 0) = (x.st == 0) := by
          have := HSA.out.2.1
          rw [hys] at this
          exact Bool.eq_iff_iff.2 (by simpa using this)
        have HE2 := Lib.hid e2
        clear e2 hys
        obtain ⟨g, rfl, -⟩ := S.at HZ'.out
        have hat : ∀ i v, (lP z)[i]? = some v → wr.cell? ((⟨g, k * 15, none⟩ : Addr).add i) = some v := fun i v hv => by rw [addr_add]; exact S.port_cell HZ'.out i hv
        have c18 := S.hs.cell 0 18 rfl rfl
        go_upto_region 8 with (first | (with_reducible refine wpList_load_at rfl 49 (.tmp 34) rfl ⟨g, k * 15, none⟩ (by kernel_rfl) _ _ hat Try.underlying49 rfl (by kernel_rfl) ?_) | (refine wpList_store_row rfl 49 _ _ rfl _ _ rfl rfl _ _ (heap_alloc_new _ _) (by kernel_rfl) (by kernel_rfl) (by kernel_rfl) ?_))
        rw [alloc_row]
        have S1 := S.al rfl 49 (lP z)
        obtain ⟨Z, hhZ⟩ : ∃ g, wr.heap.size = g := ⟨_, rfl⟩
        rw [hhZ] at S1 ⊢
        obtain ⟨v1, hwZ⟩ : ∃ v, wr.alloc (.cells (lP z).toArray 49) = v := ⟨_, rfl⟩
        rw [hwZ] at S1 ⊢
        clear hwZ hhZ S

        clear hat c18
        have HRW : ∀ v, Below w.heap.size w v → Hid (PoAt v A w.heap.size L) := fun v b => Lib.hid (HP.out.below b (Nat.le_refl _))
        try simp only [Act.put]
        have c3 := S1.hs.cell 1 3 rfl rfl
        have c0 := S1.hs.cell 1 0 rfl rfl
        go_cut [7] (fun u wx => u = .bool fo ∧ TS w [(Z, 49, lP z), (U, 31, lT T (some ⟨g, 0, none⟩) n cap'), (X, 31, lT t A n cap)] (some ⟨g, 0, none⟩) (statesL T (desL T L)) wx)
        case first =>
          have hfo := HFO.out
          unfold foreB at hfo
          by_cases hrp : (k : Int) = T.rp
          · have hrp' : ((k : Int) == T.rp) = true := by simp [hrp]
            rw [show decide ((k : Int) = T.rp) = true by simp [hrp]] at hfo
            obtain rfl : true = fo := hfo
            clear hrp
            go_wp2_with fail
            go_meet
            exact ⟨rfl, S1⟩
          · have hrp' : ((k : Int) == T.rp) = false := by simp [hrp]
            rw [show decide ((k : Int) = T.rp) = false by simp [hrp]] at hfo
            clear hrp
            have HD := fun W => Lib.hid (desig_row z T.ow fo (Lib.hid (show desB z T.ow = fo by rw [HSA.out.1]; exact hfo)) W)
            clear hfo
            have hz := S1.hs.bk 0 rfl
            go_wp2_with (first | (with_reducible refine wpList_load_rowG (by kernel_rfl) 49 (.tmp 6) rfl Z (by kernel_rfl) _ _ (0, 0) _ hz Try.underlying49 rfl (by kernel_rfl) ?_) | fail)
            (with_reducible refine (HD _).out.mono ?_); rintro e v2 ⟨rfl, b2⟩
            have T2 := S1.below b2
            clear S1 c0 c3 hz HD b2
            go_wp2_with fail
            go_meet
            exact ⟨rfl, T2⟩
        case rest =>
          clear S1 c0 c3
          obtain ⟨rfl, S1⟩ := hcut
          rename World => v2
          obtain ⟨ad, hA, -, h0, h1⟩ := (HRW _ S1.old).out.cells HX.out
          subst hA
          have p1 : v2.cell? ⟨(ad.add (k * 15)).block, (ad.add (k * 15)).off + 1, none⟩ = some (.int .i64 x.st) := h1 0 _ rfl
          have c18 := S1.hs.cell 2 18 rfl rfl
          clear h0 h1
          by_cases s0 : x.st < 0
          · go_wp2
            go_ret
            exact ⟨rfl, S1.old⟩
          by_cases s4 : 4 < x.st
          · go_wp2
            go_ret
            exact ⟨rfl, S1.old⟩
          go_upto_region 11 with fail
          clear s0 s4 c18 p1
          obtain ⟨r0, hr0⟩ : ∃ r, (z.st == 0) = r := ⟨_, rfl⟩
          have bx : (x.st == 0) = r0 := by rw [← HE2.out]; exact hr0
          have b1 : (z.st != 0) = !r0 := by rw [← hr0]; rfl
          have b2 : r0 = false → (z.st == 1) = !fo := fun e => by
            have h0 : z.st ≠ 0 := by rw [e] at hr0; simpa using hr0
            have h := HSA.out.2.2.1 h0
            cases fo with
            | true => have : z.st ≠ 1 := fun q => by have := h.1 q; cases this
                      simp [this]
            | false => have : z.st = 1 := h.2 rfl
                       simp [this]
          have b3 : fo = false → z.pe = false ∧ z.ak = false := HSA.out.2.2.2.1
          have HB0 := Lib.hid hr0
          have HB1 := Lib.hid b1
          have HB2 := Lib.hid b2
          have HB3 := Lib.hid b3
          have HBX := Lib.hid bx
          clear hr0 bx b1 b2 b3
          have z1 := S1.hs.cell 0 1 rfl rfl
          cases r0
          all_goals cases fo
          all_goals
            have b0 := HB0.out
            have b1 := HB1.out
            have bx := HBX.out
            try have b2 := HB2.out rfl
            try obtain ⟨b4, b5⟩ := HB3.out rfl
            simp only [Bool.not_true, Bool.not_false] at b1
            try simp only [Bool.not_true, Bool.not_false] at b2
            go_upto_region 13 with fail
            clear z1
            have z1 := fun q : LaterW v2 => (S1.below q.h).hs.cell 0 1 rfl rfl
            have z7 := fun q : LaterW v2 => (S1.below q.h).hs.cell 0 7 rfl rfl
            have z8 := fun q : LaterW v2 => (S1.below q.h).hs.cell 0 8 rfl rfl
            try rw [b5] at z7
            try rw [b4] at z8
            have c18 := fun q : LaterW v2 => (S1.below q.h).hs.cell 2 18 rfl rfl
            have p1 : ∀ q : LaterW v2, q.w'.cell? ⟨(ad.add (k * 15)).block, (ad.add (k * 15)).off + 1, none⟩ = some (.int .i64 x.st) := fun q => by
              obtain ⟨a', e, -, -, h1⟩ := (HRW _ (S1.below q.h).old).out.cells HX.out
              obtain rfl : ad = a' := Option.some.inj e
              exact h1 0 _ rfl
            refine region_later mixedL (by kernel_rfl) ?_
            repeat (go_big_quiet_step (fail))
            refine wpQuiet_nil ?_
            intro v hv
            obtain ⟨r, rfl⟩ := hv
            have T9 := S1.below r.h
            generalize r.w' = w9 at T9 ⊢
            clear S1 z1 z7 z8 c18 p1 b0 b1 bx
            go_wp2
            go_roundw
            case rel => exact ⟨k + 1, by omega, by go_num, T9.tail⟩
            case measure => simp [intOf]; omega
      · have hki : ¬ (k : Int) < (n : Int) := by omega
        have hlen2 : (statesL T (desL T L)).length = n := by rw [statesL, allL_len, HLEN.out]
        have HST := Lib.hid (states_is T D n cap' (statesL T (desL T L)) (Lib.hid hlen2) hn2 HZ wr (Lib.hid S.ports))
        rw [states_twice, lost_twice] at HST
        have HLEN2 := Lib.hid hlen2
        clear hlen2
        have c18 := S.hs.cell 0 18 rfl rfl
        go_upto_region 15 with fail
        clear c18
        have hx := S.hs.bk 0 rfl
        go_wp2_with (with_reducible refine wpList_load_row rfl 31 (.tmp 3) rfl U (by kernel_rfl) _ _ (0, 0) _ hx Try.underlying31 rfl (by kernel_rfl) ?_)
        (with_reducible refine HST.out.mono ?_); rintro e v1 ⟨D2, cap2, rfl, -, k2⟩
        have P2 := k2.rowT
        have S1 := S.below k2.old
        clear hx HST k2 S
        go_upto_region 16 with (refine wpList_store_row rfl 31 _ _ rfl _ _ rfl rfl _ _ (heap_alloc_new _ _) (by kernel_rfl) (by kernel_rfl) (by kernel_rfl) ?_)
        rw [alloc_row]
        have S2 := S1.al rfl 31 (lT T D2 n cap2)
        obtain ⟨F, hhF⟩ : ∃ g, v1.heap.size = g := ⟨_, rfl⟩
        rw [hhF] at S2 ⊢
        obtain ⟨v2, hwF⟩ : ∃ v, v1.alloc (.cells (lT T D2 n cap2).toArray 31) = v := ⟨_, rfl⟩
        rw [hwF] at S2 ⊢
        have hwF' := hwF
        clear hwF hhF S1

        have P3 := P2.below (new_below v1 (.cells (lT T D2 n cap2).toArray 31))
        rw [hwF'] at P3
        clear P2 hwF'
        have HSM := Lib.hid (same_alike T D2 D n cap2 cap' (statesL T (desL T L)) HLEN2 hn2 v2 (Lib.hid P3.ports) (Lib.hid S2.ports))
        have hx := S2.hs.bk 0 rfl
        have hy := S2.hs.bk 1 rfl
        go_wp2_with (first | (with_reducible refine wpList_load_row rfl 31 (.tmp 8) rfl F (by kernel_rfl) _ _ (0, 0) _ hx Try.underlying31 rfl (by kernel_rfl) ?_) | (with_reducible refine wpList_load_row rfl 31 (.tmp 3) rfl U (by kernel_rfl) _ _ (0, 0) _ hy Try.underlying31 rfl (by kernel_rfl) ?_))
        (with_reducible refine HSM.out.mono ?_); rintro e v3 ⟨rfl, b3⟩
        have S9 := S2.below b3
        clear S2 hx hy HSM b3
        go_wp2
        go_ret
        exact ⟨rfl, S9.old⟩

end Go.Proofs.Ytkdbhioneoknjaa
