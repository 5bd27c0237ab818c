/- The law TreeHolds, walked. -/
import Derived.Test.YtkdbhioneoknjaaTreeAwake
import Derived.Test.YtkdbhioneoknjaaTreeFit
import Derived.Test.YtkdbhioneoknjaaTreeUpdate
import Derived.Test.YtkdbhioneoknjaaTreeSame
import Derived.Test.YtkdbhioneoknjaaTreeTwice
import Derived.Test.YtkdbhioneoknjaaLater
import Derived.Deep.DeepCutAuto
import Derived.LoopTactic
namespace Go.Proofs.Ytkdbhioneoknjaa
open Go.ChangeShapes Go.WideShapes Go.ChangeAt Go.RowKit
set_option linter.unusedVariables false
set_option linter.unusedSimpArgs false

theorem sel_bd {t : Th} {L : List Po} (ht : ThB t) (hb : ∀ x ∈ L, PoB x) : (0 ≤ (selectT t L).ow ∧ (selectT t L).ow ≤ 18446744073709551615) ∧ (0 ≤ (selectT t L).ro ∧ (selectT t L).ro ≤ 18446744073709551615) ∧ (0 ≤ (selectT t L).co ∧ (selectT t L).co ≤ 4294967295) := by
  obtain ⟨a, b, c, d⟩ := ht
  rcases sel_cases t L with ⟨_, e, _⟩ | ⟨j, p, hj, _, e, _⟩
  · rw [e]
    exact ⟨a, a, by show 0 ≤ (0 : Int) ∧ (0 : Int) ≤ 4294967295; omega⟩
  · rw [e]
    have h := hb p (List.mem_of_getElem? hj)
    unfold PoB at h
    exact ⟨a, h.2.2.2.1.1, by show 0 ≤ farI p.hc p.co ∧ farI p.hc p.co ≤ 4294967295; unfold farI; omega⟩
theorem des_bd {T : Th} {x : Po} (ht : (0 ≤ T.ow ∧ T.ow ≤ 18446744073709551615) ∧ (0 ≤ T.ro ∧ T.ro ≤ 18446744073709551615) ∧ (0 ≤ T.co ∧ T.co ≤ 4294967295)) (h : PoB x) : PoB (desP T x) := by
  cases e : takesB T x with
  | false => rw [desP_no e]; exact h
  | true =>
    rw [desP_yes e]
    unfold PoB becomeP at *
    exact ⟨h.1, h.2.1, h.2.2.1, ⟨ht.2.1, ht.2.2, ht.1, h.1⟩, h.2.2.2.2⟩
theorem des_bds {t : Th} {L : List Po} (ht : ThB t) (hb : ∀ x ∈ L, PoB x) : ∀ x ∈ desL (selectT t L) L, PoB x := by
  intro y hy
  unfold desL allL at hy
  obtain ⟨i, hi, e⟩ := List.mem_mapIdx.1 hy
  rw [← e]
  exact des_bd (sel_bd ht hb) (hb _ (List.getElem_mem hi))

set_option maxRecDepth 100000 in
set_option maxHeartbeats 2000000 in
theorem TreeHolds_walk (t : Th) (A : Option Addr) (n cap : Nat) (L : List Po) (w : World) (ht : ThB t) (hL : L.length = n) (hn : n ≤ 9223372036854775807) (hz : A = none → cap = 0) (hb : ∀ x ∈ L, PoB x) (hp : PoAt w A w.heap.size L) :
    Calls Try.prog 5 #[.agg (lT t A n cap).toArray] w fun e w' => e = .returned (.bool true) ∧ Below w.heap.size w w' := by
  have HA := fun W => Lib.hid (awake_is W)
  have HB := Lib.hid hb
  have HTB := Lib.hid ht
  have HL := Lib.hid hL
  have HP := Lib.hid hp
  have HCZ := Lib.hid hz
  have HF := fun W (h : Below w.heap.size w W) => Lib.hid (fit_is t A n cap L HL hn W (Lib.hid ((HP.out.below h (Nat.le_refl _)).wide h.size)))
  clear hb hL hz hp ht hn
  obtain ⟨wb, hwb, S⟩ := hs_one w 31 (lT t A n cap)
  go_enter Try.func5, Try.ntmps5
  go_upto_region 1 with fail
  clear hwb
  obtain ⟨X, hX⟩ : ∃ X, w.heap.size = X := ⟨_, rfl⟩
  rw [hX] at S
  rw [hX]
  clear hX
  go_wp2_with fail
  (with_reducible refine (HA _).out.mono ?_); rintro e w1 ⟨rfl, b1⟩
  have S1 := S.below b1
  clear S b1
  have hx := S1.bk 0 rfl
  go_wp2_with (with_reducible refine wpList_load_rowG (by kernel_rfl) 31 (.tmp 1) rfl X (by kernel_rfl) _ _ (0, 0) _ hx Try.underlying31 rfl (by kernel_rfl) ?_)
  (with_reducible refine (HF _ S1.old).out.mono ?_); rintro e w2 ⟨q, rfl, hq, b2⟩
  have S2 := S1.below b2
  have HQ := Lib.hid hq
  clear S1 hx HF b2 hq
  cases q with
  | false =>
    go_wp2_with fail
    (with_reducible refine (HA _).out.mono ?_); rintro e w3 ⟨rfl, b3⟩
    have S3 := S2.below b3
    clear S2 b3
    go_wp2
    go_ret
    exact ⟨rfl, S3.old⟩
  | true =>
    have HN := Lib.hid (HQ.out rfl).1
    have HU := Lib.hid (HQ.out rfl).2
    clear HQ HA

    have hn2 : n ≤ 200 := by have := HN.out; omega
    go_wp2
    go_loopw [3] (fun i wr => ∃ k : Nat, k ≤ n ∧ i = .int .i64 k ∧ wr = w2 ∧ Hid (∀ (j : Nat) x, j < k → L[j]? = some x → CostB x)) (fun i _ => n - (intOf i).toNat)
    case atStart => exact ⟨0, Nat.zero_le _, rfl, rfl, Lib.hid (fun j x h => by omega)⟩
    case round =>
      obtain ⟨k, hk, rfl, rfl, hck⟩ := hrel
      have c18 := S2.cell 0 18 rfl rfl
      by_cases hkn : k < n
      · obtain ⟨x, hx⟩ := po_at HL.out hkn
        have hki : (k : Int) < (n : Int) := by omega
        have hkz : ¬ (n : Int) ≤ (k : Int) := by omega
        have HX := Lib.hid hx
        obtain ⟨ad, rfl, -, h0, h1⟩ := (HP.out.below S2.old (Nat.le_refl _)).cells hx
        have p2 : wr.cell? ⟨(ad.add (k * 15)).block, (ad.add (k * 15)).off + 2, none⟩ = some (.int .u32 x.co) := h1 1 _ rfl
        have p4 : wr.cell? ⟨(ad.add (k * 15)).block, (ad.add (k * 15)).off + 3 + 1, none⟩ = some (.int .u32 x.hc) := h1 3 _ rfl
        have hPB := Lib.hid (HB.out x (List.mem_of_getElem? hx))
        clear hx h0 h1
        by_cases k1 : x.co < 1
        · go_wp2
          go_ret
          exact ⟨rfl, S2.old⟩
        by_cases k2 : 65535 < x.co
        · go_wp2
          go_ret
          exact ⟨rfl, S2.old⟩
        by_cases k3 : 2147483648 ≤ x.hc
        · go_wp2
          go_ret
          exact ⟨rfl, S2.old⟩
        go_wp2
        go_roundw
        case rel =>
          refine ⟨k + 1, by omega, by go_num, (by first | trivial | rfl), Lib.hid (fun j y hj hy => ?_)⟩
          by_cases e : j = k
          · subst e
            rw [HX.out] at hy
            cases hy
            have := hPB.out
            unfold PoB at this
            unfold CostB
            omega
          · exact hck.out j y (by omega) hy
        case measure => simp [intOf]; omega
      · have hkz : ¬ (k : Int) < (n : Int) := by omega
        have HK : Hid (∀ x ∈ L, CostB x) := Lib.hid (fun x hx => by
          obtain ⟨j, hj, e⟩ := List.getElem_of_mem hx
          exact hck.out j x (by have := HL.out; omega) (by rw [List.getElem?_eq_getElem hj, e]))
        clear hck
        go_upto_region 8 with fail
        clear c18
        have HUP := Lib.hid (update_is t A n cap L HL hn2 HB HCZ wr (Lib.hid ((HP.out.below S2.old (Nat.le_refl _)).wide S2.old.size)))
        have hx := S2.bk 0 rfl
        go_wp2_with (with_reducible refine wpList_load_row rfl 31 (.tmp 1) rfl X (by kernel_rfl) _ _ (0, 0) _ hx Try.underlying31 rfl (by kernel_rfl) ?_)
        (with_reducible refine HUP.out.mono ?_); rintro e w3 ⟨D, cap', rfl, hz, k1⟩
        have S3 := TS.take S2 k1
        have HZ := Lib.hid hz
        clear hx HUP k1 hz S2
        obtain ⟨T, hT⟩ : ∃ T, selectT t L = T := ⟨_, rfl⟩
        have HT := Lib.hid hT
        have hT1 : updT t L = T := hT
        have hT2 : updL t L = desL T L := by rw [← hT]; rfl
        rw [hT2] at S3
        rw [hT1]
        clear hT hT1 hT2
        go_upto_region 9 with (refine wpList_store_row rfl 31 _ _ rfl _ _ rfl rfl _ _ (heap_alloc_new _ _) (by kernel_rfl) (by kernel_rfl) (by kernel_rfl) ?_)
        rw [alloc_row]
        have S4 := S3.al rfl 31 (lT T D n cap')
        obtain ⟨U, hhU⟩ : ∃ g, w3.heap.size = g := ⟨_, rfl⟩
        rw [hhU] at S4 ⊢
        obtain ⟨w4, hwU⟩ : ∃ v, w3.alloc (.cells (lT T D n cap').toArray 31) = v := ⟨_, rfl⟩
        rw [hwU] at S4 ⊢
        clear hwU hhU S3

        have hu := upd_is t L
        rw [HT.out] at hu
        have how : T.ow = t.ow := by rw [← HT.out]; exact sel_ow t L
        have HOW := Lib.hid how
        have hu2 : (T.rp = -1 ∧ T.ro = T.ow) ∨ (∃ j : Nat, j < n ∧ T.rp = j ∧ T.ro < T.ow) := by
          rw [how]
          rcases hu with h | ⟨j, h1, h2, h3⟩
          · exact .inl h
          · exact .inr ⟨j, by have := HL.out; omega, h2, h3⟩
        obtain ⟨q, hq⟩ : ∃ q, decide (0 ≤ T.rp) = q := ⟨_, rfl⟩
        have e1 : decide (T.ro = T.ow) = !q := by
          rw [← hq]
          rcases hu2 with ⟨h, h'⟩ | ⟨j, h1, h2, h3⟩
          · simp [h, h']
          · have : T.ro ≠ T.ow := by omega
            simp [h2, this]
        have g1 : decide ((n : Int) ≤ T.rp) = false := by
          rw [decide_eq_false_iff_not]
          rcases hu2 with ⟨h, h'⟩ | ⟨j, h1, h2, h3⟩ <;> omega
        have g2 : decide (T.ow < T.ro) = false := by
          rw [decide_eq_false_iff_not]
          rcases hu2 with ⟨h, h'⟩ | ⟨j, h1, h2, h3⟩ <;> omega
        clear hu hu2 how
        have HI := fun W => Lib.hid (isroot_is T D n cap' (!q) (Lib.hid e1) W)
        have c0 := fun q : LaterW w4 => (S4.below q.h).hs.cell 0 0 rfl rfl
        have c1 := fun q : LaterW w4 => (S4.below q.h).hs.cell 0 1 rfl rfl
        have c3 := fun q : LaterW w4 => (S4.below q.h).hs.cell 0 3 rfl rfl
        have c18 := fun q : LaterW w4 => (S4.below q.h).hs.cell 0 18 rfl rfl
        clear e1
        try simp only [Act.put]
        go_cut [71] (fun u wx => u = .bool false ∧ TS w [(U, 31, lT T D n cap'), (X, 31, lT t A n cap)] D (desL T L) wx)
        case first =>
          cases q
          all_goals
            refine region_later mixedL (by kernel_rfl) ?_
            try simp only [Act.put]
            go_big_quiet_step (fail)
            go_big_quiet_step (fail)
            go_big_quiet_step (fail)
            (refine BigFrame.wpQuiet_want (by kernel_rfl) (fun K hK => ?_); refine quiet_load_row 31 _ rfl U (by kernel_rfl) _ _ (0, 0) _ ((S4.hs.bkq 0 rfl)) Try.underlying31 rfl (by kernel_rfl) ?_; refine hK _ ?_; clear hK; go_simp)
            go_big_quiet_step ((go_at_call 16; with_reducible exact Calls.later (HI _).out))
            repeat (go_big_quiet_step (fail))
            refine wpQuiet_nil ?_
            intro r
            have S5 := S4.below r.h
            generalize r.w' = w5 at S5 ⊢
            go_wp2_with fail
            go_meet
            exact ⟨rfl, S5⟩
        case rest =>
          obtain ⟨rfl, S5⟩ := hcut
          clear S4 HI c0 c1 c3 c18 g1 g2 hq
          go_wp2
          go_loopw [5] (fun i wv => ∃ k : Nat, k ≤ n ∧ i = .int .i64 k ∧ TS w [(U, 31, lT T D n cap'), (X, 31, lT t A n cap)] D (desL T L) wv) (fun i _ => n - (intOf i).toNat)
          case atStart => exact ⟨0, Nat.zero_le _, rfl, S5⟩
          case round =>
            clear S5
            obtain ⟨k, hk, rfl, S⟩ := hrel
            by_cases hkn : k < n
            · have hki : (k : Int) < (n : Int) := by omega
              have hkz : ¬ (n : Int) ≤ (k : Int) := by omega
              obtain ⟨x, hx⟩ := po_at HL.out hkn
              have HX := Lib.hid hx
              have HY := Lib.hid (show (desL T L)[k]? = some (desP T x) from allL_at hx)
              have hur : (k : Int) = (selectT t L).rp → _ := fun h => upd_root HK.out hx h
              have hul : x.st ≠ 0 → desB x t.ow = false → ¬ x.hr < (selectT t L).ro := fun h1 h2 => upd_least hx h1 h2
              rw [HT.out] at hur hul
              have HUR := Lib.hid hur
              have HUL := Lib.hid hul
              clear hur hul hx
              obtain ⟨y, hy⟩ : ∃ y, desP T x = y := ⟨_, rfl⟩
              rw [hy] at HY
              have HYX := Lib.hid hy
              clear hy
              obtain ⟨g, rfl, -⟩ := S.at HY.out
              have hat : ∀ i v, (lP y)[i]? = some v → wr.cell? ((⟨g, k * 15, none⟩ : Addr).add i) = some v := fun i v hv => by rw [addr_add]; exact S.port_cell HY.out i hv
              have c18 := S.hs.cell 0 18 rfl rfl
              go_upto_region 15 with (first | (with_reducible refine wpList_load_at rfl 49 (.tmp 82) rfl ⟨g, k * 15, none⟩ (by kernel_rfl) _ _ hat Try.underlying49 rfl (by kernel_rfl) ?_) | (refine wpList_store_row rfl 49 _ _ rfl _ _ rfl rfl _ _ (heap_alloc_new _ _) (by kernel_rfl) (by kernel_rfl) (by kernel_rfl) ?_))
              rw [alloc_row]
              have S1 := S.al rfl 49 (lP y)
              obtain ⟨Z, hhZ⟩ : ∃ g, wr.heap.size = g := ⟨_, rfl⟩
              rw [hhZ] at S1 ⊢
              obtain ⟨v1, hwZ⟩ : ∃ v, wr.alloc (.cells (lP y).toArray 49) = v := ⟨_, rfl⟩
              rw [hwZ] at S1 ⊢
              clear hwZ hhZ S

              clear hat c18
              have c3 := S1.hs.cell 1 3 rfl rfl
              have HRW : ∀ v, Below w.heap.size w v → Hid (PoAt v A w.heap.size L) := fun v b => Lib.hid (HP.out.below b (Nat.le_refl _))
              by_cases hrp : (k : Int) = T.rp
              · obtain ⟨r1, r2, r3, r4⟩ := HUR.out hrp
                obtain rfl : x = y := by rw [← HYX.out, r1]
                have hrp' : ((k : Int) == T.rp) = true := by simp [hrp]
                clear hrp
                have HD := fun W => Lib.hid (desig_row x T.ow false (Lib.hid (show desB x T.ow = false by rw [HOW.out]; exact r2)) W)
                have hst : (x.st == 0) = false := by simp [r3]
                have hro : (x.hr != T.ro) = false := by simp [r4]
                have c0 := S1.hs.cell 1 0 rfl rfl
                have hz := S1.hs.bk 0 rfl
                clear r1 r2 r3 r4
                go_wp2_with (first | (with_reducible refine wpList_load_rowG (by kernel_rfl) 49 (.tmp 6) rfl Z (by kernel_rfl) _ _ (0, 0) _ hz Try.underlying49 rfl (by kernel_rfl) ?_) | fail)
                (with_reducible refine (HD _).out.mono ?_); rintro e v2 ⟨rfl, b2⟩
                have T2 := S1.below b2
                clear S1 c0 c3 hz HD b2
                have z1 := T2.hs.cell 0 1 rfl rfl
                have z3 := T2.hs.cell 0 3 rfl rfl
                have c1 := T2.hs.cell 1 1 rfl rfl
                go_upto_region 17 with fail
                clear z1 z3 c1 hst hro hrp'
                obtain ⟨ad, hA, -⟩ := (HRW _ T2.old).out.cells HX.out
                subst hA
                have hat2 := (HRW _ T2.old).out.at HX.out rfl
                have c18 := T2.hs.cell 2 18 rfl rfl
                go_upto_region 18 with (first | (with_reducible refine wpList_load_at rfl 49 (.tmp 110) rfl (ad.add (k * 15)) (by kernel_rfl) _ _ hat2 Try.underlying49 rfl (by kernel_rfl) ?_) | (refine wpList_store_row rfl 49 _ _ rfl _ _ rfl rfl _ _ (heap_alloc_new _ _) (by kernel_rfl) (by kernel_rfl) (by kernel_rfl) ?_))
                rw [alloc_row]
                have T3 := T2.al rfl 49 (lP x)
                obtain ⟨Q, hhQ⟩ : ∃ g, v2.heap.size = g := ⟨_, rfl⟩
                rw [hhQ] at T3 ⊢
                obtain ⟨v4, hwQ⟩ : ∃ v, v2.alloc (.cells (lP x).toArray 49) = v := ⟨_, rfl⟩
                rw [hwQ] at T3 ⊢
                clear hwQ hhQ T2

                clear hat2 c18
                have z1 := T3.hs.cell 0 1 rfl rfl
                by_cases hs0 : x.st = 0
                · have hst2 : (x.st != 0) = false := by simp [hs0]
                  have T9 := T3
                  clear T3
                  go_wp2
                  go_roundw
                  case rel => exact ⟨k + 1, by omega, by go_num, T9.tail.tail⟩
                  case measure => simp [intOf]; omega
                · have hst2 : (x.st != 0) = true := by simp [hs0]
                  obtain ⟨d, hd⟩ : ∃ d, desB x t.ow = d := ⟨_, rfl⟩
                  have HD2 := fun W => Lib.hid (desig_row x t.ow d (Lib.hid hd) W)
                  have HDD := Lib.hid hd
                  have HS0 := Lib.hid hs0
                  have c0 := T3.hs.cell 3 0 rfl rfl
                  have hz := T3.hs.bk 0 rfl
                  clear hd hs0
                  go_wp2_with (first | (with_reducible refine wpList_load_rowG (by kernel_rfl) 49 (.tmp 7) rfl Q (by kernel_rfl) _ _ (0, 0) _ hz Try.underlying49 rfl (by kernel_rfl) ?_) | fail)
                  (with_reducible refine (HD2 _).out.mono ?_); rintro e v5 ⟨rfl, b5⟩
                  have T9 := T3.below b5
                  clear T3 c0 z1 hz HD2 b5
                  cases d with
                  | true =>
                    go_wp2
                    go_roundw
                    case rel => exact ⟨k + 1, by omega, by go_num, T9.tail.tail⟩
                    case measure => simp [intOf]; omega
                  | false =>
                    have hlt := HUL.out HS0.out HDD.out
                    have z3 := T9.hs.cell 0 3 rfl rfl
                    have c1 := T9.hs.cell 2 1 rfl rfl
                    go_wp2
                    go_roundw
                    case rel => exact ⟨k + 1, by omega, by go_num, T9.tail.tail⟩
                    case measure => simp [intOf]; omega
              · have hrp' : ((k : Int) == T.rp) = false := by simp [hrp]
                clear hrp
                have T2 := S1
                clear S1
                go_upto_region 17 with fail
                clear c3 hrp'
                obtain ⟨ad, hA, -⟩ := (HRW _ T2.old).out.cells HX.out
                subst hA
                have hat2 := (HRW _ T2.old).out.at HX.out rfl
                have c18 := T2.hs.cell 2 18 rfl rfl
                go_upto_region 18 with (first | (with_reducible refine wpList_load_at rfl 49 (.tmp 110) rfl (ad.add (k * 15)) (by kernel_rfl) _ _ hat2 Try.underlying49 rfl (by kernel_rfl) ?_) | (refine wpList_store_row rfl 49 _ _ rfl _ _ rfl rfl _ _ (heap_alloc_new _ _) (by kernel_rfl) (by kernel_rfl) (by kernel_rfl) ?_))
                rw [alloc_row]
                have T3 := T2.al rfl 49 (lP x)
                obtain ⟨Q, hhQ⟩ : ∃ g, v1.heap.size = g := ⟨_, rfl⟩
                rw [hhQ] at T3 ⊢
                obtain ⟨v4, hwQ⟩ : ∃ v, v1.alloc (.cells (lP x).toArray 49) = v := ⟨_, rfl⟩
                rw [hwQ] at T3 ⊢
                clear hwQ hhQ T2

                clear hat2 c18
                have z1 := T3.hs.cell 0 1 rfl rfl
                by_cases hs0 : x.st = 0
                · have hst2 : (x.st != 0) = false := by simp [hs0]
                  have T9 := T3
                  clear T3
                  go_wp2
                  go_roundw
                  case rel => exact ⟨k + 1, by omega, by go_num, T9.tail.tail⟩
                  case measure => simp [intOf]; omega
                · have hst2 : (x.st != 0) = true := by simp [hs0]
                  obtain ⟨d, hd⟩ : ∃ d, desB x t.ow = d := ⟨_, rfl⟩
                  have HD2 := fun W => Lib.hid (desig_row x t.ow d (Lib.hid hd) W)
                  have HDD := Lib.hid hd
                  have HS0 := Lib.hid hs0
                  have c0 := T3.hs.cell 3 0 rfl rfl
                  have hz := T3.hs.bk 0 rfl
                  clear hd hs0
                  go_wp2_with (first | (with_reducible refine wpList_load_rowG (by kernel_rfl) 49 (.tmp 7) rfl Q (by kernel_rfl) _ _ (0, 0) _ hz Try.underlying49 rfl (by kernel_rfl) ?_) | fail)
                  (with_reducible refine (HD2 _).out.mono ?_); rintro e v5 ⟨rfl, b5⟩
                  have T9 := T3.below b5
                  clear T3 c0 z1 hz HD2 b5
                  cases d with
                  | true =>
                    go_wp2
                    go_roundw
                    case rel => exact ⟨k + 1, by omega, by go_num, T9.tail.tail⟩
                    case measure => simp [intOf]; omega
                  | false =>
                    have hlt := HUL.out HS0.out HDD.out
                    have z3 := T9.hs.cell 0 3 rfl rfl
                    have c1 := T9.hs.cell 2 1 rfl rfl
                    go_wp2
                    go_roundw
                    case rel => exact ⟨k + 1, by omega, by go_num, T9.tail.tail⟩
                    case measure => simp [intOf]; omega
            · have hke0 : True := trivial
              have e1 : selectT T (desL T L) = T := by
                have := select_twice (t := t) HU.out HK.out
                rwa [HT.out] at this
              have e2 : updL T (desL T L) = desL T L := by unfold updL; rw [e1, desL_twice]
              have hlen : (desL T L).length = n := by rw [desL_len, HL.out]
              have hpb : ∀ x ∈ desL T L, PoB x := by
                have := des_bds HTB.out HB.out
                rwa [HT.out] at this
              have HUP2 := fun W (b : Below wr.heap.size wr W) => Lib.hid (show Calls _ _ _ W (TOut W T n (desL T L)) from by
                have h := update_is T D n cap' (desL T L) (Lib.hid hlen) hn2 (Lib.hid hpb) HZ W (Lib.hid (S.below b).ports)
                have e3 : updT T (desL T L) = T := e1
                rw [e2, e3] at h
                exact h)
              have HLEN := Lib.hid hlen
              clear e1 e2 hlen hpb
              have hki : ¬ (k : Int) < (n : Int) := by omega
              have c18 := S.hs.cell 0 18 rfl rfl
              go_upto_region 20 with fail
              clear c18
              refine wp_region_held_drew (S := (fun w' => Below wr.heap.size wr w')) (by kernel_rfl) ((Below.refl _ _).drew) (fun hHeld => ?_)
              refine wpAnyH_take (i := 0) (v := _) rfl (by kernel_rfl) (by kernel_rfl) (by kernel_rfl) (fun _ _ _ h => h) (Or.inl ⟨by kernel_rfl, fun w' hSw => exec_load_row 31 _ rfl U (by kernel_rfl) _ _ (0, 0) _ (((S.hs.below hSw).bk 0 rfl)) Try.underlying31 rfl (by kernel_rfl)⟩) (by assumption) ?_
              try simp only [Act.put, List.setIfInBounds_toArray, List.set_cons_succ]
              refine wpAnyH_take (i := 2) (v := _) rfl (by kernel_rfl) (by kernel_rfl) (by kernel_rfl) (fun _ _ _ h => h) (Or.inl ⟨by kernel_rfl, fun w' hSw => exec_load_row 31 _ rfl U (by kernel_rfl) _ _ (0, 0) _ (((S.hs.below hSw).bk 0 rfl)) Try.underlying31 rfl (by kernel_rfl)⟩) (by assumption) ?_
              try simp only [Act.put, List.setIfInBounds_toArray, List.set_cons_succ]
              refine wpAnyH_ready (rs := [1]) (by kernel_rfl) (by simp) ?_
              refine AllReadyH.cons rfl (fun K hK => ?_) AllReadyH.nil
              go_simp
              (with_reducible refine (HUP2 _ hHeld).out.mono ?_); rintro e v1 ⟨D3, cap3, rfl, -, k3⟩
              have hH1 := hHeld.trans (k3.old.mono hHeld.size)
              refine hK.out _ _ (hH1) (fun hHeld => ?_)
              clear hK K
              try simp only [Act.put, List.setIfInBounds_toArray, List.set_cons_succ]
              have HSM := Lib.hid (same_alike T D3 D n cap3 cap' (desL T L) HLEN hn2 v1 (Lib.hid k3.ports) (Lib.hid (S.below hH1).ports))
              refine wpAnyH_ready (rs := [3]) (by kernel_rfl) (by simp) ?_
              refine AllReadyH.cons rfl (fun K hK => ?_) AllReadyH.nil
              go_simp
              (with_reducible refine HSM.out.mono ?_); rintro e v2 ⟨rfl, b2⟩
              refine hK.out _ _ (hHeld.trans (b2.mono hHeld.size)) (fun hHeld => ?_)
              clear hK K
              try simp only [Act.put, List.setIfInBounds_toArray, List.set_cons_succ]
              refine wpAnyH_take (i := 4) (v := ?_) rfl (by kernel_rfl) (by kernel_rfl) (by kernel_rfl) (fun _ _ _ h => h) (Or.inl ⟨by kernel_rfl, ?_⟩) (by assumption) ?_
              rotate_left
              · intro w' hSw; (try dsimp only at hSw); go_simp; with_reducible rfl
              try simp only [Act.put, List.setIfInBounds_toArray, List.set_cons_succ]
              refine wpAnyH_done (by kernel_rfl) ?_ _
              have S9 := S.below hHeld
              go_wp2
              go_ret
              exact ⟨rfl, S9.old⟩

end Go.Proofs.Ytkdbhioneoknjaa
