/- The law SlotsPlays, walked. -/
import Derived.Test.YtlklklkjjmlgeaaSlotsPlayE
import Derived.Test.YtlklklkjjmlgeaaSlotsLenG
import Derived.Deep.RegionHeld3
import Derived.Lib.MinMax
import Derived.Deep.DeepCutAuto
import Derived.WalkSmall
import Derived.StillTailTactics
import Derived.IntWalk
import Derived.BigQuiet
namespace Go.Proofs.Ytlklklkjjmlgeaa
open Go.ChangeShapes Go.WideShapes Go.ChangeAt Go.RowKit Go.Sort
set_option linter.unusedVariables false

theorem size_z {w : World} {h g n : Nat} {c : List (Int × Int)} (t : HTI w h g n c) (z : Int) (hz : (n : Int) = z) :
    Calls Try.prog 16 #[.pointer (some ⟨h, 0, none⟩)] w fun e w' => e = .returned (.int .i64 z) ∧ w = w' := by
  rw [← hz]; exact sizeI_api t

set_option maxRecDepth 100000 in
set_option maxHeartbeats 16000000 in
theorem SlotsPlays_walk (a0 : Int) (a1 : Option Addr) (len1 cap1 : Nat) (L1 : List ActV) (a2 : Int) (w : World) (w0 : (Lit.int .i64 a0).wf = true) (hL1 : L1.length = len1) (hm1 : len1 ≤ maxLen) (hA : ActsIn w a1 w.heap.size L1) (w2 : (Lit.int .u64 a2).wf = true) :
    Calls Try.prog 3 #[.int .i64 a0, .slice a1 len1 cap1, .int .u64 a2] w fun e w' => e = .returned (.bool true) ∧ Below w.heap.size w w' := by
  obtain ⟨p0, p1⟩ := bounds_i64 w0
  obtain ⟨q0, q1⟩ := bounds_u64 w2
  have q1' : a2 ≤ 18446744073709551615 := by omega
  have hm : len1 ≤ 9223372036854775807 := hm1
  have HU := Lib.hid hL1
  have HA := Lib.hid hA
  clear w0 w2 hL1 hm1 hA q1
  by_cases hc : 400 < len1
  · go_enter Try.func3, Try.ntmps3
    go_wp2_with fail
    (with_reducible refine (awake_is _).mono ?_); rintro e w1 ⟨rfl, b1⟩
    go_wp2_with fail
    (with_reducible refine (awake_is _).mono ?_); rintro e w2 ⟨rfl, b2⟩
    go_wp2
    go_ret
    exact ⟨rfl, b1.trans (b2.mono b1.size)⟩
  · have hc' : len1 ≤ 400 := by omega
    obtain ⟨n, hn⟩ : ∃ n : Nat, min (max a0 0) 64 = (n : Int) := ⟨(min (max a0 0) 64).toNat, by omega⟩
    have n64 : n ≤ 64 := by omega
    have HN := Lib.hid hn
    go_enter Try.func3, Try.ntmps3
    clear hn
    go_wp2_with fail
    (with_reducible refine (awake_is _).mono ?_); rintro e w1 ⟨rfl, b1⟩
    go_wp2_with fail
    (with_reducible refine (newI_api _ n HN.out _).mono ?_); rintro e w2 ⟨rfl, t2, b2⟩
    have hs1 := b1.size
    obtain ⟨G, hG⟩ : ∃ G, w1.heap.size = G := ⟨_, rfl⟩
    rw [hG] at t2 b2 hs1 ⊢
    have T2 := Lib.hid t2
    have B2 : Below w.heap.size w w2 := b1.trans (b2.mono hs1)
    have P2 := Lib.hid (PlayC.start t2 B2 hs1)
    obtain ⟨X, hX⟩ : ∃ X, w2.heap.size = X := ⟨_, rfl⟩
    rw [hX] at P2
    have HX := Lib.hid hX
    clear t2 b2 hG b1 hX B2 T2
    go_wp2
    rw [HX.out]
    go_loopw [10] (fun i wr => ∃ (k : Nat) (L : List (Int × Int)) (A : Option Addr) (cap : Nat), k ≤ len1 ∧ i = .int .i64 k ∧ Hid (PlayC w G X n L L A cap wr) ∧ Hid (Up L)) (fun i _ => len1 - (intOf i).toNat)
    case atStart => exact ⟨0, [], none, 0, Nat.zero_le _, rfl, P2, List.Pairwise.nil⟩
    case round =>
      clear P2 HX
      obtain ⟨k, L, A, cap, hk, rfl, P, HUp⟩ := hrel
      rename World => wr
      have hln : L.length ≤ 64 := by have := P.out.tab.le; omega
      by_cases hkn : k < len1
      · obtain ⟨x, hx⟩ := get_of_lt (l := L1) (i := k) (by rw [HU.out]; exact hkn)
        obtain ⟨ad, rfl, hab, hcw, ⟨hu0, hu1⟩, hv0, hv1⟩ := act_cells HA.out hx
        have hki : (k : Int) < (len1 : Int) := by omega
        clear hx
        obtain ⟨o, u, v⟩ := x
        dsimp only at hcw hu0 hu1 hv0 hv1
        have hadw : (ad.add (k * 3)).block < w.heap.size := by rw [Go.Proofs.Ytlklklkjjmlgeaa.add_block]; exact hab
        -- what was there when the call began reads as it did
        have K0 : Hid (∀ c L A cap W, PlayC w G X n c L A cap W → W.cell? (ad.add (k * 3)) = some (.bool o)) := fun _ _ _ _ _ h => (h.old.cell (p := ad.add (k * 3)) hadw).trans hcw.1
        have K1 : Hid (∀ c L A cap W, PlayC w G X n c L A cap W → W.cell? ⟨(ad.add (k * 3)).block, (ad.add (k * 3)).off + 1, none⟩ = some (.int .u64 u)) := fun _ _ _ _ _ h => (h.old.cell (p := ⟨(ad.add (k * 3)).block, (ad.add (k * 3)).off + 1, none⟩) hadw).trans hcw.2.1
        have K2 : Hid (∀ c L A cap W, PlayC w G X n c L A cap W → W.cell? ⟨(ad.add (k * 3)).block, (ad.add (k * 3)).off + 2, none⟩ = some (.int .i64 v)) := fun _ _ _ _ _ h => (h.old.cell (p := ⟨(ad.add (k * 3)).block, (ad.add (k * 3)).off + 2, none⟩) hadw).trans hcw.2.2
        have c0 := K0.out _ _ _ _ _ P.out
        have c1 := K1.out _ _ _ _ _ P.out
        have c2 := K2.out _ _ _ _ _ P.out
        have cb := P.out.cell
        clear hcw
        go_upto_if 47 with fail
        go_cut [12] (fun _ wx => ∃ (L' : List (Int × Int)) (A' : Option Addr) (cap' : Nat), Hid (PlayC w G X n L' L' A' cap' wx) ∧ Hid (Up L'))
        case first =>
          cases o with
          | true =>
            obtain ⟨b, hb⟩ : ∃ b, inC L u = b := ⟨_, rfl⟩
            obtain ⟨r, hr⟩ : ∃ r, findI L u 0 = r := ⟨_, rfl⟩
            have hrb : decide (0 ≤ r) = b := by
              cases b with
              | true => obtain ⟨i, _, e, _⟩ := findI_yes L u 0 hb; rw [hr] at e; exact decide_eq_true (by omega)
              | false => rw [findI_no L u 0 hb] at hr; exact decide_eq_false (by omega)
            have HB := Lib.hid hb
            have HR := Lib.hid hr
            have hr0 := (findI_bd L u 0).1
            have hr1 := (findI_bd L u 0).2
            rw [hr] at hr0 hr1
            clear hb hr
            go_wp2
            have Pd := Lib.hid P.out.drew
            go_cut [59] (fun q wx => q = .bool false ∧ Hid (PlayC w G X n (delC L u) L A cap wx))
            case first =>
              go_region_held3 (fun w' => w'.cell? ⟨X, 0, none⟩ = some (.slice A L.length cap) ∧ w'.cell? ⟨(ad.add (k * 3)).block, (ad.add (k * 3)).off + 1, none⟩ = some (.int .u64 u)) (first | exact ⟨cb, c1⟩ | exact ⟨P5.out.cell, K1.out _ _ _ _ _ P5.out⟩ | assumption) (first
                | (go_at_call 10; (with_reducible refine (dropI_api Pd.out.tab u hu0 hu1 b HB.out).mono ?_); rintro e w5 ⟨rfl, t5, b5⟩; have P5 := Lib.hid (Pd.out.but b5 t5); clear t5 b5)
                | (go_at_call 11; (with_reducible refine (reffind_is _ (X + 1) A _ cap L rfl (by omega) P5.out.row u r HR).mono ?_); rintro e w6 ⟨rfl, rfl⟩)
                | (go_at_call 11; (with_reducible refine (reffind_is _ (X + 1) A _ cap L rfl (by omega) Pd.out.row u r HR).mono ?_); rintro e w6 ⟨rfl, rfl⟩))
              all_goals go_wp2_with fail
              all_goals go_meet
              all_goals exact ⟨by simp, P5⟩
            case rest =>
              obtain ⟨rfl, P5⟩ := hcut
              clear P Pd c0 c1 c2 cb hrb HR hr0 hr1 HB
              have cb := P5.out.cell
              have c1 := K1.out _ _ _ _ _ P5.out
              go_wp2
              go_still_tail 6, (by kernel_rfl)
              have Pd := Lib.hid P5.out.drew
              change wpList _ _ _ _ _ (World.drew _)
              clear cb c1 P5
              generalize World.drew _ = wd at Pd ⊢
              have cb := Pd.out.cell
              have c1 := K1.out _ _ _ _ _ Pd.out
              go_wp2_with fail
              (with_reducible refine (refdrop_is _ (X + 1) A _ cap L rfl (by omega) Pd.out.row u).mono ?_); rintro e w6 ⟨v6, rfl, hr6, hb6⟩
              obtain ⟨A6, cap6, rfl⟩ := hr6.shape
              have P7 := Lib.hid (Pd.out.store hb6 hr6)
              have P6 := Pd.out.below hb6
              have z6 := P6.thaw
              have x6 := P6.cell
              clear hr6 hb6 P6 cb c1 Pd
              go_wp2_with fail
              go_meet
              exact ⟨_, _, _, P7, HUp.out.del u⟩
          | false =>
            obtain ⟨b, hb⟩ : ∃ b, (inC L u || decide (L.length < n)) = b := ⟨_, rfl⟩
            have hb2 : (inC L u || decide ((L.length : Int) < min (max a0 0) 64)) = b := by
              rw [HN.out, ← hb]
              congr 1
              by_cases e : L.length < n
              · rw [decide_eq_true e]; exact decide_eq_true (by omega)
              · rw [decide_eq_false e]; exact decide_eq_false (by omega)
            have HB := Lib.hid hb
            have HB2 := Lib.hid hb2
            have s0 : 0 ≤ min (max a0 0) 64 := by omega
            have s1 : min (max a0 0) 64 ≤ 1000 := by omega
            clear hb hb2
            go_wp2
            have Pd := Lib.hid P.out.drew
            have hzd := Pd.out.box.lt
            cases b with
            | true =>
              go_cut [12, 13] (fun p q wx => ∃ (A6 : Option Addr) (cap6 : Nat), p = .slice A6 (insW u v L false).length cap6 ∧ q = .int .i64 1 ∧ Hid (OwnL encP 2 41 wx (X + 1) (.slice A6 (insW u v L false).length cap6) (insW u v L false)) ∧ Hid (PlayC w G X n L L A cap wx))
              case first =>
                go_region_held3 (fun w' => w'.cell? ⟨X, 0, none⟩ = some (.slice A L.length cap) ∧ w'.cell? ⟨(ad.add (k * 3)).block, (ad.add (k * 3)).off + 1, none⟩ = some (.int .u64 u) ∧ w'.cell? ⟨(ad.add (k * 3)).block, (ad.add (k * 3)).off + 2, none⟩ = some (.int .i64 v)) (first | exact ⟨cb, c1, c2⟩ | exact ⟨P6.out.cell, K1.out _ _ _ _ _ P6.out, K2.out _ _ _ _ _ P6.out⟩ | assumption) (first
                  | (go_at_call 13; (with_reducible refine (refput_yes _ (X + 1) A _ cap L rfl (by omega) Pd.out.row _ u v s0 s1 HB2.out).mono ?_); rintro e w6 ⟨v6, rfl, hr6, hb6⟩; obtain ⟨A6, cap6, rfl⟩ := hr6.shape; have R6 := Lib.hid (hr6.mono (base' := X + 1) (by omega)); have P6 := Lib.hid (Pd.out.below hb6); clear hr6 hb6))
                all_goals go_wp2_with fail
                all_goals go_meet
                all_goals exact ⟨_, _, rfl, rfl, R6, P6⟩
              case rest =>
                obtain ⟨A6, cap6, rfl, rfl, R6, P6⟩ := hcut
                clear P Pd c0 c1 c2 cb
                have c1 := K1.out _ _ _ _ _ P6.out
                have c2 := K2.out _ _ _ _ _ P6.out
                go_wp2_with fail
                (with_reducible refine (putI_api P6.out.tab u hu0 hu1 v true HB.out).mono ?_); rintro e w7 ⟨rfl, t7, b7⟩
                have P7 := Lib.hid (P6.out.but b7 t7)
                have R7 := Lib.hid (R6.out.but b7 (by have := P6.out.low.2; omega))
                have z7 := P7.out.thaw
                have x7 := P7.out.cell
                have P8 := Lib.hid (P7.out.put R7.out (by omega) (insW_ok u v L HUp.out).2.symm)
                clear t7 b7 c1 c2 P6 R6 P7 R7
                go_wp2_with fail
                go_meet
                exact ⟨_, _, _, P8, (insW_ok u v L HUp.out).1⟩
            | false =>
              go_cut [12, 13] (fun p q wx => p = .slice A L.length cap ∧ q = .int .i64 0 ∧ Hid (PlayC w G X n L L A cap wx))
              case first =>
                go_region_held3 (fun w' => w'.cell? ⟨X, 0, none⟩ = some (.slice A L.length cap) ∧ w'.cell? ⟨(ad.add (k * 3)).block, (ad.add (k * 3)).off + 1, none⟩ = some (.int .u64 u) ∧ w'.cell? ⟨(ad.add (k * 3)).block, (ad.add (k * 3)).off + 2, none⟩ = some (.int .i64 v)) (first | exact ⟨cb, c1, c2⟩ | assumption) (first
                  | (go_at_call 13; (with_reducible refine (refput_no _ (X + 1) A _ cap L rfl (by omega) Pd.out.row _ u v s0 s1 HB2.out).mono ?_); rintro e w6 ⟨rfl, rfl⟩))
                all_goals go_wp2_with fail
                all_goals go_meet
                all_goals exact ⟨rfl, rfl, Pd⟩
              case rest =>
                obtain ⟨rfl, rfl, P6⟩ := hcut
                clear P Pd c0 c1 c2 cb
                have c1 := K1.out _ _ _ _ _ P6.out
                have c2 := K2.out _ _ _ _ _ P6.out
                go_wp2_with fail
                (with_reducible refine (putI_api P6.out.tab u hu0 hu1 v false HB.out).mono ?_); rintro e w7 ⟨rfl, t7, b7⟩
                have P7 := Lib.hid (P6.out.but b7 t7)
                have z7 := P7.out.thaw
                have x7 := P7.out.cell
                have P8 := Lib.hid P7.out.again
                clear t7 b7 c1 c2 P6 P7
                go_wp2_with fail
                go_meet
                exact ⟨_, _, _, P8, HUp.out⟩
        case rest =>
          obtain ⟨L8, A8, cap8, P8, U8⟩ := hcut
          clear P c0 c1 c2 cb HUp K0 K1 K2 hln
          have hl8 : L8.length ≤ 64 := by have := P8.out.tab.le; omega
          cases hi : inC L8 a2 with
          | true =>
            obtain ⟨i, vv, e1, e2, e3⟩ := findI_yes L8 a2 0 hi
            rw [Nat.zero_add] at e1
            have E1 := Lib.hid e1
            have E2 := Lib.hid e2
            have E3 := Lib.hid e3
            have hii : i < L8.length := by
              rcases Nat.lt_or_ge i L8.length with z | z
              · exact z
              · rw [List.getElem?_eq_none z] at e2; cases e2
            have hii' : (i : Int) < (L8.length : Int) := by omega
            clear hi e1 e2 e3
            have o5 : ofOI (some vv) = .int .i64 vv := rfl
            go_wp2_with fail
            (with_reducible refine (getI_api P8.out.tab a2 q0 q1' (some vv) E3.out).mono ?_); rintro e w9 ⟨rfl, b9⟩
            have P9 := Lib.hid (P8.out.below b9)
            clear b9 P8
            have cb := P9.out.cell
            go_wp2_with fail
            (with_reducible refine (reffind_is _ (X + 1) A8 _ cap8 L8 rfl (by omega) P9.out.row a2 _ E1).mono ?_); rintro e w10 ⟨rfl, rfl⟩
            obtain ⟨g, rfl, hg1, hg2, f0, f1⟩ := pair_cells P9.out.row E2.out
            dsimp only at f0 f1
            have hmx := mixed
            have fb := fun n os => cell_grown P9.out.box.lt cb n os
            have fq := fun n os => cell_grown (a := ⟨g, i * 2 + 1, none⟩) hg2 f1 n os
            have hS := fun m os => Lib.hid (sizeI_grows (P9.out.tab.grown m os) _ HN.out.symm)
            have hLn := fun m os => Lib.hid (lenI_grows (P9.out.tab.grown m os) _ rfl)
            clear cb
            go_wp2
            refine wp_region_quiet_grown hmx (by kernel_rfl) ?_
            repeat (go_big_quiet_step ((first | (go_at_call 16; exact Calls.grown_of (hS _ _).out) | (go_at_call 17; exact Calls.grown_of (hLn _ _).out))))
            refine wpQuiet_nil ?_
            intro _ hw'
            obtain ⟨⟨nq, osq⟩, hw''⟩ := hw'
            subst hw''
            have P11 := Lib.hid (P9.out.below (below_grow _ nq osq))
            clear P9 hS hLn fb
            go_wp2
            go_roundw
            case rel => exact ⟨k + 1, L8, _, cap8, by omega, by go_num, P11, U8⟩
            case measure => simp [intOf]; omega
          | false =>
            have e1 := findI_no L8 a2 0 hi
            have e3 := getC_none hi
            have E1 := Lib.hid e1
            have E3 := Lib.hid e3
            clear hi e1 e3
            have o5 : ofOI none = .int .i64 0 := rfl
            go_wp2_with fail
            (with_reducible refine (getI_api P8.out.tab a2 q0 q1' none E3.out).mono ?_); rintro e w9 ⟨rfl, b9⟩
            have P9 := Lib.hid (P8.out.below b9)
            clear b9 P8
            have cb := P9.out.cell
            go_wp2_with fail
            (with_reducible refine (reffind_is _ (X + 1) A8 _ cap8 L8 rfl (by omega) P9.out.row a2 _ E1).mono ?_); rintro e w10 ⟨rfl, rfl⟩
            have hmx := mixed
            have fb := fun n os => cell_grown P9.out.box.lt cb n os
            have hS := fun m os => Lib.hid (sizeI_grows (P9.out.tab.grown m os) _ HN.out.symm)
            have hLn := fun m os => Lib.hid (lenI_grows (P9.out.tab.grown m os) _ rfl)
            clear cb
            go_wp2
            refine wp_region_quiet_grown hmx (by kernel_rfl) ?_
            repeat (go_big_quiet_step ((first | (go_at_call 16; exact Calls.grown_of (hS _ _).out) | (go_at_call 17; exact Calls.grown_of (hLn _ _).out))))
            refine wpQuiet_nil ?_
            intro _ hw'
            obtain ⟨⟨nq, osq⟩, hw''⟩ := hw'
            subst hw''
            have P11 := Lib.hid (P9.out.below (below_grow _ nq osq))
            clear P9 hS hLn fb
            go_wp2
            go_roundw
            case rel => exact ⟨k + 1, L8, _, cap8, by omega, by go_num, P11, U8⟩
            case measure => simp [intOf]; omega
      · have hUp := HUp.out
        have E0 := play_start P.out
        have z0 : ((wr.alloc (.cells #[.int .i64 0] 3)).alloc (.cells #[.bool true] 4)).heap.size = wr.heap.size + 2 := by simp
        obtain ⟨w4, hw4⟩ : ∃ w4, (wr.alloc (.cells #[.int .i64 0] 3)).alloc (.cells #[.bool true] 4) = w4 := ⟨_, rfl⟩
        rw [hw4] at E0 z0
        obtain ⟨BB, hBB⟩ : ∃ BB, wr.heap.size = BB := ⟨_, rfl⟩
        rw [hBB] at E0 z0
        have HW4 := Lib.hid hw4
        have HBB := Lib.hid hBB
        clear hw4 hBB
        have E1 := E0.below (new_below _ (.cells #[.pointer (some ⟨G + 1, 0, none⟩)] 25))
        have HT := Lib.hid (throughI 19 #[.pointer (some ⟨BB + 1, 0, none⟩), .pointer (some ⟨BB, 0, none⟩), .pointer (some ⟨X, 0, none⟩)] _ (G + 1) G n L E1.play.tab (BB + 2) (by rw [← z0]; simp)
          (fun pre W => PlayE w G X BB n L A cap pre.length W) (fun _ _ => False)
          (fun pre W W' hj hb => hj.below hb) E1 (enters_of Try.func19 (by kernel_rfl) rfl)
          (fun pre a v post W hS ha0 ha1 hsz hj => by
            have hSL : pre ++ (a, v) :: post = L := up_eq hS.2 hUp hS.1
            have hm : L[pre.length]? = some (a, v) := by rw [← hSL]; simp
            refine (play1 hj hln a v hm).mono fun e W' ⟨he, hc2, hsz2, hk2⟩ => ⟨⟨hsz2, fun b hb1 hb2 => hk2 b (by simp at hb1; omega) hb2⟩, .inl ⟨he, ?_⟩⟩
            have hlen : (pre ++ [(a, v)]).length = pre.length + 1 := by simp
            rw [hlen]; exact hc2))
        clear E0 E1
        go_wp2_with fail
        rw [HW4.out, HBB.out]
        (with_reducible refine (allI_is _ _).mono ?_); rintro e w6 ⟨rfl, rfl⟩
        go_wp2_with fail
        (with_reducible refine HT.out.mono ?_); rintro e w7 ⟨rfl, S, hS, (hg | ⟨_, _, _, _, hf⟩)⟩
        rotate_right
        · exact hf.elim
        have hSL : S = L := up_eq hS.2 hUp hS.1
        subst hSL
        have hcn : w7.cell? ⟨BB, 0, none⟩ = some (.int .i64 (S.length : Nat)) := hg.cnt.cell 0
        have hcr : w7.cell? ⟨BB + 1, 0, none⟩ = some (.bool true) := hg.good.cell 0
        have hcb := hg.play.cell
        have HO := Lib.hid hg.play.old
        clear hg hS HT P HUp hUp
        go_wp2
        go_ret
        exact ⟨rfl, HO.out⟩

end Go.Proofs.Ytlklklkjjmlgeaa
