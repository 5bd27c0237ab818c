/- The law FdbPlays, walked. -/
import Derived.Test.YtokepfgknffdfaaFdbSame
import Derived.Test.YtokepfgknffdfaaFdbActsIn
import Derived.Deep.DeepCutAuto
import Derived.Deep.CutBlock
import Derived.LoopTactic
namespace Go.Proofs.Ytokepfgknffdfaa
open Go.ChangeShapes Go.WideShapes Go.ChangeAt Go.RowKit Go.Shelf
set_option linter.unusedVariables false

/-- An act's cells, as the walk spells them. -/
theorem act_at {w : World} {a : Option Addr} {B : Nat} {L : List ActV} (h : ActsIn w a B L) {k : Nat} {x : ActV} (hx : L[k]? = some x) :
    ∃ ad, a = some ad ∧ ad.block < B ∧ (w.cell? (ad.add (k * 3)) = some (.int .u8 x.act) ∧ w.cell? ⟨(ad.add (k * 3)).block, (ad.add (k * 3)).off + 1, none⟩ = some (.int .u64 x.addr) ∧ w.cell? ⟨(ad.add (k * 3)).block, (ad.add (k * 3)).off + 2, none⟩ = some (.int .i64 x.num)) ∧
      (0 ≤ x.act ∧ x.act ≤ 255) ∧ (0 ≤ x.addr ∧ x.addr ≤ 18446744073709551615) ∧ -9223372036854775808 ≤ x.num ∧ x.num ≤ 9223372036854775807 := by
  obtain ⟨ad, h1, h2, h3, h4, h5, h6⟩ := h k x hx
  refine ⟨ad, h1, h2, ⟨h3, ?_, ?_⟩, h6⟩
  · have e := Go.Proofs.Ytokepfgknffdfaa.add_add ad (k * 3) 1
    rw [← e] at h4
    exact h4
  · have e := Go.Proofs.Ytokepfgknffdfaa.add_add ad (k * 3) 2
    rw [← e] at h5
    exact h5

theorem up_keep {nx : Int × Int → (Int × Int) × Bool} {c : List (Int × (Int × Int))} (h : Up c) : Up (c.filterMap (keepF nx)) := by
  unfold Up at h ⊢
  rw [List.pairwise_filterMap]
  refine h.imp fun {x y} hxy b hb b' hb' => ?_
  unfold keepF at hb hb'
  split at hb
  · split at hb'
    · cases hb; cases hb'; exact hxy
    · cases hb'
  · cases hb

set_option maxRecDepth 100000 in
set_option maxHeartbeats 8000000 in
theorem FdbPlays_walk (a0 : Int) (a1 : Option Addr) (len1 cap1 : Nat) (L1 : List ActV) (a2 : Int) (w : World) (w0 : (Lit.int .i64 a0).wf = true) (hL1 : L1.length = len1) (hm1 : len1 ≤ maxLen) (hA : ActsIn w a1 w.heap.size L1) (w2 : (Lit.int .u64 a2).wf = true) :
    Calls Try.prog 3 #[.int .i64 a0, .slice a1 len1 cap1, .int .u64 a2] w fun e w' => e = .returned (.bool true) ∧ Below w.heap.size w w' := by
  obtain ⟨p0, p1⟩ := bounds_i64 w0
  obtain ⟨q0, q1⟩ := bounds_u64 w2
  have q1' : a2 ≤ 18446744073709551615 := by omega
  have hm : len1 ≤ 9223372036854775807 := hm1
  have HU := Lib.hid hL1
  have HA := Lib.hid hA
  clear w0 w2 hL1 hm1 hA q1
  by_cases hc : 300 < len1
  · go_enter Try.func3, Try.ntmps3
    go_wp2_with fail
    (with_reducible refine (awake_is _).mono ?_); rintro e w1 ⟨rfl, b1⟩
    go_wp2_with fail
    (with_reducible refine (awake_is _).mono ?_); rintro e w2 ⟨rfl, b2⟩
    go_wp2
    go_ret
    exact ⟨rfl, b1.trans (b2.mono b1.size)⟩
  · have hc' : len1 ≤ 300 := by omega
    obtain ⟨n, hn⟩ : ∃ n : Nat, min (max a0 0) 64 = (n : Int) := ⟨(min (max a0 0) 64).toNat, by omega⟩
    have n64 : n ≤ 64 := by omega
    have HN := Lib.hid hn
    go_enter Try.func3, Try.ntmps3
    clear hn
    go_wp2_with fail
    (with_reducible refine (awake_is _).mono ?_); rintro e w1 ⟨rfl, b1⟩
    go_wp2_with fail
    (with_reducible refine (FS.new b1 a0 n HN.out).mono ?_); rintro e w2 ⟨f, rfl, s2⟩
    have P2 := Lib.hid (FR.start s2)
    clear s2 b1
    go_wp2
    go_loopw [8, 9] (fun v i wr => ∃ (k : Nat) (L : List (Int × (Int × Int))) (A : Option Addr) (cap : Nat), k ≤ len1 ∧ i = .int .i64 k ∧ v = .slice A L.length cap ∧ Hid (FR w f n L L A wr) ∧ Hid (Up L)) (fun _ i _ => len1 - (intOf i).toNat)
    case atStart => exact ⟨0, [], none, 0, Nat.zero_le _, rfl, rfl, P2, List.Pairwise.nil⟩
    case round =>
      clear P2
      obtain ⟨k, L, A, cap, hk, rfl, rfl, P, HUp⟩ := hrel
      rename World => wr
      have hln : L.length ≤ 64 := by have := P.out.fs.le; omega
      by_cases hkn : k < len1
      · obtain ⟨x, hx⟩ := get_of_lt (l := L1) (i := k) (by rw [HU.out]; exact hkn)
        obtain ⟨ad, rfl, hab, hcw, ⟨ho0, ho1⟩, ⟨hu0, hu1⟩, hv0, hv1⟩ := act_at HA.out hx
        have hki : (k : Int) < (len1 : Int) := by omega
        clear hx
        obtain ⟨o, u, v⟩ := x
        dsimp only at hcw ho0 ho1 hu0 hu1 hv0 hv1
        have hadw : (ad.add (k * 3)).block < w.heap.size := by rw [Go.Proofs.Ytokepfgknffdfaa.add_block]; exact hab
        have c0 := (P.out.fs.old.cell (p := ad.add (k * 3)) hadw).trans hcw.1
        have c1 := (P.out.fs.old.cell (p := ⟨(ad.add (k * 3)).block, (ad.add (k * 3)).off + 1, none⟩) hadw).trans hcw.2.1
        have c2 := (P.out.fs.old.cell (p := ⟨(ad.add (k * 3)).block, (ad.add (k * 3)).off + 2, none⟩) hadw).trans hcw.2.2
        clear hcw
        go_upto_block 2 with fail
        have nb := new_below wr (.cells #[.int .u8 o, .int .u64 u, .int .i64 v] 29)
        have nk : Bk (wr.alloc (.cells #[.int .u8 o, .int .u64 u, .int .i64 v] 29)) wr.heap.size 29 [.int .u8 o, .int .u64 u, .int .i64 v] := heap_alloc_new wr _
        generalize wr.alloc (.cells #[.int .u8 o, .int .u64 u, .int .i64 v] 29) = wb at nb nk ⊢
        have Pb := Lib.hid (P.out.below nb)
        have KB := Lib.hid nk
        clear c0 c1 c2 nb nk P
        go_cut [8] (fun q wx => ∃ (L' : List (Int × (Int × Int))) (A' : Option Addr) (cap' : Nat), q = .slice A' L'.length cap' ∧ Hid (FR w f n L' L' A' wx) ∧ Hid (Up L'))
        case first =>
          have x1 : wb.cell? ⟨wr.heap.size, 1, none⟩ = some (.int .u64 u) := KB.out.cell 1
          have x2 : wb.cell? ⟨wr.heap.size, 2, none⟩ = some (.int .i64 v) := KB.out.cell 2
          by_cases e0 : o % 3 = 0
          · have g0 : (o % 3 == 0) = true := by simp [e0]
            obtain ⟨b, hb⟩ : ∃ b, learnB L n u = b := ⟨_, rfl⟩
            have hb2 : (rightB u && (inC L u || decide ((L.length : Int) < min a0 64))) = b := by
              rw [← hb]
              unfold learnB
              congr 2
              have := HN.out
              rw [Bool.eq_iff_iff]
              simp
              omega
            have HB := Lib.hid hb
            have HB2 := Lib.hid hb2
            clear e0 hb hb2
            cases b with
            | true =>
              have hrt : rightB u = true := by have := HB2.out; rw [Bool.and_eq_true] at this; exact this.1
              have hin : (inC L u || decide ((L.length : Int) < min a0 64)) = true := by have := HB2.out; rw [Bool.and_eq_true] at this; exact this.2
              have HL := Lib.hid (reflearn_yes wb w.heap.size A L.length cap L rfl (by omega) Pb.out.row a0 u v hu0 hu1 hrt hin)
              clear hrt hin HB2
              go_wp2_with fail
              (with_reducible refine HL.out.mono ?_); rintro e w6 ⟨v6, rfl, hr6⟩
              obtain ⟨A6, cap6, rfl⟩ := hr6.1.shape
              have P6 := Lib.hid (Pb.out.made hr6)
              have k6 : Bk w6 wr.heap.size 29 [.int .u8 o, .int .u64 u, .int .i64 v] := KB.out.below hr6.2 KB.out.lt
              have y1 : w6.cell? ⟨wr.heap.size, 1, none⟩ = some (.int .u64 u) := k6.cell 1
              have y2 : w6.cell? ⟨wr.heap.size, 2, none⟩ = some (.int .i64 v) := k6.cell 2
              clear hr6 k6 x1 x2 HL Pb
              go_wp2_with fail
              (with_reducible refine (P6.out.learn u hu0 hu1 v true HB).mono ?_); rintro e w7 ⟨rfl, s7⟩
              have hins := insW_ok u ((v, 0) : Int × Int) L HUp.out
              have P7 := Lib.hid (s7.perm hins.2.symm)
              have U7 := Lib.hid hins.1
              clear s7 P6 y1 y2 hins
              go_wp2_with fail
              go_meet
              exact ⟨_, _, _, rfl, P7, U7⟩
            | false =>
              have HL := Lib.hid (reflearn_no wb w.heap.size A L.length cap L rfl (by omega) Pb.out.row a0 u v hu0 hu1 HB2.out)
              clear HB2
              go_wp2_with fail
              (with_reducible refine HL.out.mono ?_); rintro e w6 ⟨rfl, rfl⟩
              clear HL
              go_wp2_with fail
              (with_reducible refine (Pb.out.learn u hu0 hu1 v false HB).mono ?_); rintro e w7 ⟨rfl, s7⟩
              have P7 : Hid (FR w f n L L A w7) := s7
              clear s7 Pb x1 x2
              go_wp2_with fail
              go_meet
              exact ⟨_, _, _, rfl, P7, HUp⟩
          · have g0 : (o % 3 == 0) = false := by simp [e0]
            by_cases e1 : o % 3 = 1
            · have g1 : (o % 3 == 1) = true := by simp [e1]
              have hzy : (tickC v L).length ≤ L.length := List.length_filterMap_le _ _
              have hzi : ((tickC v L).length : Int) ≤ (L.length : Int) := by omega
              have hli : (L.length : Int) ≤ 64 := by omega
              have HL := Lib.hid (reftick_is wb w.heap.size A L.length cap L rfl (by omega) Pb.out.row Pb.out.fs.aged v)
              clear e0 e1
              go_wp2_with fail
              (with_reducible refine HL.out.mono ?_); rintro e w6 ⟨v6, rfl, hr6⟩
              obtain ⟨A6, cap6, rfl⟩ := hr6.1.shape
              have P6 := Lib.hid (Pb.out.made hr6)
              have k6 : Bk w6 wr.heap.size 29 [.int .u8 o, .int .u64 u, .int .i64 v] := KB.out.below hr6.2 KB.out.lt
              have y2 : w6.cell? ⟨wr.heap.size, 2, none⟩ = some (.int .i64 v) := k6.cell 2
              clear hr6 k6 x1 x2 HL Pb
              go_wp2_with fail
              (with_reducible refine (P6.out.tick v ((L.length : Int) - ((tickC v L).length : Nat)) (Lib.hid rfl)).mono ?_); rintro e w7 ⟨rfl, s7⟩
              have P7 := Lib.hid s7
              have U7 : Hid (Up (tickC v L)) := up_keep HUp.out
              clear s7 P6 y2
              go_wp2_with fail
              go_meet
              exact ⟨_, _, _, rfl, P7, U7⟩
            · have g1 : (o % 3 == 1) = false := by simp [e1]
              have hzy : (flushC v L).length ≤ L.length := List.length_filterMap_le _ _
              have hzi : ((flushC v L).length : Int) ≤ (L.length : Int) := by omega
              have hli : (L.length : Int) ≤ 64 := by omega
              have HL := Lib.hid (refflush_is wb w.heap.size A L.length cap L rfl (by omega) Pb.out.row v)
              clear e0 e1
              go_wp2_with fail
              (with_reducible refine HL.out.mono ?_); rintro e w6 ⟨v6, rfl, hr6⟩
              obtain ⟨A6, cap6, rfl⟩ := hr6.1.shape
              have P6 := Lib.hid (Pb.out.made hr6)
              have k6 : Bk w6 wr.heap.size 29 [.int .u8 o, .int .u64 u, .int .i64 v] := KB.out.below hr6.2 KB.out.lt
              have y2 : w6.cell? ⟨wr.heap.size, 2, none⟩ = some (.int .i64 v) := k6.cell 2
              clear hr6 k6 x1 x2 HL Pb
              go_wp2_with fail
              (with_reducible refine (P6.out.flush v ((L.length : Int) - ((flushC v L).length : Nat)) (Lib.hid rfl)).mono ?_); rintro e w7 ⟨rfl, s7⟩
              have P7 := Lib.hid s7
              have U7 : Hid (Up (flushC v L)) := up_keep HUp.out
              clear s7 P6 y2
              go_wp2_with fail
              go_meet
              exact ⟨_, _, _, rfl, P7, U7⟩
        case rest =>
          obtain ⟨L8, A8, cap8, rfl, P8, U8⟩ := hcut
          clear Pb KB HUp hln
          have hl8 : L8.length ≤ 64 := by have := P8.out.fs.le; omega
          have hs0 : ((1 : Int) == 0) = false := by decide
          cases hi : inC L8 a2 with
          | true =>
            obtain ⟨i, ⟨vp, vg⟩, e1, e2, e3⟩ := findI_yes L8 a2 0 hi
            rw [Nat.zero_add] at e1
            have E1 := Lib.hid e1
            have E2 := Lib.hid e2
            have hpo : portO (getC L8 a2) = vp := by rw [e3]; rfl
            have HPO := Lib.hid hpo
            have HI := Lib.hid hi
            have hii : i < L8.length := by
              rcases Nat.lt_or_ge i L8.length with z | z
              · exact z
              · rw [List.getElem?_eq_none z] at e2; cases e2
            have hii' : (i : Int) < (L8.length : Int) := by omega
            clear hi e1 e2 e3 hpo
            go_wp2_with fail
            (with_reducible refine (P8.out.look a2 q0 q1' vp true HPO HI).mono ?_); rintro e w9 ⟨rfl, s9⟩
            have P9 := Lib.hid s9
            clear s9 P8
            go_wp2_with fail
            (with_reducible refine (reffind_is _ w.heap.size A8 _ cap8 L8 rfl (by omega) P9.out.row a2 _ E1).mono ?_); rintro e w10 ⟨rfl, rfl⟩
            obtain ⟨g, rfl, hg1, hg2, d0, d1, d2⟩ := ent_cells P9.out.row E2.out
            dsimp only at d0 d1 d2
            go_wp2_with fail
            (with_reducible refine (same_is P9.out U8.out _ rfl).mono ?_); rintro e w11 ⟨rfl, s11⟩
            have P11 := Lib.hid s11
            clear s11 P9 d0 d1 d2
            go_wp2
            go_roundw
            case rel => exact ⟨k + 1, L8, _, cap8, by omega, by go_num, rfl, P11, U8⟩
            case measure => simp [intOf]; omega
          | false =>
            have e1 := findI_no L8 a2 0 hi
            have hpo : portO (getC L8 a2) = 0 := by rw [getC_none hi]; rfl
            have E1 := Lib.hid e1
            have HPO := Lib.hid hpo
            have HI := Lib.hid hi
            clear hi e1 hpo
            go_wp2_with fail
            (with_reducible refine (P8.out.look a2 q0 q1' 0 false HPO HI).mono ?_); rintro e w9 ⟨rfl, s9⟩
            have P9 := Lib.hid s9
            clear s9 P8
            go_wp2_with fail
            (with_reducible refine (reffind_is _ w.heap.size A8 _ cap8 L8 rfl (by omega) P9.out.row a2 _ E1).mono ?_); rintro e w10 ⟨rfl, rfl⟩
            go_wp2_with fail
            (with_reducible refine (same_is P9.out U8.out _ rfl).mono ?_); rintro e w11 ⟨rfl, s11⟩
            have P11 := Lib.hid s11
            clear s11 P9
            go_wp2
            go_roundw
            case rel => exact ⟨k + 1, L8, _, cap8, by omega, by go_num, rfl, P11, U8⟩
            case measure => simp [intOf]; omega
      · have B := Lib.hid P.out.fs.old
        clear P
        go_wp2
        go_ret
        exact ⟨rfl, B.out⟩

end Go.Proofs.Ytokepfgknffdfaa
