/- The law SlotsDrops, walked. -/
import Derived.Test.YtlklklkjjmlgeaaSlotsAgainWalk
import Derived.Test.YtlklklkjjmlgeaaOwnRows
namespace Go.Proofs.Ytlklklkjjmlgeaa
open Go.ChangeShapes Go.WideShapes Go.ChangeAt Go.RowKit
set_option linter.unusedVariables false

theorem Try.infoU64 : (Try.prog.info? 23).map (fun i => (i.zero, i.size, i.bytes)) = some (some (.int .u64 0), 1, 8) := by kernel_rfl

/-- A number as a cell. -/
def encU (u : Int) : List Value := [.int .u64 u]
theorem encU_len (u : Int) : (encU u).length = 1 := rfl
theorem encU_one (u : Int) : ∀ v ∈ encU u, v.oneCell' = true := by
  intro v hv
  simp [encU] at hv
  subst hv; rfl

/-- Whether one of the numbers is u. -/
def hasU (O : List Int) (u : Int) : Bool := O.any (fun x => x == u)
theorem hasU_snoc (O : List Int) (x u : Int) : hasU (O ++ [x]) u = (hasU O u || x == u) := by simp [hasU]
theorem take_snoc {α : Type} {l : List α} {k : Nat} {x : α} (h : l[k]? = some x) : l.take (k + 1) = l.take k ++ [x] := by
  rw [List.take_add_one, h]; rfl

/-- What was put, and all but what was dropped, is there. -/
def Held (c : List (Int × Int)) (ins O : List Int) : Prop := ∀ u ∈ ins, getC c u = if hasU O u = true then none else some (u % 1000)

theorem held_put {c : List (Int × Int)} {ins : List Int} (h : Held c ins []) (u : Int) : Held (putEnd c u (u % 1000) true) (ins ++ [u]) [] := by
  intro x hx
  have e : hasU [] x = false := rfl
  rw [e]
  unfold putEnd
  rw [if_pos rfl, getC_put]
  by_cases hxu : x = u
  · rw [if_pos hxu, hxu]; rfl
  · rw [if_neg hxu]
    rcases List.mem_append.1 hx with g | g
    · have := h x g
      rw [e] at this; exact this
    · simp at g; exact absurd g hxu

theorem held_drop {c : List (Int × Int)} {ins O : List Int} (h : Held c ins O) (u : Int) : Held (delC c u) ins (O ++ [u]) := by
  intro x hx
  rw [getC_del, hasU_snoc, h x hx]
  by_cases e : x = u
  · subst e; simp
  · have : (u == x) = false := by simp; exact fun k => e k.symm
    rw [this, if_neg e, Bool.or_false]

def WfI (ins : List Int) : Prop := ∀ x ∈ ins, 0 ≤ x ∧ x ≤ 18446744073709551615
theorem wfi_snoc {ins : List Int} (h : WfI ins) {u : Int} (h0 : 0 ≤ u) (h1 : u ≤ 18446744073709551615) : Hid (WfI (ins ++ [u])) := fun x hx => by
  rcases List.mem_append.1 hx with g | g
  · exact h x g
  · simp at g; subst g; exact ⟨h0, h1⟩

set_option maxRecDepth 100000 in
set_option maxHeartbeats 8000000 in
theorem SlotsDrops_walk (a0 : Int) (a1 : Option Addr) (len1 cap1 : Nat) (z1 : List Int) (a2 : Option Addr) (len2 cap2 : Nat) (z2 : List Int) (w : World) (w0 : (Lit.int .u8 a0).wf = true) (w1 : IsRow .u64 w a1 len1 cap1 z1) (w2 : IsRow .u64 w a2 len2 cap2 z2) :
    Calls Try.prog 5 #[.int .u8 a0, .slice a1 len1 cap1, .slice a2 len2 cap2] w fun e w' => e = .returned (.bool true) ∧ Below w.heap.size w w' := by
  obtain ⟨p0, p1⟩ := bounds_u8 w0
  obtain ⟨U, hU, hm1, hN1⟩ := nums_in w1
  obtain ⟨O, hO, hm2, hN2⟩ := nums_in w2
  have HU := Lib.hid hU
  have HO := Lib.hid hO
  have HN1 := Lib.hid hN1
  have HN2 := Lib.hid hN2
  clear w0 w1 w2 hU hO hN1 hN2
  by_cases hc : 400 < len1
  · go_enter Try.func5, Try.ntmps5
    go_wp2_with fail
    (with_reducible refine (awake_is _).mono ?_); rintro e w1 ⟨rfl, b1⟩
    go_wp2_with fail
    (with_reducible refine (awake_is _).mono ?_); rintro e w2 ⟨rfl, b2⟩
    go_wp2
    go_ret
    exact ⟨rfl, b1.trans (b2.mono b1.size)⟩
  by_cases hc2 : 400 < len2
  · have hc' : len1 ≤ 400 := by omega
    go_enter Try.func5, Try.ntmps5
    go_wp2_with fail
    (with_reducible refine (awake_is _).mono ?_); rintro e w1 ⟨rfl, b1⟩
    go_wp2_with fail
    (with_reducible refine (awake_is _).mono ?_); rintro e w2 ⟨rfl, b2⟩
    go_wp2
    go_ret
    exact ⟨rfl, b1.trans (b2.mono b1.size)⟩
  · have hc1' : len1 ≤ 400 := by omega
    have hc2' : len2 ≤ 400 := by omega
    obtain ⟨n, hn⟩ : ∃ n : Nat, (1 + a0 % 64 : Int) = n := ⟨(1 + a0 % 64).toNat, by omega⟩
    have hmm : min (max (1 + a0 % 64 : Int) 0) 64 = n := by omega
    have HMM := Lib.hid hmm
    clear hn hmm
    obtain ⟨i0, hi, hz0, hz1, hz2⟩ := info_parts Try.infoU64
    have HI := Lib.hid hi
    have HZ0 := Lib.hid hz0
    have HZ1 := Lib.hid hz1
    have HZ2 := Lib.hid hz2
    clear hi hz0 hz1 hz2
    go_enter Try.func5, Try.ntmps5
    go_wp2_with fail
    (with_reducible refine (awake_is _).mono ?_); rintro e w1 ⟨rfl, b1⟩
    go_wp2_with fail
    (with_reducible refine (newI_api _ n HMM.out _).mono ?_); rintro e w2 ⟨rfl, t2, b2⟩
    have hs1 := b1.size
    obtain ⟨G, hG⟩ : ∃ G, w1.heap.size = G := ⟨_, rfl⟩
    rw [hG] at t2 b2 hs1 ⊢
    have T2 := Lib.hid t2
    have B2 : Below w.heap.size w w2 := b1.trans (b2.mono hs1)
    clear t2 b2 hG b1
    go_wp2
    go_loopw [8, 9] (fun v i wr => ∃ (k : Nat) (c : List (Int × Int)) (ins : List Int), k ≤ len1 ∧ i = .int .i64 k ∧ ins.length ≤ k ∧ Hid (HTI wr (G + 1) G n c) ∧ Hid (OwnL encU 1 23 wr (G + 2) v ins) ∧ Hid (Held c ins []) ∧ Hid (WfI ins) ∧ Below w.heap.size w wr) (fun _ i _ => len1 - (intOf i).toNat)
    case atStart => exact ⟨0, [], [], Nat.zero_le _, rfl, Nat.le_refl _, T2, OwnL.nil _ _ _, fun u hu => (by cases hu), fun u hu => (by cases hu), B2⟩
    case round =>
      clear B2 T2
      obtain ⟨k, c, ins, hk, rfl, hins, T, R, H, HW, B⟩ := hrel
      by_cases hkn : k < len1
      · obtain ⟨u, hu⟩ := get_of_lt (l := U) (i := k) (by rw [HU.out]; exact hkn)
        obtain ⟨ad, rfl, hab, hcw, hu0, hu1⟩ := HN1.out k u hu
        have hcell := (B.cell (p := ad.add k) (by rw [add_block]; exact hab)).trans hcw
        clear hu
        have hki : (k : Int) < (len1 : Int) := by omega
        go_wp2
        go_still_tail 11, (by kernel_rfl)
        have hd := B.drew
        have Td := Lib.hid T.out.drew
        have Rd := Lib.hid R.out.drew
        change wpList _ _ _ _ _ (World.drew _)
        clear T R B hcell
        generalize World.drew _ = wd at hd Td Rd ⊢
        have hcell := (hd.cell (p := ad.add k) (by rw [add_block]; exact hab)).trans hcw
        cases hb : (inC c u || decide (c.length < n)) with
        | true =>
          have HB := Lib.hid hb
          clear hb
          go_wp2_with fail
          (with_reducible refine (putI_api Td.out u hu0 hu1 (u % 1000) true HB.out).mono ?_); rintro e w6 ⟨rfl, t6, b6⟩
          have T6 := Lib.hid t6
          have B6 := But.below hd b6 hd.size hs1
          have R6 := Lib.hid (Rd.out.but b6 (by omega))
          have H6 := Lib.hid (held_put H.out u)
          have hz6 : G + 2 ≤ w6.heap.size := by have := t6.lt.1; omega
          have hcell6 := (B6.cell (p := ad.add k) (by rw [add_block]; exact hab)).trans hcw
          clear t6 b6 hd Td Rd H hcell
          go_wp2_with (at_builtin; refine append_elem (enc := encU) _ rfl (.tmp 52) (.tmp 57) 46 rfl (G + 2) 23 i0 (.int .u64 0) 8 Try.underlying46 HI.out HZ0.out HZ1.out HZ2.out rfl (by decide) encU_len encU_one _ ins u rfl R6.out _ rfl (by simp) (by omega) (by omega) w.heap.size w B6 (by omega) hz6 ?_; intro g7 cap7 w7 hg7 r7 B7 gr7; have T7 := Lib.hid (T6.out.own R6.out gr7 (by omega) (by omega)); have R7 := Lib.hid r7; clear r7 gr7)
          go_roundw
          case rel => exact ⟨k + 1, _, ins ++ [u], by omega, by go_num, by simp; omega, T7, R7, H6, wfi_snoc HW.out hu0 hu1, B7⟩
          case measure => simp [intOf]; omega
        | false =>
          have HB := Lib.hid hb
          clear hb
          go_wp2_with fail
          (with_reducible refine (putI_api Td.out u hu0 hu1 (u % 1000) false HB.out).mono ?_); rintro e w6 ⟨rfl, t6, b6⟩
          have T6 := Lib.hid t6
          have B6 := But.below hd b6 hd.size hs1
          have R6 := Lib.hid (Rd.out.but b6 (by omega))
          clear t6 b6 hd Td Rd hcell
          go_wp2
          go_roundw
          case rel => exact ⟨k + 1, c, ins, by omega, by go_num, by omega, T6, R6, H, HW, B6⟩
          case measure => simp [intOf]; omega
      · obtain ⟨A, capA, rfl⟩ := R.out.shape
        have hil : ins.length ≤ 400 := by omega
        go_wp2
        go_loopw [10] (fun i wr => ∃ (k : Nat) (c : List (Int × Int)), k ≤ len2 ∧ i = .int .i64 k ∧ Hid (HTI wr (G + 1) G n c) ∧ Hid (OwnL encU 1 23 wr (G + 2) (.slice A ins.length capA) ins) ∧ Hid (Held c ins (O.take k)) ∧ Below w.heap.size w wr) (fun i _ => len2 - (intOf i).toNat)
        case atStart => exact ⟨0, c, Nat.zero_le _, rfl, T, R, H, B⟩
        case round =>
          clear T R H B hkn hk hins
          obtain ⟨k, c, hk, rfl, T, R, H, B⟩ := hrel
          by_cases hkn : k < len2
          · obtain ⟨u, hu⟩ := get_of_lt (l := O) (i := k) (by rw [HO.out]; exact hkn)
            obtain ⟨ad, rfl, hab, hcw, hu0, hu1⟩ := HN2.out k u hu
            have hcell := (B.cell (p := ad.add k) (by rw [add_block]; exact hab)).trans hcw
            have H6 := Lib.hid (held_drop H.out u)
            rw [← take_snoc hu] at H6
            clear hu
            have hki : (k : Int) < (len2 : Int) := by omega
            go_wp2_with fail
            (with_reducible refine (dropI_api T.out u hu0 hu1 _ rfl).mono ?_); rintro e w6 ⟨rfl, t6, b6⟩
            have T6 := Lib.hid t6
            have B6 := But.below B b6 B.size hs1
            have R6 := Lib.hid (R.out.but b6 (by omega))
            clear t6 b6 B T R hcell H
            go_wp2
            go_roundw
            case rel => exact ⟨k + 1, _, by omega, by go_num, T6, R6, H6, B6⟩
            case measure => simp [intOf]; omega
          · have H0 : Hid (Held c ins O) := by rw [Hid]; have := H.out; rw [List.take_of_length_le (by rw [HO.out]; omega)] at this; exact this
            clear H
            go_wp2
            go_loopw [11] (fun i wr => ∃ (k : Nat), k ≤ ins.length ∧ i = .int .i64 k ∧ Hid (HTI wr (G + 1) G n c) ∧ Hid (OwnL encU 1 23 wr (G + 2) (.slice A ins.length capA) ins) ∧ Below w.heap.size w wr) (fun i _ => ins.length - (intOf i).toNat)
            case atStart => exact ⟨0, Nat.zero_le _, rfl, T, R, B⟩
            case round =>
              clear T R B hkn hk
              obtain ⟨k, hk, rfl, T, R, B⟩ := hrel
              by_cases hkn : k < ins.length
              · obtain ⟨u, hu⟩ := get_of_lt (l := ins) (i := k) hkn
                obtain ⟨g', rfl, hg1, hg2, hcu⟩ := R.out.at encU_len hu
                have hum := List.mem_of_getElem? hu
                obtain ⟨hu0, hu1⟩ := HW.out u hum
                have hgu := H0.out u hum
                have hcu0 := hcu 0 (by omega)
                simp only [Nat.mul_one, Nat.add_zero] at hcu0
                have hcu1 : _ = some (Value.int .u64 u) := hcu0
                have hki : (k : Int) < (ins.length : Int) := by omega
                have HGU := Lib.hid hgu
                clear hu hum hcu hcu0 hgu
                go_wp2
                rename World => wo
                go_loopw [12, 13] (fun x i wr => ∃ (j : Nat) (gb : Bool), j ≤ len2 ∧ i = .int .i64 j ∧ x = .bool gb ∧ Hid (hasU (O.take j) u = gb) ∧ Below wo.heap.size wo wr) (fun _ i _ => len2 - (intOf i).toNat)
                case atStart => exact ⟨0, false, Nat.zero_le _, rfl, rfl, rfl, Below.refl _ _⟩
                case round =>
                  obtain ⟨j, gb, hj, rfl, rfl, HGB, BI⟩ := hrel
                  have BW : Below w.heap.size w wr := B.trans (BI.mono B.size)
                  have hcu2 := (BI.cell (p := ⟨g', k, none⟩) hg2).trans hcu1
                  by_cases hjn : j < len2
                  · obtain ⟨x, hx⟩ := get_of_lt (l := O) (i := j) (by rw [HO.out]; exact hjn)
                    obtain ⟨ad, rfl, hab, hcw, hx0, hx1⟩ := HN2.out j x hx
                    have hcell := (BW.cell (p := ad.add j) (by rw [add_block]; exact hab)).trans hcw
                    have hgs : Hid (hasU (O.take (j + 1)) u = (gb || x == u)) := by rw [Hid, take_snoc hx, hasU_snoc, HGB.out]
                    have hji : (j : Int) < (len2 : Int) := by omega
                    clear hx hcw HGB
                    cases gb with
                    | true =>
                      go_wp2
                      go_quiet (fail)
                      go_wp2
                      go_roundw
                      case rel => exact ⟨j + 1, true, by omega, by go_num, rfl, hgs, below_drewN BI _⟩
                      case measure => simp [intOf]; omega
                    | false =>
                      go_wp2
                      go_quiet (fail)
                      go_wp2
                      go_roundw
                      case rel => exact ⟨j + 1, _, by omega, by go_num, rfl, hgs, below_drewN BI _⟩
                      case measure => simp [intOf]; omega
                  · have HGE : Hid (hasU O u = gb) := by rw [Hid]; have := HGB.out; rw [List.take_of_length_le (by rw [HO.out]; omega)] at this; exact this
                    have TI := Lib.hid (T.out.below BI)
                    have RI := Lib.hid (R.out.below BI)
                    clear T R HGB hcu1 B BI
                    cases gb with
                    | true =>
                      have hr : Hid (getC c u = none) := by rw [Hid, HGU.out, HGE.out]; rfl
                      have o5 : ofOI none = .int .i64 0 := rfl
                      go_wp2_with fail
                      (with_reducible refine (getI_api TI.out u hu0 hu1 none hr.out).mono ?_); rintro e w7 ⟨rfl, b7⟩
                      have T7 := Lib.hid (TI.out.below b7)
                      have R7 := Lib.hid (RI.out.below b7)
                      have B7 : Below w.heap.size w w7 := BW.trans (b7.mono BW.size)
                      clear b7 TI RI BW
                      go_wp2
                      go_roundw
                      case rel => exact ⟨k + 1, by omega, by go_num, T7, R7, B7⟩
                      case measure => simp [intOf]; omega
                    | false =>
                      have hr : Hid (getC c u = some (u % 1000)) := by rw [Hid, HGU.out, HGE.out]; rfl
                      have o5 : ofOI (some (u % 1000)) = .int .i64 (u % 1000) := rfl
                      go_wp2_with fail
                      (with_reducible refine (getI_api TI.out u hu0 hu1 _ hr.out).mono ?_); rintro e w7 ⟨rfl, b7⟩
                      have hcu7 := (b7.cell (p := ⟨g', k, none⟩) (by have := BW.size; exact World.block_lt_of_cell? _ _ hcu2)).trans hcu2
                      have T7 := Lib.hid (TI.out.below b7)
                      have R7 := Lib.hid (RI.out.below b7)
                      have B7 : Below w.heap.size w w7 := BW.trans (b7.mono BW.size)
                      clear b7 TI RI BW hcu2
                      go_wp2
                      go_roundw
                      case rel => exact ⟨k + 1, by omega, by go_num, T7, R7, B7⟩
                      case measure => simp [intOf]; omega
              · go_wp2
                go_ret
                exact ⟨rfl, B⟩

end Go.Proofs.Ytlklklkjjmlgeaa
