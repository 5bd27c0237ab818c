/- Several texts in one, one behind the other: SendRefConf. -/
import Derived.Test.YtnmnihlhcokjpaaGreatDoorPk08
import Derived.Test.YtnmnihlhcokjpaaGreatDoorPk09
import Derived.Test.YtnmnihlhcokjpaaGreatDoorPk23
import Derived.Test.YtnmnihlhcokjpaaGreatDoorPk04
import Derived.Deep.DeepCutAuto

/- The document's Config: contract. -/
namespace Go.Proofs.YtnmnihlhcokjpaaGreatDoor
set_option maxRecDepth 100000
open Go.ChangeShapes Go.WideShapes Go.ChangeAt Go.RowKit
set_option linter.unusedVariables false
set_option linter.unusedSimpArgs false

set_option maxHeartbeats 8000000 in
theorem rconf_is (t : Th) (A : Option Addr) (n cap : Nat) (L : List Po) (i : Int) (hL : Hid (L.length = n)) (hf : n ≤ 200) (ht : Hid (ThB t)) (hn : Hid (-9223372036854775808 ≤ t.n1 ∧ t.n1 ≤ 9223372036854775807 ∧ -9223372036854775808 ≤ t.n2 ∧ t.n2 ≤ 9223372036854775807 ∧ -9223372036854775808 ≤ t.n3 ∧ t.n3 ≤ 9223372036854775807)) (hb : Hid (∀ x ∈ L, PoB x)) (hi : -9223372036854775808 ≤ i ∧ i ≤ 9223372036854775807) (hc : Hid (A = none → cap = 0)) (w : World) (hp : Hid (PoAt w A w.heap.size L)) :
    Calls Tryz.prog 28 #[.agg (lT t A n cap).toArray, .int .i64 i] w (ConfEnd w t n (confR t L i)) := by
  obtain ⟨R, hR⟩ : ∃ R, confR t L i = R := ⟨_, rfl⟩
  rw [hR]
  have HR := Lib.hid hR
  clear hR
  obtain ⟨wb, hwb, S⟩ := hs_two w 31 31 (lT t A n cap) [.int .u64 0, .int .u64 0, .int .u32 0, .int .i64 0, .int .i64 0, .int .i64 0, .int .i64 0, .int .i64 0, .int .i64 0, .int .i64 0, .bool false, .bool false, .bool false, .int .i64 0, .bool false, .int .i64 0, .bool false, .int .i64 0, .slice none 0 0]
  go_enter Tryz.func28, Tryz.ntmps28
  go_upto_region 1 with fail
  clear hwb
  obtain ⟨X, hX⟩ : ∃ X, w.heap.size = X := ⟨_, rfl⟩
  rw [hX] at S
  obtain ⟨Y, hY⟩ : ∃ Y, X + 1 = Y := ⟨_, rfl⟩
  rw [hY] at S
  rw [hX]
  rw [hY]
  clear hX hY
  have hp1 := Lib.hid ((hp.out.below S.old (Nat.le_refl _)).wide S.old.size)
  have HC := Lib.hid (rcopied14_is t A n cap L hL hf hc wb hp1)
  have hx := S.bk 1 rfl
  go_wp2_with (refine wpList_load_row rfl 31 _ rfl X rfl _ _ (0, 0) _ hx Tryz.underlying31 rfl (by kernel_rfl) ?_)
  (with_reducible refine HC.out.mono ?_); rintro e w1 ⟨D, cap', rfl, hz, k1⟩
  have S1 := TS.take S k1
  have HZ := Lib.hid hz
  clear S hx HC hp1 k1 hz
  have hx := S1.hs.bk 1 rfl
  go_upto_region 2 with (refine wpList_store_row rfl 31 _ _ rfl X _ rfl rfl _ _ hx (by kernel_rfl) (by kernel_rfl) (by kernel_rfl) ?_)
  have S2 : TS w [(Y, 31, [.int .u64 0, .int .u64 0, .int .u32 0, .int .i64 0, .int .i64 0, .int .i64 0, .int .i64 0, .int .i64 0, .int .i64 0, .int .i64 0, .bool false, .bool false, .bool false, .int .i64 0, .bool false, .int .i64 0, .bool false, .int .i64 0, .slice none 0 0]), (X, 31, lT t D n cap')] D L _ := S1.row 1 rfl (lT t D n cap')
  generalize w1.setRow X (lT t D n cap').toArray = w2 at S2 ⊢
  clear S1 hx
  have c18 := S2.hs.cell 1 18 rfl rfl
  by_cases i0 : i < 0
  · obtain rfl : (L, []) = R := by rw [← HR.out, confR_neg i0]
    have hx := S2.hs.bk 1 rfl
    have hy := S2.hs.bk 0 rfl
    go_wp2_with (first | (refine wpList_load_row rfl 31 _ rfl X rfl _ _ (0, 0) _ hx Tryz.underlying31 rfl (by kernel_rfl) ?_) | ((refine wpList_store_row rfl 31 _ _ rfl Y _ rfl rfl _ _ hy (by kernel_rfl) (by kernel_rfl) (by kernel_rfl) ?_); (repeat go_step); exact bodyPost_ret (v := .tuple #[.agg (lT t D n cap').toArray, .slice none 0 0]) (results_two rfl _ _ Y _ _ _ _ rfl _ rfl (setRow_heap _ _ _ _ _ _ hy) Tryz.underlying31 rfl (by kernel_rfl)) rfl ⟨D, cap', _, rfl, HZ.out, (S2.row 0 rfl (lT t D n cap')).nobox, OutsR.nil _ _⟩))
  by_cases i1 : (n : Int) ≤ i
  · obtain rfl : (L, []) = R := by rw [← HR.out, confR_out (by rw [hL.out]; exact i1)]
    have hx := S2.hs.bk 1 rfl
    have hy := S2.hs.bk 0 rfl
    go_wp2_with (first | (refine wpList_load_row rfl 31 _ rfl X rfl _ _ (0, 0) _ hx Tryz.underlying31 rfl (by kernel_rfl) ?_) | ((refine wpList_store_row rfl 31 _ _ rfl Y _ rfl rfl _ _ hy (by kernel_rfl) (by kernel_rfl) (by kernel_rfl) ?_); (repeat go_step); exact bodyPost_ret (v := .tuple #[.agg (lT t D n cap').toArray, .slice none 0 0]) (results_two rfl _ _ Y _ _ _ _ rfl _ rfl (setRow_heap _ _ _ _ _ _ hy) Tryz.underlying31 rfl (by kernel_rfl)) rfl ⟨D, cap', _, rfl, HZ.out, (S2.row 0 rfl (lT t D n cap')).nobox, OutsR.nil _ _⟩))
  obtain ⟨k, rfl⟩ : ∃ k : Nat, i = k := ⟨i.toNat, by omega⟩
  have hkn : k < n := by omega
  obtain ⟨x, hx0⟩ := po_at hL.out hkn
  have hR2 := HR.out
  rw [confR_at hx0] at hR2
  have HX := Lib.hid hx0
  have hPx := Lib.hid (hb.out x (List.mem_of_getElem? hx0))
  clear hx0 i0 i1 hi
  have hki : (k : Int) < (n : Int) := by omega
  have hkz : ¬ (n : Int) ≤ (k : Int) := by omega
  obtain ⟨g, rfl, -⟩ := S2.at HX.out
  have p13 : w2.cell? ⟨g, k * 15 + 13, none⟩ = some (.bool x.ho) := S2.port_cell HX.out 13 rfl
  obtain ⟨h, hh⟩ : ∃ h, x.ho = h := ⟨_, rfl⟩
  rw [hh] at p13 hR2
  have HH := Lib.hid hh
  clear hh
  cases h with
  | true =>
    obtain rfl : (L.set k (owingP x), []) = R := hR2
    obtain ⟨_, e', _, _, hfz⟩ := S2.at HX.out
    cases e'
    have f8 := hfz (k * 15 + 8)
    have p8 : w2.cell? ⟨g, k * 15 + 8, none⟩ = some (.bool x.pe) := S2.port_cell HX.out 8 rfl
    have T9 : TS w [(Y, 31, [.int .u64 0, .int .u64 0, .int .u32 0, .int .i64 0, .int .i64 0, .int .i64 0, .int .i64 0, .int .i64 0, .int .i64 0, .int .i64 0, .bool false, .bool false, .bool false, .int .i64 0, .bool false, .int .i64 0, .bool false, .int .i64 0, .slice none 0 0]), (X, 31, lT t (some ⟨g, 0, none⟩) n cap')] (some ⟨g, 0, none⟩) (L.set k (owingP x)) (w2.setCell ⟨g, k * 15 + 8, none⟩ (.bool true)) := S2.put (y := owingP x) HX.out 8 [.bool true] (by decide) rfl
    go_upto_region 6 with fail
    generalize w2.setCell ⟨g, k * 15 + 8, none⟩ (.bool true) = w3 at T9 ⊢
    clear S2 hfz f8 p8 p13 c18
    have hx := T9.hs.bk 1 rfl
    have hy := T9.hs.bk 0 rfl
    go_wp2_with (first | (refine wpList_load_row rfl 31 _ rfl X rfl _ _ (0, 0) _ hx Tryz.underlying31 rfl (by kernel_rfl) ?_) | ((refine wpList_store_row rfl 31 _ _ rfl Y _ rfl rfl _ _ hy (by kernel_rfl) (by kernel_rfl) (by kernel_rfl) ?_); (repeat go_step); exact bodyPost_ret (v := .tuple #[.agg (lT t (some ⟨g, 0, none⟩) n cap').toArray, .slice none 0 0]) (results_two rfl _ _ Y _ _ _ _ rfl _ rfl (setRow_heap _ _ _ _ _ _ hy) Tryz.underlying31 rfl (by kernel_rfl)) rfl ⟨some ⟨g, 0, none⟩, cap', _, rfl, (fun e => by cases e), (T9.row 0 rfl (lT t (some ⟨g, 0, none⟩) n cap')).nobox, OutsR.nil _ _⟩))
  | false =>
    have HR2 := Lib.hid hR2
    clear hR2
    go_upto_region 8 with fail
    clear p13
    have c0 := S2.hs.cell 1 0 rfl rfl
    have c1 := S2.hs.cell 1 1 rfl rfl
    have c3 := S2.hs.cell 1 3 rfl rfl
    obtain ⟨b, hbd⟩ : ∃ b, (decide (t.ro ≠ t.ow) && (decide (0 ≤ t.rp) && decide (t.rp < n))) = b := ⟨_, rfl⟩
    have HBD := Lib.hid hbd
    clear hbd
    go_cut [50] (fun u wx => u = .bool b ∧ wx = w2)
    case first =>
      have hbd := HBD.out
      by_cases r1 : t.ro = t.ow
      · have q1 : (t.ro != t.ow) = false := by simp [r1]
        obtain rfl : false = b := by rw [← hbd]; simp [r1]
        clear r1 hbd
        go_wp2_with fail
        go_meet
        exact ⟨rfl, rfl⟩
      · have q1 : (t.ro != t.ow) = true := by simp [r1]
        by_cases r2 : 0 ≤ t.rp
        · by_cases r3 : t.rp < (n : Int)
          · obtain rfl : true = b := by rw [← hbd]; simp [r1, r2, r3]
            clear hbd r1
            go_wp2_with fail
            go_meet
            exact ⟨rfl, rfl⟩
          · obtain rfl : false = b := by rw [← hbd]; simp [r3]
            clear hbd r1
            go_wp2_with fail
            go_meet
            exact ⟨rfl, rfl⟩
        · obtain rfl : false = b := by rw [← hbd]; simp [r2]
          clear hbd r1
          go_wp2_with fail
          go_meet
          exact ⟨rfl, rfl⟩
    case rest =>
      obtain ⟨rfl, rfl⟩ := hcut
      rename World => w3
      go_upto_if 50 with fail
      obtain ⟨a, ha⟩ : ∃ a, toldI t L = a := ⟨_, rfl⟩
      have HA := Lib.hid ha
      clear ha
      go_cut [6] (fun u wx => u = .int .i64 a ∧ wx = w3)
      case first =>
        have hbd := HBD.out
        have ha := HA.out
        unfold toldI at ha
        cases b with
        | false =>
          obtain rfl : 0 = a := by
            rw [← ha]
            simp only [Bool.and_eq_false_iff, decide_eq_false_iff_not] at hbd
            split
            · rfl
            · rename_i r1
              split
              · rename_i r2
                rw [List.getElem?_eq_none (by have := hL.out; omega)]
              · rfl
          clear hbd ha
          go_wp2_with fail
          go_meet
          exact ⟨rfl, rfl⟩
        | true =>
          simp only [Bool.and_eq_true, decide_eq_true_eq] at hbd
          obtain ⟨r1, r2, r3⟩ := hbd
          obtain ⟨j, hj⟩ : ∃ j : Nat, t.rp = j := ⟨t.rp.toNat, by omega⟩
          have hjn : j < n := by omega
          obtain ⟨y, hy⟩ := po_at hL.out hjn
          rw [if_neg r1, if_pos r2, hj, Int.toNat_natCast, hy] at ha
          simp only at ha
          rw [hj] at c3
          have p10 : w3.cell? ⟨g, j * 15 + 9 + 1, none⟩ = some (.int .i64 y.av) := S2.port_cell hy 10 rfl
          have hPy := hb.out y (List.mem_of_getElem? hy)
          have HO := fun W => Lib.hid (refolder_any y.av (by unfold PoB at hPy; omega) (by unfold PoB at hPy; omega) W)
          rw [ha] at HO
          have hji : (j : Int) < (n : Int) := by omega
          have hjz : ¬ (n : Int) ≤ (j : Int) := by omega
          clear r1 r2 r3 hj hy hPy ha
          go_wp2_with fail
          (with_reducible refine (HO _).out.mono ?_); rintro e v2 ⟨rfl, rfl⟩
          go_wp2_with fail
          go_meet
          exact ⟨rfl, rfl⟩
      case rest =>
        obtain ⟨rfl, rfl⟩ := hcut
        rename World => w4
        have HR3 := HR2.out
        rw [HA.out] at HR3
        have c4 := S2.hs.cell 1 4 rfl rfl
        by_cases hage : t.n1 ≤ a
        · obtain rfl : (L, []) = R := by rw [← HR3, if_neg (by decide), if_pos hage]
          clear HR3
          have hx := S2.hs.bk 1 rfl
          have hy := S2.hs.bk 0 rfl
          go_wp2_with (first | (refine wpList_load_row rfl 31 _ rfl X rfl _ _ (0, 0) _ hx Tryz.underlying31 rfl (by kernel_rfl) ?_) | ((refine wpList_store_row rfl 31 _ _ rfl Y _ rfl rfl _ _ hy (by kernel_rfl) (by kernel_rfl) (by kernel_rfl) ?_); (repeat go_step); exact bodyPost_ret (v := .tuple #[.agg (lT t (some ⟨g, 0, none⟩) n cap').toArray, .slice none 0 0]) (results_two rfl _ _ Y _ _ _ _ rfl _ rfl (setRow_heap _ _ _ _ _ _ hy) Tryz.underlying31 rfl (by kernel_rfl)) rfl ⟨some ⟨g, 0, none⟩, cap', _, rfl, (fun e => by cases e), (S2.row 0 rfl (lT t (some ⟨g, 0, none⟩) n cap')).nobox, OutsR.nil _ _⟩))
        · obtain rfl : (L.set k (sentP x), [⟨k, t.ow % 281474976710656, confQ t a x⟩]) = R := by rw [← HR3, if_neg (by decide), if_neg hage]
          clear HR3
          go_upto_region 12 with fail
          clear hage c18 c0 c1 c3 c4
          have F0 : w4.drew.cell? ⟨X, 0, none⟩ = some (.int .u64 t.ow) ∧ w4.drew.cell? ⟨X, 1, none⟩ = some (.int .u64 t.ro) ∧ w4.drew.cell? ⟨X, 2, none⟩ = some (.int .u32 t.co) ∧ w4.drew.cell? ⟨X, 4, none⟩ = some (.int .i64 t.n1) ∧ w4.drew.cell? ⟨X, 4 + 1, none⟩ = some (.int .i64 t.n2) ∧ w4.drew.cell? ⟨X, 4 + 2, none⟩ = some (.int .i64 t.n3) ∧ w4.drew.cell? ⟨X, 11, none⟩ = some (.bool t.ch) ∧ w4.drew.cell? ⟨X, 18, none⟩ = some (.slice (some ⟨g, 0, none⟩) n cap') ∧ w4.drew.cell? ⟨g, k * 15, none⟩ = some (.int .u16 x.id) ∧ w4.drew.cell? ⟨g, k * 15 + 7, none⟩ = some (.bool x.ak) := ⟨(S2.below (wy := World.drew _) ((Below.refl _ _).drew)).hs.cell 1 0 rfl rfl, (S2.below (wy := World.drew _) ((Below.refl _ _).drew)).hs.cell 1 1 rfl rfl, (S2.below (wy := World.drew _) ((Below.refl _ _).drew)).hs.cell 1 2 rfl rfl, (S2.below (wy := World.drew _) ((Below.refl _ _).drew)).hs.cell 1 4 rfl rfl, (S2.below (wy := World.drew _) ((Below.refl _ _).drew)).hs.cell 1 5 rfl rfl, (S2.below (wy := World.drew _) ((Below.refl _ _).drew)).hs.cell 1 6 rfl rfl, (S2.below (wy := World.drew _) ((Below.refl _ _).drew)).hs.cell 1 11 rfl rfl, (S2.below (wy := World.drew _) ((Below.refl _ _).drew)).hs.cell 1 18 rfl rfl, (S2.below (wy := World.drew _) ((Below.refl _ _).drew)).port_cell HX.out 0 rfl, (S2.below (wy := World.drew _) ((Below.refl _ _).drew)).port_cell HX.out 7 rfl⟩
          have K1 : ∀ o, Hid ((w4.alloc o).drew.cell? ⟨X, 0, none⟩ = some (.int .u64 t.ow) ∧ (w4.alloc o).drew.cell? ⟨X, 1, none⟩ = some (.int .u64 t.ro) ∧ (w4.alloc o).drew.cell? ⟨X, 2, none⟩ = some (.int .u32 t.co) ∧ (w4.alloc o).drew.cell? ⟨X, 4, none⟩ = some (.int .i64 t.n1) ∧ (w4.alloc o).drew.cell? ⟨X, 4 + 1, none⟩ = some (.int .i64 t.n2) ∧ (w4.alloc o).drew.cell? ⟨X, 4 + 2, none⟩ = some (.int .i64 t.n3) ∧ (w4.alloc o).drew.cell? ⟨X, 11, none⟩ = some (.bool t.ch) ∧ (w4.alloc o).drew.cell? ⟨X, 18, none⟩ = some (.slice (some ⟨g, 0, none⟩) n cap') ∧ (w4.alloc o).drew.cell? ⟨g, k * 15, none⟩ = some (.int .u16 x.id) ∧ (w4.alloc o).drew.cell? ⟨g, k * 15 + 7, none⟩ = some (.bool x.ak)) := fun o => by
            have S3 := (S2.below (new_below w4 o)).below (wy := World.drew _) ((Below.refl _ _).drew)
            exact Lib.hid ⟨S3.hs.cell 1 0 rfl rfl, S3.hs.cell 1 1 rfl rfl, S3.hs.cell 1 2 rfl rfl, S3.hs.cell 1 4 rfl rfl, S3.hs.cell 1 5 rfl rfl, S3.hs.cell 1 6 rfl rfl, S3.hs.cell 1 11 rfl rfl, S3.hs.cell 1 18 rfl rfl, S3.port_cell HX.out 0 rfl, S3.port_cell HX.out 7 rfl⟩
          have HN := hn.out
          have HCT := fun W s (h : -9223372036854775808 ≤ s ∧ s ≤ 9223372036854775807) => Lib.hid (refcut_any s h.1 h.2 W)
          have hab := toldI_bd t L
          rw [HA.out] at hab
          have HC0 := fun W => HCT W a (by omega)
          have HC1 := fun W => HCT W t.n1 (by omega)
          have HC2 := fun W => HCT W t.n2 (by omega)
          have HC3 := fun W => HCT W t.n3 (by omega)
          clear HCT hab HN
          have u0 : IntKind.u16.wrap (cutI a) = cutI a := by have := cutI_bd a; rw [show IntKind.u16.wrap (cutI a) = cutI a % 65536 by simp [IntKind.wrap, IntKind.bits, IntKind.signed]]; omega
          have u1 : IntKind.u16.wrap (cutI t.n1) = cutI t.n1 := by have := cutI_bd t.n1; rw [show IntKind.u16.wrap (cutI t.n1) = cutI t.n1 % 65536 by simp [IntKind.wrap, IntKind.bits, IntKind.signed]]; omega
          have u2 : IntKind.u16.wrap (cutI t.n2) = cutI t.n2 := by have := cutI_bd t.n2; rw [show IntKind.u16.wrap (cutI t.n2) = cutI t.n2 % 65536 by simp [IntKind.wrap, IntKind.bits, IntKind.signed]]; omega
          have u3 : IntKind.u16.wrap (cutI t.n3) = cutI t.n3 := by have := cutI_bd t.n3; rw [show IntKind.u16.wrap (cutI t.n3) = cutI t.n3 % 65536 by simp [IntKind.wrap, IntKind.bits, IntKind.signed]]; omega
          go_cut [7] (fun q wx => ∃ V, q = .pointer (some ⟨V, 0, none⟩) ∧ TS w [(V, 46, lB (confQ t a x)), (Y, 31, [.int .u64 0, .int .u64 0, .int .u32 0, .int .i64 0, .int .i64 0, .int .i64 0, .int .i64 0, .int .i64 0, .int .i64 0, .int .i64 0, .bool false, .bool false, .bool false, .int .i64 0, .bool false, .int .i64 0, .bool false, .int .i64 0, .slice none 0 0]), (X, 31, lT t (some ⟨g, 0, none⟩) n cap')] (some ⟨g, 0, none⟩) L wx)
          case first =>
            go_region_held3 (fun w' => w'.cell? ⟨X, 0, none⟩ = some (.int .u64 t.ow) ∧ w'.cell? ⟨X, 1, none⟩ = some (.int .u64 t.ro) ∧ w'.cell? ⟨X, 2, none⟩ = some (.int .u32 t.co) ∧ w'.cell? ⟨X, 4, none⟩ = some (.int .i64 t.n1) ∧ w'.cell? ⟨X, 4 + 1, none⟩ = some (.int .i64 t.n2) ∧ w'.cell? ⟨X, 4 + 2, none⟩ = some (.int .i64 t.n3) ∧ w'.cell? ⟨X, 11, none⟩ = some (.bool t.ch) ∧ w'.cell? ⟨X, 18, none⟩ = some (.slice (some ⟨g, 0, none⟩) n cap') ∧ w'.cell? ⟨g, k * 15, none⟩ = some (.int .u16 x.id) ∧ w'.cell? ⟨g, k * 15 + 7, none⟩ = some (.bool x.ak)) (first | with_reducible exact F0 | with_reducible exact (K1 _).out | assumption) (first | (go_at_call 64; (with_reducible refine (HC0 _).out.mono ?_); rintro e w5 ⟨rfl, rfl⟩) | (go_at_call 64; (with_reducible refine (HC1 _).out.mono ?_); rintro e w5 ⟨rfl, rfl⟩) | (go_at_call 64; (with_reducible refine (HC2 _).out.mono ?_); rintro e w5 ⟨rfl, rfl⟩) | (go_at_call 64; (with_reducible refine (HC3 _).out.mono ?_); rintro e w5 ⟨rfl, rfl⟩))
            all_goals go_wp2_with fail
            all_goals go_meet
            all_goals exact ⟨_, rfl, (S2.al rfl 46 (lB (confQ t a x))).below (wy := World.drew _) ((Below.refl _ _).drew)⟩
          case rest =>
            clear F0 K1 HC0 HC1 HC2 HC3 u0 u1 u2 u3 S2
            obtain ⟨V, rfl, S3⟩ := hcut
            go_upto_region 13 with fail
            refine wp_region_held_drew (S := (fun w' => ∃ M, M.length = n ∧ TS w [(V, 46, lB (confQ t a x)), (Y, 31, [.int .u64 0, .int .u64 0, .int .u32 0, .int .i64 0, .int .i64 0, .int .i64 0, .int .i64 0, .int .i64 0, .int .i64 0, .int .i64 0, .bool false, .bool false, .bool false, .int .i64 0, .bool false, .int .i64 0, .bool false, .int .i64 0, .slice none 0 0]), (X, 31, lT t (some ⟨g, 0, none⟩) n cap')] (some ⟨g, 0, none⟩) M w')) (by kernel_rfl) ⟨_, hL.out, S3.below (wy := World.drew _) ((Below.refl _ _).drew)⟩ (fun hHeld => ?_)
            have S4 := S3.below (wy := World.drew _) ((Below.refl _ _).drew)
            refine wpAnyH_take (i := 0) (v := ?_) rfl (by kernel_rfl) (by kernel_rfl) (by kernel_rfl) (fun _ _ _ h => h) (Or.inl ⟨by kernel_rfl, ?_⟩) (by assumption) ?_
            rotate_left
            · intro w' hSw; (try dsimp only at hSw); go_simp; with_reducible rfl
            try simp only [Act.put, List.setIfInBounds_toArray, List.set_cons_succ]
            refine wpAnyH_take (i := 1) (v := ?_) rfl (by kernel_rfl) (by kernel_rfl) (by kernel_rfl) (fun _ _ _ h => h) (Or.inl ⟨by kernel_rfl, ?_⟩) (by assumption) ?_
            rotate_left
            · intro w' hSw; (try dsimp only at hSw); have c0 := hSw.choose_spec.2.hs.cell 2 18 rfl rfl; go_simp; with_reducible rfl
            try simp only [Act.put, List.setIfInBounds_toArray, List.set_cons_succ]
            refine wpAnyH_take (i := 2) (v := ?_) rfl (by kernel_rfl) (by kernel_rfl) (by kernel_rfl) (fun _ _ _ h => h) (Or.inl ⟨by kernel_rfl, ?_⟩) (by assumption) ?_
            rotate_left
            · intro w' hSw; (try dsimp only at hSw); go_simp; with_reducible rfl
            try simp only [Act.put, List.setIfInBounds_toArray, List.set_cons_succ]
            refine wpAnyH_take (i := 3) (v := ?_) rfl (by kernel_rfl) (by kernel_rfl) (by kernel_rfl) (fun _ _ _ h => h) (Or.inl ⟨by kernel_rfl, ?_⟩) (by assumption) ?_
            rotate_left
            · intro w' hSw; (try dsimp only at hSw); go_simp; with_reducible rfl
            try simp only [Act.put, List.setIfInBounds_toArray, List.set_cons_succ]
            refine wpAnyH_take (i := 4) (v := ?_) rfl (by kernel_rfl) (by kernel_rfl) (by kernel_rfl) (fun _ _ _ h => h) (Or.inl ⟨by kernel_rfl, ?_⟩) (by assumption) ?_
            rotate_left
            · intro w' hSw; (try dsimp only at hSw); have c0 := hSw.choose_spec.2.hs.cell 2 18 rfl rfl; go_simp; with_reducible rfl
            try simp only [Act.put, List.setIfInBounds_toArray, List.set_cons_succ]
            refine wpAnyH_take (i := 5) (v := ?_) rfl (by kernel_rfl) (by kernel_rfl) (by kernel_rfl) (fun _ _ _ h => h) (Or.inl ⟨by kernel_rfl, ?_⟩) (by assumption) ?_
            rotate_left
            · intro w' hSw; (try dsimp only at hSw); go_simp; with_reducible rfl
            try simp only [Act.put, List.setIfInBounds_toArray, List.set_cons_succ]
            refine wpAnyH_take (i := 6) (v := ?_) rfl (by kernel_rfl) (by kernel_rfl) (by kernel_rfl) (fun _ _ _ h => h) (Or.inl ⟨by kernel_rfl, ?_⟩) (by assumption) ?_
            rotate_left
            · intro w' hSw; (try dsimp only at hSw); go_simp; with_reducible rfl
            try simp only [Act.put, List.setIfInBounds_toArray, List.set_cons_succ]
            refine wpAnyH_take (i := 7) (v := ?_) rfl (by kernel_rfl) (by kernel_rfl) (by kernel_rfl) (fun _ _ _ h => h) (Or.inl ⟨by kernel_rfl, ?_⟩) (by assumption) ?_
            rotate_left
            · intro w' hSw; (try dsimp only at hSw); go_simp; with_reducible rfl
            try simp only [Act.put, List.setIfInBounds_toArray, List.set_cons_succ]
            obtain ⟨x1, hx1⟩ : ∃ y, ({ x with ak := false } : Po) = y := ⟨_, rfl⟩
            have p7 := S3.port_cell HX.out 7 rfl
            have p8 := S3.port_cell HX.out 8 rfl
            obtain ⟨_, e', _, _, hfz⟩ := S3.at HX.out
            cases e'
            have f7 := hfz (k * 15 + 7)
            have f8 := hfz (k * 15 + 8)
            clear hfz
            have T5 := S4.put (y := x1) HX.out 7 [.bool false] (by decide) (by rw [← hx1]; rfl)
            refine wpAnyH_ready (rs := [8]) (by kernel_rfl) (by simp) ?_
            refine AllReadyH.cons rfl (fun K hK => ?_) AllReadyH.nil
            go_simp
            refine hK.out _ _ (⟨_, by rw [List.length_set]; exact hL.out, T5⟩) (fun hHeld => ?_)
            clear hK K
            try simp only [Act.put, List.setIfInBounds_toArray, List.set_cons_succ]
            have HX1 : (L.set k x1)[k]? = some x1 := List.getElem?_set_self (po_lt HX.out)
            refine wpAnyH_take (i := 9) (v := ?_) rfl (by kernel_rfl) (by kernel_rfl) (by kernel_rfl) (fun _ _ _ h => h) (Or.inl ⟨by kernel_rfl, ?_⟩) (by assumption) ?_
            rotate_left
            · intro w' hSw; (try dsimp only at hSw); go_simp; with_reducible rfl
            try simp only [Act.put, List.setIfInBounds_toArray, List.set_cons_succ]
            refine wpAnyH_take (i := 10) (v := ?_) rfl (by kernel_rfl) (by kernel_rfl) (by kernel_rfl) (fun _ _ _ h => h) (Or.inl ⟨by kernel_rfl, ?_⟩) (by assumption) ?_
            rotate_left
            · intro w' hSw; (try dsimp only at hSw); go_simp; with_reducible rfl
            try simp only [Act.put, List.getElem_toArray, List.getElem_cons_succ, List.getElem_cons_zero, List.setIfInBounds_toArray, List.set_cons_succ]
            obtain ⟨x2, hx2⟩ : ∃ y, ({ x1 with pe := false } : Po) = y := ⟨_, rfl⟩
            have T6 := T5.put (y := x2) HX1 8 [.bool false] (by decide) (by rw [← hx2]; rfl)
            simp only [World.setCells] at T5 T6
            refine wpAnyH_ready (rs := [11]) (by kernel_rfl) (by simp) ?_
            refine AllReadyH.cons rfl (fun K hK => ?_) AllReadyH.nil
            go_simp
            refine hK.out _ _ (⟨_, by rw [List.length_set, List.length_set]; exact hL.out, T6⟩) (fun hHeld => ?_)
            clear hK K
            try simp only [Act.put, List.getElem_toArray, List.getElem_cons_succ, List.getElem_cons_zero, List.setIfInBounds_toArray, List.set_cons_succ]
            refine wpAnyH_done (by kernel_rfl) ?_ _
            rw [List.set_set] at T6
            have HX2 : (L.set k x2)[k]? = some x2 := List.getElem?_set_self (po_lt HX.out)
            have T6' : TS w [(V, 46, lB (confQ t a x)), (Y, 31, [.int .u64 0, .int .u64 0, .int .u32 0, .int .i64 0, .int .i64 0, .int .i64 0, .int .i64 0, .int .i64 0, .int .i64 0, .int .i64 0, .bool false, .bool false, .bool false, .int .i64 0, .bool false, .int .i64 0, .bool false, .int .i64 0, .slice none 0 0]), (X, 31, lT t (some ⟨g, 0, none⟩) n cap')] (some ⟨g, 0, none⟩) (L.set k x2) ((wc.setCell ⟨g, k * 15 + 7, none⟩ (.bool false)).setCell ⟨g, k * 15 + 8, none⟩ (.bool false)).drew := T6
            clear T6
            have T6 := T6'
            clear T6'
            generalize ((wc.setCell ⟨g, k * 15 + 7, none⟩ (.bool false)).setCell ⟨g, k * 15 + 8, none⟩ (.bool false)).drew = w6 at T6 ⊢
            clear S4 T5 p7 p8 f7 f8 hHeld S3
            have hth : World.there _ g (k * 15 + 13) ([.bool true, .int .i64 0] : List Value).toArray.size := fun j hj => by
              have hj' : j < 2 := hj
              have := T6.there HX2 x2 (13 + j) (by show 13 + j < 15; omega)
              rwa [← Nat.add_assoc] at this
            have c18 := T6.hs.cell 2 18 rfl rfl
            go_upto_region 15 with (with_reducible refine wpList_store_mid rfl 28 (.tmp 120) _ rfl g (k * 15 + 13) ([.bool true, .int .i64 0] : List Value).toArray (by kernel_rfl) (by kernel_rfl) hth (by kernel_rfl) (by kernel_rfl) ?_)
            have T7 := T6.put (y := sentP x) HX2 13 [.bool true, .int .i64 0] (by decide) (by rw [← hx2, ← hx1]; rfl)
            rw [List.set_set] at T7
            have T7' : TS w [(V, 46, lB (confQ t a x)), (Y, 31, [.int .u64 0, .int .u64 0, .int .u32 0, .int .i64 0, .int .i64 0, .int .i64 0, .int .i64 0, .int .i64 0, .int .i64 0, .int .i64 0, .bool false, .bool false, .bool false, .int .i64 0, .bool false, .int .i64 0, .bool false, .int .i64 0, .slice none 0 0]), (X, 31, lT t (some ⟨g, 0, none⟩) n cap')] (some ⟨g, 0, none⟩) (L.set k (sentP x)) (w6.setCells g (k * 15 + 13) ([.bool true, .int .i64 0] : List Value).toArray.toList) := T7
            generalize w6.setCells g (k * 15 + 13) ([.bool true, .int .i64 0] : List Value).toArray.toList = w7 at T7' ⊢
            clear T6 T7 hth c18 hx1 hx2 HX1 HX2
            have hcB : BqIn (confQ t a x) := by
              have h1 := ht.out
              have h2 := hPx.out
              have q0 := cutI_bd a
              have q1 := cutI_bd t.n1
              have q2 := cutI_bd t.n2
              have q3 := cutI_bd t.n3
              unfold ThB at h1
              unfold PoB at h2
              unfold BqIn BpIn confQ
              dsimp only
              omega
            have HOT := fun W => Lib.hid (rout_is t (some ⟨g, 0, none⟩) n cap' k (confQ t a x) hcB ht.out.1 W)
            clear hcB
            refine wp_region_held_drew (S := (fun w' => Bk w' X 31 (lT t (some ⟨g, 0, none⟩) n cap') ∧ Bk w' V 46 (lB (confQ t a x)))) (by kernel_rfl) ⟨(T7'.hs.1 2 _ _ _ rfl).1, (T7'.hs.1 0 _ _ _ rfl).1⟩ (fun hHeld => ?_)
            have S7 := T7'.below (wy := World.drew _) ((Below.refl _ _).drew)
            refine wpAnyH_take (i := 0) (v := _) rfl (by kernel_rfl) (by kernel_rfl) (by kernel_rfl) (fun _ _ _ h => h) (Or.inl ⟨by kernel_rfl, fun w' hSw => exec_load_row 31 _ rfl X (by kernel_rfl) _ _ (0, 0) _ ((hSw.1)) Tryz.underlying31 rfl (by kernel_rfl)⟩) (by assumption) ?_
            try simp only [Act.put, List.setIfInBounds_toArray, List.set_cons_succ]
            refine wpAnyH_take (i := 1) (v := _) rfl (by kernel_rfl) (by kernel_rfl) (by kernel_rfl) (fun _ _ _ h => h) (Or.inl ⟨by kernel_rfl, fun w' hSw => exec_load_row 31 _ rfl X (by kernel_rfl) _ _ (0, 0) _ ((hSw.1)) Tryz.underlying31 rfl (by kernel_rfl)⟩) (by assumption) ?_
            try simp only [Act.put, List.setIfInBounds_toArray, List.set_cons_succ]
            refine wpAnyH_take (i := 2) (v := ?_) rfl (by kernel_rfl) (by kernel_rfl) (by kernel_rfl) (fun _ _ _ h => h) (Or.inl ⟨by kernel_rfl, ?_⟩) (by assumption) ?_
            rotate_left
            · intro w' hSw; (try dsimp only at hSw); go_simp; with_reducible rfl
            try simp only [Act.put, List.setIfInBounds_toArray, List.set_cons_succ]
            refine wpAnyH_take (i := 3) (v := _) rfl (by kernel_rfl) (by kernel_rfl) (by kernel_rfl) (fun _ _ _ h => h) (Or.inl ⟨by kernel_rfl, fun w' hSw => exec_load_row 46 _ rfl V (by kernel_rfl) _ _ (0, 0) _ ((hSw.2)) Tryz.underlying46 rfl (by kernel_rfl)⟩) (by assumption) ?_
            try simp only [Act.put, List.setIfInBounds_toArray, List.set_cons_succ]
            refine wpAnyH_ready (rs := [4]) (by kernel_rfl) (by simp) ?_
            refine AllReadyH.cons rfl (fun K hK => ?_) AllReadyH.nil
            go_simp
            (with_reducible refine (HOT _).out.mono ?_); rintro e w8 ⟨g5, cap5, rfl, ⟨hocb, hrw⟩, b8⟩
            have S8 := S7.below b8
            have hocb : w.heap.size ≤ g5 := Nat.le_trans S7.old.size hocb
            refine hK.out _ _ (⟨(S8.hs.1 2 _ _ _ rfl).1, (S8.hs.1 0 _ _ _ rfl).1⟩) (fun hHeld => ?_)
            clear hK K
            try simp only [Act.put, List.setIfInBounds_toArray, List.set_cons_succ]
            obtain ⟨oc, hoc0⟩ : ∃ c : Oc, (⟨⟨k, t.ow % 281474976710656, confQ t a x⟩, g5, cap5⟩ : Oc) = c := ⟨_, rfl⟩
            rw [hoc0] at hrw
            obtain ⟨N, hN⟩ : ∃ N, w8.heap.size = N := ⟨_, rfl⟩
            have hNb : w.heap.size ≤ N := by rw [← hN]; exact S8.old.size
            have hYN : Y < N := by rw [← hN]; exact S8.hs.lt 1 rfl
            have hYg : Y ≠ g5 := by
              have h1 := (S8.hs.1 1 _ _ _ rfl).1
              intro e
              obtain ⟨sp, -, -, h2⟩ := hrw
              rw [← hoc0] at h2
              exact bk_ne h1 h2 (by decide) e
            refine wpAnyH_ready (rs := [5, 6]) (by kernel_rfl) (by simp) ?_
            refine AllReadyH.cons rfl (fun K hK => ?_) (AllReadyH.cons rfl (fun K hK => ?_) AllReadyH.nil)
            · have hB := new_below w8 (.cells (lO oc).toArray 83)
              have T9 := S8.below hB
              have hk : Bk (w8.alloc (.cells (lO oc).toArray 83)) N 83 (lO oc) := by rw [← hN]; exact heap_alloc_new _ _
              have hr9 : Row (w8.alloc (.cells (lO oc).toArray 83)) g5 cap5 (ouB oc.o) := by
                have q := hrw.below hB hrw.lt
                rw [← hoc0] at q ⊢
                exact q
              have hy : (w8.alloc (.cells (lO oc).toArray 83)).heap[Y]? = _ := T9.hs.bk 1 rfl
              obtain ⟨w9, hw9⟩ : ∃ w9, w8.alloc (.cells (lO oc).toArray 83) = w9 := ⟨_, rfl⟩
              rw [hw9] at T9 hk hr9 hy
              have hw9' : w8.alloc (.cells (lO ⟨⟨k, t.ow % 281474976710656, confQ t a x⟩, g5, cap5⟩).toArray 83) = w9 := by rw [hoc0]; exact hw9
              have T10 := T9.row 1 rfl (lT t (some ⟨g, 0, none⟩) n cap')
              have hkN : Bk (w9.setRow Y (lT t (some ⟨g, 0, none⟩) n cap').toArray) N 83 (lO oc) := (setRow_other _ Y N _ (by omega)).trans hk
              have hyK := setRow_heap w9 Y _ (lT t (some ⟨g, 0, none⟩) n cap').toArray _ _ hy
              have hrF : Row (w9.setRow Y (lT t (some ⟨g, 0, none⟩) n cap').toArray) g5 cap5 (ouB oc.o) := by
                obtain ⟨sp, y1, y2, y3⟩ := hr9
                exact ⟨sp, y1, y2, (setRow_other _ Y g5 _ hYg.symm).trans y3⟩
              have hOut : OutsR (w9.setRow Y (lT t (some ⟨g, 0, none⟩) n cap').toArray) w.heap.size (.slice (some ⟨N, 0, none⟩) 1 1) [⟨k, t.ow % 281474976710656, confQ t a x⟩] := ⟨[oc], by rw [← hoc0]; rfl, ⟨rfl, .inr ⟨N, 1, (lO oc).toArray, rfl, hNb, hkN, Nat.le_refl _, by decide, rfl, rfl⟩⟩, fun c hc => by obtain rfl := List.mem_singleton.1 hc; exact ⟨by rw [← hoc0]; exact hocb, by rw [← hoc0] at hrF ⊢; exact hrF⟩⟩
              have hlen := lO_len oc
              have hfold : List.foldl (fun (cs : Array Value) (x : Value × Nat) => cs.setIfInBounds x.snd x.fst) #[.int .i64 0, .int .u64 0, .int .u64 0, .int .u16 0, .slice none 0 0] (lO oc).zipIdx = (lO oc).toArray := rfl
              go_simp
              try rw [hw9']
              try rw [hw9]
              try rw [hN]
              refine hK.out _ _ ⟨(T9.hs.1 2 _ _ _ rfl).1, (T9.hs.1 0 _ _ _ rfl).1⟩ (fun hHeld => ?_)
              clear hK K
              try simp only [Act.put, List.getElem_toArray, List.getElem_cons_succ, List.getElem_cons_zero, List.setIfInBounds_toArray, List.set_cons_succ, List.set_cons_zero]
              refine wpAnyH_ready (rs := [6]) (by kernel_rfl) (by simp) ?_
              refine AllReadyH.cons rfl (fun K hK => ?_) AllReadyH.nil
              refine exec_if_store (by kernel_rfl) 31 (.tmp 4) (.tmp 121) rfl Y (lT t (some ⟨g, 0, none⟩) n cap').toArray (by kernel_rfl) (by kernel_rfl) _ _ hy (by kernel_rfl) (by kernel_rfl) (by kernel_rfl) ?_
              refine hK.out _ _ ⟨(T10.hs.1 2 _ _ _ rfl).1, (T10.hs.1 0 _ _ _ rfl).1⟩ (fun hHeld => ?_)
              clear hK K
              try simp only [Act.put, List.getElem_toArray, List.getElem_cons_succ, List.getElem_cons_zero, List.setIfInBounds_toArray, List.set_cons_succ, List.set_cons_zero]
              refine wpAnyH_take (i := 7) (v := ?_) rfl (by kernel_rfl) (by kernel_rfl) (by kernel_rfl) (fun _ _ _ h => h) (Or.inl ⟨by kernel_rfl, ?_⟩) (by assumption) ?_
              rotate_left
              · intro w' hSw; (try dsimp only at hSw); go_simp; with_reducible rfl
              try simp only [Act.put, List.setIfInBounds_toArray, List.set_cons_succ]
              refine wpAnyH_done (by kernel_rfl) ?_ _
              repeat go_step
              exact bodyPost_ret (v := .tuple #[.agg (lT t (some ⟨g, 0, none⟩) n cap').toArray, .slice (some ⟨N, 0, none⟩) 1 1]) (results_two rfl _ _ Y _ _ _ _ rfl _ rfl hyK Tryz.underlying31 rfl (by kernel_rfl)) rfl ⟨some ⟨g, 0, none⟩, cap', _, rfl, (fun e => by cases e), T10.nobox, hOut⟩
            · have hy := S8.hs.bk 1 rfl
              have T9 := S8.row 1 rfl (lT t (some ⟨g, 0, none⟩) n cap')
              have hyK := setRow_heap w8 Y _ (lT t (some ⟨g, 0, none⟩) n cap').toArray _ _ hy
              have hr9 : Row (w8.setRow Y (lT t (some ⟨g, 0, none⟩) n cap').toArray) g5 cap5 (ouB oc.o) := by
                have q := hrw
                rw [← hoc0] at q ⊢
                obtain ⟨sp, y1, y2, y3⟩ := q
                exact ⟨sp, y1, y2, (setRow_other _ Y g5 _ hYg.symm).trans y3⟩
              refine exec_if_store (by kernel_rfl) 31 (.tmp 4) (.tmp 121) rfl Y (lT t (some ⟨g, 0, none⟩) n cap').toArray (by kernel_rfl) (by kernel_rfl) _ _ hy (by kernel_rfl) (by kernel_rfl) (by kernel_rfl) ?_
              refine hK.out _ _ ⟨(T9.hs.1 2 _ _ _ rfl).1, (T9.hs.1 0 _ _ _ rfl).1⟩ (fun hHeld => ?_)
              clear hK K
              try simp only [Act.put, List.getElem_toArray, List.getElem_cons_succ, List.getElem_cons_zero, List.setIfInBounds_toArray, List.set_cons_succ, List.set_cons_zero]
              have hN9 : (w8.setRow Y (lT t (some ⟨g, 0, none⟩) n cap').toArray).heap.size = N := by rw [← hN]; simp [World.setRow]
              obtain ⟨w9, hw9⟩ : ∃ w9, w8.setRow Y (lT t (some ⟨g, 0, none⟩) n cap').toArray = w9 := ⟨_, rfl⟩
              rw [hw9] at T9 hyK hr9 hN9 ⊢
              have hB := new_below w9 (.cells (lO oc).toArray 83)
              have T10 := T9.below hB
              have hkN : Bk (w9.alloc (.cells (lO oc).toArray 83)) N 83 (lO oc) := by rw [← hN9]; exact heap_alloc_new _ _
              have hrF := hr9.below hB hr9.lt
              have hyF : (w9.alloc (.cells (lO oc).toArray 83)).heap[Y]? = _ := T10.hs.bk 1 rfl
              obtain ⟨wF, hwF⟩ : ∃ wF, w9.alloc (.cells (lO oc).toArray 83) = wF := ⟨_, rfl⟩
              rw [hwF] at T10 hkN hrF hyF
              have hwF' : w9.alloc (.cells (lO ⟨⟨k, t.ow % 281474976710656, confQ t a x⟩, g5, cap5⟩).toArray 83) = wF := by rw [hoc0]; exact hwF
              have hOut : OutsR wF w.heap.size (.slice (some ⟨N, 0, none⟩) 1 1) [⟨k, t.ow % 281474976710656, confQ t a x⟩] := ⟨[oc], by rw [← hoc0]; rfl, ⟨rfl, .inr ⟨N, 1, (lO oc).toArray, rfl, hNb, hkN, Nat.le_refl _, by decide, rfl, rfl⟩⟩, fun c hc => by obtain rfl := List.mem_singleton.1 hc; exact ⟨by rw [← hoc0]; exact hocb, by rw [← hoc0] at hrF ⊢; exact hrF⟩⟩
              refine wpAnyH_ready (rs := [5]) (by kernel_rfl) (by simp) ?_
              refine AllReadyH.cons rfl (fun K hK => ?_) AllReadyH.nil
              have hlen := lO_len oc
              have hfold : List.foldl (fun (cs : Array Value) (x : Value × Nat) => cs.setIfInBounds x.snd x.fst) #[.int .i64 0, .int .u64 0, .int .u64 0, .int .u16 0, .slice none 0 0] (lO oc).zipIdx = (lO oc).toArray := rfl
              go_simp
              try rw [hwF']
              try rw [hwF]
              try rw [hN9]
              refine hK.out _ _ ⟨(T10.hs.1 2 _ _ _ rfl).1, (T10.hs.1 0 _ _ _ rfl).1⟩ (fun hHeld => ?_)
              clear hK K
              try simp only [Act.put, List.getElem_toArray, List.getElem_cons_succ, List.getElem_cons_zero, List.setIfInBounds_toArray, List.set_cons_succ, List.set_cons_zero]
              refine wpAnyH_take (i := 7) (v := ?_) rfl (by kernel_rfl) (by kernel_rfl) (by kernel_rfl) (fun _ _ _ h => h) (Or.inl ⟨by kernel_rfl, ?_⟩) (by assumption) ?_
              rotate_left
              · intro w' hSw; (try dsimp only at hSw); go_simp; with_reducible rfl
              try simp only [Act.put, List.setIfInBounds_toArray, List.set_cons_succ]
              refine wpAnyH_done (by kernel_rfl) ?_ _
              repeat go_step
              exact bodyPost_ret (v := .tuple #[.agg (lT t (some ⟨g, 0, none⟩) n cap').toArray, .slice (some ⟨N, 0, none⟩) 1 1]) (results_two rfl _ _ Y _ _ _ _ rfl _ rfl hyF Tryz.underlying31 rfl (by kernel_rfl)) rfl ⟨some ⟨g, 0, none⟩, cap', _, rfl, (fun e => by cases e), T10.nobox, hOut⟩

end Go.Proofs.YtnmnihlhcokjpaaGreatDoor
