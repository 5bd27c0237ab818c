/- The law PortRises, walked. -/
import Derived.Test.YtcbdfkgfidlkeaaPortAwake
import Derived.Test.YtcbdfkgfidlkeaaRowIn
import Derived.LoopTactic
import Derived.Deep.DeepCutAuto
import Derived.Deep.CutBlock
namespace Go.Proofs.Ytcbdfkgfidlkeaa
open Go.ChangeShapes Go.WideShapes Go.ChangeAt Go.RowKit
set_option linter.unusedVariables false

/-- The port's state s, and the law's count d of delays. -/
def RI (on : Bool) (s d : Int) : Prop :=
  (on = false ∧ s = 0 ∧ d = -1) ∨ (on = true ∧ s = 1 ∧ d = -1) ∨ (on = true ∧ s = 2 ∧ d = 0) ∨ (on = true ∧ s = 3 ∧ d = 1) ∨ (on = true ∧ s = 4 ∧ d = 2)

set_option maxRecDepth 100000 in
set_option maxHeartbeats 4000000 in
theorem PortRises_walk (on : Bool) (a1 : Option Addr) (len1 cap1 : Nat) (z1 : List Int) (w : World) (w1 : IsRow .u8 w a1 len1 cap1 z1) :
    Calls Try.prog 5 #[.bool on, .slice a1 len1 cap1] w fun e w' => e = .returned (.bool true) ∧ Below w.heap.size w w' := by
  have HA := fun W => Lib.hid (awake_port W)
  have hrow := Lib.hid (row_in w1)
  have hm1 := row_len w1
  clear w1
  by_cases hc : 1000 < len1
  · go_enter Try.func5, Try.ntmps5
    go_wp2_with fail
    (with_reducible refine (HA _).out.mono ?_); rintro e w1 ⟨rfl, b1⟩
    go_wp2_with fail
    (with_reducible refine (HA _).out.mono ?_); rintro e w2 ⟨rfl, b2⟩
    go_wp2
    go_ret
    exact ⟨rfl, b1.trans (b2.mono b1.size)⟩
  · have hc' : len1 ≤ 1000 := by omega
    obtain ⟨s, hs⟩ : ∃ s, (if on then (1 : Int) else 0) = s := ⟨_, rfl⟩
    have HN := fun W => Lib.hid (new_is 1 1 on ⟨0, 0, 0, 0⟩ s (Lib.hid hs) W)
    dsimp only at HN
    have hI : Hid (RI on s (-1)) := Lib.hid (by
      rw [← hs]
      cases on
      · exact .inl ⟨rfl, rfl, rfl⟩
      · exact .inr (.inl ⟨rfl, rfl, rfl⟩))
    clear hs
    have S0 := Hs.nil w
    go_enter Try.func5, Try.ntmps5
    go_wp2_with fail
    (with_reducible refine (HA _).out.mono ?_); rintro e w1 ⟨rfl, b1⟩
    have S1 := S0.below b1
    clear S0 b1
    clear HA
    go_wp2_with fail
    (with_reducible refine (HN _).out.mono ?_); rintro e w2 ⟨rfl, b2⟩
    have S2 := S1.below b2
    clear S1 b2
    clear HN
    go_upto_region 4 with (refine wpList_store_row rfl 32 _ _ rfl _ _ rfl rfl _ _ (heap_alloc_new _ _) (by kernel_rfl) (by kernel_rfl) (by kernel_rfl) ?_)
    rw [alloc_row]
    have S3 := S2.al rfl 32 [.int .u16 1, .int .i64 s, .int .u32 1, .int .u64 0, .int .u32 0, .int .u64 0, .int .u16 1, .bool false, .bool false, .bool false, .int .i64 0, .bool false, .int .i64 0, .bool false, .int .i64 0]
    obtain ⟨X, hX⟩ : ∃ X, w2.heap.size = X := ⟨_, rfl⟩
    rw [hX] at S3 ⊢
    generalize w2.alloc (.cells #[.int .u16 1, .int .i64 s, .int .u32 1, .int .u64 0, .int .u32 0, .int .u64 0, .int .u16 1, .bool false, .bool false, .bool false, .int .i64 0, .bool false, .int .i64 0, .bool false, .int .i64 0] 32) = w3 at S3 ⊢
    clear S2 hX
    have P3 := Lib.hid S3
    clear S3
    go_wp2
    go_loopw [6, 7] (fun q i wr => ∃ (k : Nat) (s d : Int) (y : Bool), k ≤ len1 ∧ q = .int .i64 d ∧ i = .int .i64 k ∧ Hid (RI on s d) ∧ Hid (Hs w [(X, 32, [.int .u16 1, .int .i64 s, .int .u32 1, .int .u64 0, .int .u32 0, .int .u64 0, .int .u16 1, .bool false, .bool false, .bool false, .int .i64 0, .bool y, .int .i64 0, .bool false, .int .i64 0])] wr)) (fun _ i _ => len1 - (intOf i).toNat)
    case atStart => exact ⟨0, s, -1, false, Nat.zero_le _, rfl, rfl, hI, P3⟩
    case round =>
      clear P3 hI
      obtain ⟨k, s, d, y, hk, rfl, rfl, HI, R⟩ := hrel
      rename World => wr
      by_cases hkn : k < len1
      · obtain ⟨ad, n, rfl, hab, hcw, hwf⟩ := hrow.out k hkn
        obtain ⟨n0, n1⟩ := bounds_u8 hwf
        have hki : (k : Int) < (len1 : Int) := by omega
        have hadw : (ad.add k).block < w.heap.size := by rw [Go.Proofs.Ytcbdfkgfidlkeaa.add_block]; exact hab
        have c0 := (R.out.old.cell (p := ad.add k) hadw).trans hcw
        clear hcw hwf hab hrow
        go_upto_block 2 with fail
        clear c0
        go_cut [6] (fun q wx => ∃ (s d : Int) (y : Bool), q = .int .i64 d ∧ Hid (RI on s d) ∧ Hid (Hs w [(X, 32, [.int .u16 1, .int .i64 s, .int .u32 1, .int .u64 0, .int .u32 0, .int .u64 0, .int .u16 1, .bool false, .bool false, .bool false, .int .i64 0, .bool y, .int .i64 0, .bool false, .int .i64 0])] wx))
        case first =>
          have S := R.out
          clear R
          by_cases e0 : n % 3 = 0
          · have g0 : (n % 3 == 0) = true := by simp [e0]
            clear e0
            rcases HI.out with ⟨rfl, rfl, rfl⟩ | ⟨rfl, rfl, rfl⟩ | ⟨rfl, rfl, rfl⟩ | ⟨rfl, rfl, rfl⟩ | ⟨rfl, rfl, rfl⟩
            · have HR := fun W => Lib.hid (rise_is ⟨1, 0, 1, 0, 0, 0, 1, false, false, false, 0, y, 0, false, 0⟩ ⟨1, 0, 1, 0, 0, 0, 1, false, false, false, 0, y, 0, false, 0⟩ (Lib.hid rfl) W)
              dsimp only at HR
              have c1 := S.cell 0 1 rfl rfl
              have hx := S.bk 0 rfl
              go_wp2_with (first | (refine wpList_load_row rfl 32 _ rfl X rfl _ _ (0, 0) _ hx Try.underlying32 rfl (by kernel_rfl) ?_) | fail)
              (with_reducible refine (HR _).out.mono ?_); rintro e w5 ⟨rfl, b5⟩
              have S5 := S.below b5
              clear S b5
              clear hx c1
              have hy := S5.bk 0 rfl
              go_wp2_with (refine wpList_store_row rfl 32 _ _ rfl X _ rfl rfl _ _ hy (by kernel_rfl) (by kernel_rfl) (by kernel_rfl) ?_)
              have S6 := S5.row 0 rfl [.int .u16 1, .int .i64 0, .int .u32 1, .int .u64 0, .int .u32 0, .int .u64 0, .int .u16 1, .bool false, .bool false, .bool false, .int .i64 0, .bool y, .int .i64 0, .bool false, .int .i64 0]
              simp only [List.set] at S6
              go_meet
              exact ⟨0, (-1), y, rfl, Lib.hid (.inl ⟨rfl, rfl, rfl⟩), Lib.hid S6⟩
            · have HR := fun W => Lib.hid (rise_is ⟨1, 1, 1, 0, 0, 0, 1, false, false, false, 0, y, 0, false, 0⟩ ⟨1, 2, 1, 0, 0, 0, 1, false, false, false, 0, true, 0, false, 0⟩ (Lib.hid rfl) W)
              dsimp only at HR
              have c1 := S.cell 0 1 rfl rfl
              have hx := S.bk 0 rfl
              go_wp2_with (first | (refine wpList_load_row rfl 32 _ rfl X rfl _ _ (0, 0) _ hx Try.underlying32 rfl (by kernel_rfl) ?_) | fail)
              (with_reducible refine (HR _).out.mono ?_); rintro e w5 ⟨rfl, b5⟩
              have S5 := S.below b5
              clear S b5
              clear hx c1
              have hy := S5.bk 0 rfl
              go_wp2_with (refine wpList_store_row rfl 32 _ _ rfl X _ rfl rfl _ _ hy (by kernel_rfl) (by kernel_rfl) (by kernel_rfl) ?_)
              have S6 := S5.row 0 rfl [.int .u16 1, .int .i64 2, .int .u32 1, .int .u64 0, .int .u32 0, .int .u64 0, .int .u16 1, .bool false, .bool false, .bool false, .int .i64 0, .bool true, .int .i64 0, .bool false, .int .i64 0]
              simp only [List.set] at S6
              go_meet
              exact ⟨2, 0, true, rfl, Lib.hid (.inr (.inr (.inl ⟨rfl, rfl, rfl⟩))), Lib.hid S6⟩
            · have HR := fun W => Lib.hid (rise_is ⟨1, 2, 1, 0, 0, 0, 1, false, false, false, 0, y, 0, false, 0⟩ ⟨1, 2, 1, 0, 0, 0, 1, false, false, false, 0, y, 0, false, 0⟩ (Lib.hid rfl) W)
              dsimp only at HR
              have c1 := S.cell 0 1 rfl rfl
              have hx := S.bk 0 rfl
              go_wp2_with (first | (refine wpList_load_row rfl 32 _ rfl X rfl _ _ (0, 0) _ hx Try.underlying32 rfl (by kernel_rfl) ?_) | fail)
              (with_reducible refine (HR _).out.mono ?_); rintro e w5 ⟨rfl, b5⟩
              have S5 := S.below b5
              clear S b5
              clear hx c1
              have hy := S5.bk 0 rfl
              go_wp2_with (refine wpList_store_row rfl 32 _ _ rfl X _ rfl rfl _ _ hy (by kernel_rfl) (by kernel_rfl) (by kernel_rfl) ?_)
              have S6 := S5.row 0 rfl [.int .u16 1, .int .i64 2, .int .u32 1, .int .u64 0, .int .u32 0, .int .u64 0, .int .u16 1, .bool false, .bool false, .bool false, .int .i64 0, .bool y, .int .i64 0, .bool false, .int .i64 0]
              simp only [List.set] at S6
              go_meet
              exact ⟨2, 0, y, rfl, Lib.hid (.inr (.inr (.inl ⟨rfl, rfl, rfl⟩))), Lib.hid S6⟩
            · have HR := fun W => Lib.hid (rise_is ⟨1, 3, 1, 0, 0, 0, 1, false, false, false, 0, y, 0, false, 0⟩ ⟨1, 3, 1, 0, 0, 0, 1, false, false, false, 0, y, 0, false, 0⟩ (Lib.hid rfl) W)
              dsimp only at HR
              have c1 := S.cell 0 1 rfl rfl
              have hx := S.bk 0 rfl
              go_wp2_with (first | (refine wpList_load_row rfl 32 _ rfl X rfl _ _ (0, 0) _ hx Try.underlying32 rfl (by kernel_rfl) ?_) | fail)
              (with_reducible refine (HR _).out.mono ?_); rintro e w5 ⟨rfl, b5⟩
              have S5 := S.below b5
              clear S b5
              clear hx c1
              have hy := S5.bk 0 rfl
              go_wp2_with (refine wpList_store_row rfl 32 _ _ rfl X _ rfl rfl _ _ hy (by kernel_rfl) (by kernel_rfl) (by kernel_rfl) ?_)
              have S6 := S5.row 0 rfl [.int .u16 1, .int .i64 3, .int .u32 1, .int .u64 0, .int .u32 0, .int .u64 0, .int .u16 1, .bool false, .bool false, .bool false, .int .i64 0, .bool y, .int .i64 0, .bool false, .int .i64 0]
              simp only [List.set] at S6
              go_meet
              exact ⟨3, 1, y, rfl, Lib.hid (.inr (.inr (.inr (.inl ⟨rfl, rfl, rfl⟩)))), Lib.hid S6⟩
            · have HR := fun W => Lib.hid (rise_is ⟨1, 4, 1, 0, 0, 0, 1, false, false, false, 0, y, 0, false, 0⟩ ⟨1, 4, 1, 0, 0, 0, 1, false, false, false, 0, y, 0, false, 0⟩ (Lib.hid rfl) W)
              dsimp only at HR
              have c1 := S.cell 0 1 rfl rfl
              have hx := S.bk 0 rfl
              go_wp2_with (first | (refine wpList_load_row rfl 32 _ rfl X rfl _ _ (0, 0) _ hx Try.underlying32 rfl (by kernel_rfl) ?_) | fail)
              (with_reducible refine (HR _).out.mono ?_); rintro e w5 ⟨rfl, b5⟩
              have S5 := S.below b5
              clear S b5
              clear hx c1
              have hy := S5.bk 0 rfl
              go_wp2_with (refine wpList_store_row rfl 32 _ _ rfl X _ rfl rfl _ _ hy (by kernel_rfl) (by kernel_rfl) (by kernel_rfl) ?_)
              have S6 := S5.row 0 rfl [.int .u16 1, .int .i64 4, .int .u32 1, .int .u64 0, .int .u32 0, .int .u64 0, .int .u16 1, .bool false, .bool false, .bool false, .int .i64 0, .bool y, .int .i64 0, .bool false, .int .i64 0]
              simp only [List.set] at S6
              go_meet
              exact ⟨4, 2, y, rfl, Lib.hid (.inr (.inr (.inr (.inr ⟨rfl, rfl, rfl⟩)))), Lib.hid S6⟩
          by_cases e1 : n % 3 = 1
          · have g0 : (n % 3 == 0) = false := by simp [e1]
            have g1 : (n % 3 == 1) = true := by simp [e1]
            clear e0 e1
            rcases HI.out with ⟨rfl, rfl, rfl⟩ | ⟨rfl, rfl, rfl⟩ | ⟨rfl, rfl, rfl⟩ | ⟨rfl, rfl, rfl⟩ | ⟨rfl, rfl, rfl⟩
            · have HB := fun W => Lib.hid (block_is ⟨1, 0, 1, 0, 0, 0, 1, false, false, false, 0, y, 0, false, 0⟩ ⟨1, 0, 1, 0, 0, 0, 1, false, false, false, 0, y, 0, false, 0⟩ false (Lib.hid rfl) W)
              dsimp only at HB
              have HLe := fun W => Lib.hid (learns_is 0 false (Lib.hid rfl) W)
              have hx := S.bk 0 rfl
              go_wp2_with (first | (refine wpList_load_row rfl 32 _ rfl X rfl _ _ (0, 0) _ hx Try.underlying32 rfl (by kernel_rfl) ?_) | fail)
              (with_reducible refine (HB _).out.mono ?_); rintro e w5 ⟨rfl, b5⟩
              have S5 := S.below b5
              clear S b5
              clear hx
              go_upto_region 21 with (refine wpList_store_row rfl 32 _ _ rfl _ _ rfl rfl _ _ (heap_alloc_new _ _) (by kernel_rfl) (by kernel_rfl) (by kernel_rfl) ?_)
              rw [alloc_row]
              have S6 := S5.al rfl 32 [.int .u16 1, .int .i64 0, .int .u32 1, .int .u64 0, .int .u32 0, .int .u64 0, .int .u16 1, .bool false, .bool false, .bool false, .int .i64 0, .bool y, .int .i64 0, .bool false, .int .i64 0]
              obtain ⟨Q, hQ⟩ : ∃ Q, w5.heap.size = Q := ⟨_, rfl⟩
              rw [hQ] at S6 ⊢
              generalize w5.alloc (.cells #[.int .u16 1, .int .i64 0, .int .u32 1, .int .u64 0, .int .u32 0, .int .u64 0, .int .u16 1, .bool false, .bool false, .bool false, .int .i64 0, .bool y, .int .i64 0, .bool false, .int .i64 0] 32) = w6 at S6 ⊢
              clear S5 hQ
              have c1 := S6.cell 1 1 rfl rfl
              have hq := S6.bk 0 rfl
              have hx := S6.bk 1 rfl
              go_wp2_with (first | (go_at_call 15; (with_reducible refine (HLe _).out.mono ?_); rintro e w' ⟨rfl, rfl⟩) | (refine wpList_load_row rfl 32 _ rfl Q rfl _ _ (0, 0) _ hq Try.underlying32 rfl (by kernel_rfl) ?_) | (refine wpList_store_row rfl 32 _ _ rfl X _ rfl rfl _ _ hx (by kernel_rfl) (by kernel_rfl) (by kernel_rfl) ?_))
              have S7 := S6.row 1 rfl [.int .u16 1, .int .i64 0, .int .u32 1, .int .u64 0, .int .u32 0, .int .u64 0, .int .u16 1, .bool false, .bool false, .bool false, .int .i64 0, .bool y, .int .i64 0, .bool false, .int .i64 0]
              simp only [List.set] at S7
              go_meet
              exact ⟨0, -1, y, rfl, Lib.hid (.inl ⟨rfl, rfl, rfl⟩), Lib.hid S7.tail⟩
            · have HB := fun W => Lib.hid (block_is ⟨1, 1, 1, 0, 0, 0, 1, false, false, false, 0, y, 0, false, 0⟩ ⟨1, 1, 1, 0, 0, 0, 1, false, false, false, 0, y, 0, false, 0⟩ false (Lib.hid rfl) W)
              dsimp only at HB
              have HLe := fun W => Lib.hid (learns_is 1 false (Lib.hid rfl) W)
              have hx := S.bk 0 rfl
              go_wp2_with (first | (refine wpList_load_row rfl 32 _ rfl X rfl _ _ (0, 0) _ hx Try.underlying32 rfl (by kernel_rfl) ?_) | fail)
              (with_reducible refine (HB _).out.mono ?_); rintro e w5 ⟨rfl, b5⟩
              have S5 := S.below b5
              clear S b5
              clear hx
              go_upto_region 21 with (refine wpList_store_row rfl 32 _ _ rfl _ _ rfl rfl _ _ (heap_alloc_new _ _) (by kernel_rfl) (by kernel_rfl) (by kernel_rfl) ?_)
              rw [alloc_row]
              have S6 := S5.al rfl 32 [.int .u16 1, .int .i64 1, .int .u32 1, .int .u64 0, .int .u32 0, .int .u64 0, .int .u16 1, .bool false, .bool false, .bool false, .int .i64 0, .bool y, .int .i64 0, .bool false, .int .i64 0]
              obtain ⟨Q, hQ⟩ : ∃ Q, w5.heap.size = Q := ⟨_, rfl⟩
              rw [hQ] at S6 ⊢
              generalize w5.alloc (.cells #[.int .u16 1, .int .i64 1, .int .u32 1, .int .u64 0, .int .u32 0, .int .u64 0, .int .u16 1, .bool false, .bool false, .bool false, .int .i64 0, .bool y, .int .i64 0, .bool false, .int .i64 0] 32) = w6 at S6 ⊢
              clear S5 hQ
              have c1 := S6.cell 1 1 rfl rfl
              have hq := S6.bk 0 rfl
              have hx := S6.bk 1 rfl
              go_wp2_with (first | (go_at_call 15; (with_reducible refine (HLe _).out.mono ?_); rintro e w' ⟨rfl, rfl⟩) | (refine wpList_load_row rfl 32 _ rfl Q rfl _ _ (0, 0) _ hq Try.underlying32 rfl (by kernel_rfl) ?_) | (refine wpList_store_row rfl 32 _ _ rfl X _ rfl rfl _ _ hx (by kernel_rfl) (by kernel_rfl) (by kernel_rfl) ?_))
              have S7 := S6.row 1 rfl [.int .u16 1, .int .i64 1, .int .u32 1, .int .u64 0, .int .u32 0, .int .u64 0, .int .u16 1, .bool false, .bool false, .bool false, .int .i64 0, .bool y, .int .i64 0, .bool false, .int .i64 0]
              simp only [List.set] at S7
              go_meet
              exact ⟨1, -1, y, rfl, Lib.hid (.inr (.inl ⟨rfl, rfl, rfl⟩)), Lib.hid S7.tail⟩
            · have HB := fun W => Lib.hid (block_is ⟨1, 2, 1, 0, 0, 0, 1, false, false, false, 0, y, 0, false, 0⟩ ⟨1, 1, 1, 0, 0, 0, 1, false, false, false, 0, false, 0, false, 0⟩ false (Lib.hid rfl) W)
              dsimp only at HB
              have HLe := fun W => Lib.hid (learns_is 2 false (Lib.hid rfl) W)
              have hx := S.bk 0 rfl
              go_wp2_with (first | (refine wpList_load_row rfl 32 _ rfl X rfl _ _ (0, 0) _ hx Try.underlying32 rfl (by kernel_rfl) ?_) | fail)
              (with_reducible refine (HB _).out.mono ?_); rintro e w5 ⟨rfl, b5⟩
              have S5 := S.below b5
              clear S b5
              clear hx
              go_upto_region 21 with (refine wpList_store_row rfl 32 _ _ rfl _ _ rfl rfl _ _ (heap_alloc_new _ _) (by kernel_rfl) (by kernel_rfl) (by kernel_rfl) ?_)
              rw [alloc_row]
              have S6 := S5.al rfl 32 [.int .u16 1, .int .i64 1, .int .u32 1, .int .u64 0, .int .u32 0, .int .u64 0, .int .u16 1, .bool false, .bool false, .bool false, .int .i64 0, .bool false, .int .i64 0, .bool false, .int .i64 0]
              obtain ⟨Q, hQ⟩ : ∃ Q, w5.heap.size = Q := ⟨_, rfl⟩
              rw [hQ] at S6 ⊢
              generalize w5.alloc (.cells #[.int .u16 1, .int .i64 1, .int .u32 1, .int .u64 0, .int .u32 0, .int .u64 0, .int .u16 1, .bool false, .bool false, .bool false, .int .i64 0, .bool false, .int .i64 0, .bool false, .int .i64 0] 32) = w6 at S6 ⊢
              clear S5 hQ
              have c1 := S6.cell 1 1 rfl rfl
              have hq := S6.bk 0 rfl
              have hx := S6.bk 1 rfl
              go_wp2_with (first | (go_at_call 15; (with_reducible refine (HLe _).out.mono ?_); rintro e w' ⟨rfl, rfl⟩) | (refine wpList_load_row rfl 32 _ rfl Q rfl _ _ (0, 0) _ hq Try.underlying32 rfl (by kernel_rfl) ?_) | (refine wpList_store_row rfl 32 _ _ rfl X _ rfl rfl _ _ hx (by kernel_rfl) (by kernel_rfl) (by kernel_rfl) ?_))
              have S7 := S6.row 1 rfl [.int .u16 1, .int .i64 1, .int .u32 1, .int .u64 0, .int .u32 0, .int .u64 0, .int .u16 1, .bool false, .bool false, .bool false, .int .i64 0, .bool false, .int .i64 0, .bool false, .int .i64 0]
              simp only [List.set] at S7
              go_meet
              exact ⟨1, -1, false, rfl, Lib.hid (.inr (.inl ⟨rfl, rfl, rfl⟩)), Lib.hid S7.tail⟩
            · have HB := fun W => Lib.hid (block_is ⟨1, 3, 1, 0, 0, 0, 1, false, false, false, 0, y, 0, false, 0⟩ ⟨1, 1, 1, 0, 0, 0, 1, false, false, false, 0, false, 0, false, 0⟩ true (Lib.hid rfl) W)
              dsimp only at HB
              have HLe := fun W => Lib.hid (learns_is 3 true (Lib.hid rfl) W)
              have hx := S.bk 0 rfl
              go_wp2_with (first | (refine wpList_load_row rfl 32 _ rfl X rfl _ _ (0, 0) _ hx Try.underlying32 rfl (by kernel_rfl) ?_) | fail)
              (with_reducible refine (HB _).out.mono ?_); rintro e w5 ⟨rfl, b5⟩
              have S5 := S.below b5
              clear S b5
              clear hx
              go_upto_region 21 with (refine wpList_store_row rfl 32 _ _ rfl _ _ rfl rfl _ _ (heap_alloc_new _ _) (by kernel_rfl) (by kernel_rfl) (by kernel_rfl) ?_)
              rw [alloc_row]
              have S6 := S5.al rfl 32 [.int .u16 1, .int .i64 1, .int .u32 1, .int .u64 0, .int .u32 0, .int .u64 0, .int .u16 1, .bool false, .bool false, .bool false, .int .i64 0, .bool false, .int .i64 0, .bool false, .int .i64 0]
              obtain ⟨Q, hQ⟩ : ∃ Q, w5.heap.size = Q := ⟨_, rfl⟩
              rw [hQ] at S6 ⊢
              generalize w5.alloc (.cells #[.int .u16 1, .int .i64 1, .int .u32 1, .int .u64 0, .int .u32 0, .int .u64 0, .int .u16 1, .bool false, .bool false, .bool false, .int .i64 0, .bool false, .int .i64 0, .bool false, .int .i64 0] 32) = w6 at S6 ⊢
              clear S5 hQ
              have c1 := S6.cell 1 1 rfl rfl
              have hq := S6.bk 0 rfl
              have hx := S6.bk 1 rfl
              go_wp2_with (first | (go_at_call 15; (with_reducible refine (HLe _).out.mono ?_); rintro e w' ⟨rfl, rfl⟩) | (refine wpList_load_row rfl 32 _ rfl Q rfl _ _ (0, 0) _ hq Try.underlying32 rfl (by kernel_rfl) ?_) | (refine wpList_store_row rfl 32 _ _ rfl X _ rfl rfl _ _ hx (by kernel_rfl) (by kernel_rfl) (by kernel_rfl) ?_))
              have S7 := S6.row 1 rfl [.int .u16 1, .int .i64 1, .int .u32 1, .int .u64 0, .int .u32 0, .int .u64 0, .int .u16 1, .bool false, .bool false, .bool false, .int .i64 0, .bool false, .int .i64 0, .bool false, .int .i64 0]
              simp only [List.set] at S7
              go_meet
              exact ⟨1, -1, false, rfl, Lib.hid (.inr (.inl ⟨rfl, rfl, rfl⟩)), Lib.hid S7.tail⟩
            · have HB := fun W => Lib.hid (block_is ⟨1, 4, 1, 0, 0, 0, 1, false, false, false, 0, y, 0, false, 0⟩ ⟨1, 1, 1, 0, 0, 0, 1, false, false, false, 0, false, 0, false, 0⟩ true (Lib.hid rfl) W)
              dsimp only at HB
              have HLe := fun W => Lib.hid (learns_is 4 true (Lib.hid rfl) W)
              have hx := S.bk 0 rfl
              go_wp2_with (first | (refine wpList_load_row rfl 32 _ rfl X rfl _ _ (0, 0) _ hx Try.underlying32 rfl (by kernel_rfl) ?_) | fail)
              (with_reducible refine (HB _).out.mono ?_); rintro e w5 ⟨rfl, b5⟩
              have S5 := S.below b5
              clear S b5
              clear hx
              go_upto_region 21 with (refine wpList_store_row rfl 32 _ _ rfl _ _ rfl rfl _ _ (heap_alloc_new _ _) (by kernel_rfl) (by kernel_rfl) (by kernel_rfl) ?_)
              rw [alloc_row]
              have S6 := S5.al rfl 32 [.int .u16 1, .int .i64 1, .int .u32 1, .int .u64 0, .int .u32 0, .int .u64 0, .int .u16 1, .bool false, .bool false, .bool false, .int .i64 0, .bool false, .int .i64 0, .bool false, .int .i64 0]
              obtain ⟨Q, hQ⟩ : ∃ Q, w5.heap.size = Q := ⟨_, rfl⟩
              rw [hQ] at S6 ⊢
              generalize w5.alloc (.cells #[.int .u16 1, .int .i64 1, .int .u32 1, .int .u64 0, .int .u32 0, .int .u64 0, .int .u16 1, .bool false, .bool false, .bool false, .int .i64 0, .bool false, .int .i64 0, .bool false, .int .i64 0] 32) = w6 at S6 ⊢
              clear S5 hQ
              have c1 := S6.cell 1 1 rfl rfl
              have hq := S6.bk 0 rfl
              have hx := S6.bk 1 rfl
              go_wp2_with (first | (go_at_call 15; (with_reducible refine (HLe _).out.mono ?_); rintro e w' ⟨rfl, rfl⟩) | (refine wpList_load_row rfl 32 _ rfl Q rfl _ _ (0, 0) _ hq Try.underlying32 rfl (by kernel_rfl) ?_) | (refine wpList_store_row rfl 32 _ _ rfl X _ rfl rfl _ _ hx (by kernel_rfl) (by kernel_rfl) (by kernel_rfl) ?_))
              have S7 := S6.row 1 rfl [.int .u16 1, .int .i64 1, .int .u32 1, .int .u64 0, .int .u32 0, .int .u64 0, .int .u16 1, .bool false, .bool false, .bool false, .int .i64 0, .bool false, .int .i64 0, .bool false, .int .i64 0]
              simp only [List.set] at S7
              go_meet
              exact ⟨1, -1, false, rfl, Lib.hid (.inr (.inl ⟨rfl, rfl, rfl⟩)), Lib.hid S7.tail⟩
          · have g0 : (n % 3 == 0) = false := by simp [e0]
            have g1 : (n % 3 == 1) = false := by simp [e1]
            clear e0 e1
            rcases HI.out with ⟨rfl, rfl, rfl⟩ | ⟨rfl, rfl, rfl⟩ | ⟨rfl, rfl, rfl⟩ | ⟨rfl, rfl, rfl⟩ | ⟨rfl, rfl, rfl⟩
            · have HN := fun W => Lib.hid (next_is ⟨1, 0, 1, 0, 0, 0, 1, false, false, false, 0, y, 0, false, 0⟩ ⟨1, 0, 1, 0, 0, 0, 1, false, false, false, 0, y, 0, false, 0⟩ false (Lib.hid rfl) W)
              dsimp only at HN
              have HFo : ∀ W, Hid (Calls Try.prog 16 #[.int .i64 0] W fun e w' => e = .returned (.bool false) ∧ W = w') := fun W => Lib.hid (fwd_is 0 W)
              have hx := S.bk 0 rfl
              go_wp2_with (first | (refine wpList_load_row rfl 32 _ rfl X rfl _ _ (0, 0) _ hx Try.underlying32 rfl (by kernel_rfl) ?_) | fail)
              (with_reducible refine (HN _).out.mono ?_); rintro e w5 ⟨rfl, b5⟩
              have S5 := S.below b5
              clear S b5
              clear hx
              go_upto_region 10 with (refine wpList_store_row rfl 32 _ _ rfl _ _ rfl rfl _ _ (heap_alloc_new _ _) (by kernel_rfl) (by kernel_rfl) (by kernel_rfl) ?_)
              rw [alloc_row]
              have S6 := S5.al rfl 32 [.int .u16 1, .int .i64 0, .int .u32 1, .int .u64 0, .int .u32 0, .int .u64 0, .int .u16 1, .bool false, .bool false, .bool false, .int .i64 0, .bool y, .int .i64 0, .bool false, .int .i64 0]
              obtain ⟨Q, hQ⟩ : ∃ Q, w5.heap.size = Q := ⟨_, rfl⟩
              rw [hQ] at S6 ⊢
              generalize w5.alloc (.cells #[.int .u16 1, .int .i64 0, .int .u32 1, .int .u64 0, .int .u32 0, .int .u64 0, .int .u16 1, .bool false, .bool false, .bool false, .int .i64 0, .bool y, .int .i64 0, .bool false, .int .i64 0] 32) = w6 at S6 ⊢
              clear S5 hQ
              have c1 := S6.cell 1 1 rfl rfl
              have q1 := S6.cell 0 1 rfl rfl
              have hq := S6.bk 0 rfl
              have hx := S6.bk 1 rfl
              go_wp2_with (first | (go_at_call 16; (with_reducible refine (HFo _).out.mono ?_); rintro e w' ⟨rfl, rfl⟩) | (refine wpList_load_row rfl 32 _ rfl Q rfl _ _ (0, 0) _ hq Try.underlying32 rfl (by kernel_rfl) ?_) | (refine wpList_store_row rfl 32 _ _ rfl X _ rfl rfl _ _ hx (by kernel_rfl) (by kernel_rfl) (by kernel_rfl) ?_))
              have S7 := S6.row 1 rfl [.int .u16 1, .int .i64 0, .int .u32 1, .int .u64 0, .int .u32 0, .int .u64 0, .int .u16 1, .bool false, .bool false, .bool false, .int .i64 0, .bool y, .int .i64 0, .bool false, .int .i64 0]
              simp only [List.set] at S7
              go_meet
              exact ⟨0, (-1), y, rfl, Lib.hid (.inl ⟨rfl, rfl, rfl⟩), Lib.hid S7.tail⟩
            · have HN := fun W => Lib.hid (next_is ⟨1, 1, 1, 0, 0, 0, 1, false, false, false, 0, y, 0, false, 0⟩ ⟨1, 1, 1, 0, 0, 0, 1, false, false, false, 0, y, 0, false, 0⟩ false (Lib.hid rfl) W)
              dsimp only at HN
              have HFo : ∀ W, Hid (Calls Try.prog 16 #[.int .i64 1] W fun e w' => e = .returned (.bool false) ∧ W = w') := fun W => Lib.hid (fwd_is 1 W)
              have hx := S.bk 0 rfl
              go_wp2_with (first | (refine wpList_load_row rfl 32 _ rfl X rfl _ _ (0, 0) _ hx Try.underlying32 rfl (by kernel_rfl) ?_) | fail)
              (with_reducible refine (HN _).out.mono ?_); rintro e w5 ⟨rfl, b5⟩
              have S5 := S.below b5
              clear S b5
              clear hx
              go_upto_region 10 with (refine wpList_store_row rfl 32 _ _ rfl _ _ rfl rfl _ _ (heap_alloc_new _ _) (by kernel_rfl) (by kernel_rfl) (by kernel_rfl) ?_)
              rw [alloc_row]
              have S6 := S5.al rfl 32 [.int .u16 1, .int .i64 1, .int .u32 1, .int .u64 0, .int .u32 0, .int .u64 0, .int .u16 1, .bool false, .bool false, .bool false, .int .i64 0, .bool y, .int .i64 0, .bool false, .int .i64 0]
              obtain ⟨Q, hQ⟩ : ∃ Q, w5.heap.size = Q := ⟨_, rfl⟩
              rw [hQ] at S6 ⊢
              generalize w5.alloc (.cells #[.int .u16 1, .int .i64 1, .int .u32 1, .int .u64 0, .int .u32 0, .int .u64 0, .int .u16 1, .bool false, .bool false, .bool false, .int .i64 0, .bool y, .int .i64 0, .bool false, .int .i64 0] 32) = w6 at S6 ⊢
              clear S5 hQ
              have c1 := S6.cell 1 1 rfl rfl
              have q1 := S6.cell 0 1 rfl rfl
              have hq := S6.bk 0 rfl
              have hx := S6.bk 1 rfl
              go_wp2_with (first | (go_at_call 16; (with_reducible refine (HFo _).out.mono ?_); rintro e w' ⟨rfl, rfl⟩) | (refine wpList_load_row rfl 32 _ rfl Q rfl _ _ (0, 0) _ hq Try.underlying32 rfl (by kernel_rfl) ?_) | (refine wpList_store_row rfl 32 _ _ rfl X _ rfl rfl _ _ hx (by kernel_rfl) (by kernel_rfl) (by kernel_rfl) ?_))
              have S7 := S6.row 1 rfl [.int .u16 1, .int .i64 1, .int .u32 1, .int .u64 0, .int .u32 0, .int .u64 0, .int .u16 1, .bool false, .bool false, .bool false, .int .i64 0, .bool y, .int .i64 0, .bool false, .int .i64 0]
              simp only [List.set] at S7
              go_meet
              exact ⟨1, (-1), y, rfl, Lib.hid (.inr (.inl ⟨rfl, rfl, rfl⟩)), Lib.hid S7.tail⟩
            · have HN := fun W => Lib.hid (next_is ⟨1, 2, 1, 0, 0, 0, 1, false, false, false, 0, y, 0, false, 0⟩ ⟨1, 3, 1, 0, 0, 0, 1, false, false, false, 0, true, 0, false, 0⟩ false (Lib.hid rfl) W)
              dsimp only at HN
              have HFo : ∀ W, Hid (Calls Try.prog 16 #[.int .i64 3] W fun e w' => e = .returned (.bool false) ∧ W = w') := fun W => Lib.hid (fwd_is 3 W)
              have hx := S.bk 0 rfl
              go_wp2_with (first | (refine wpList_load_row rfl 32 _ rfl X rfl _ _ (0, 0) _ hx Try.underlying32 rfl (by kernel_rfl) ?_) | fail)
              (with_reducible refine (HN _).out.mono ?_); rintro e w5 ⟨rfl, b5⟩
              have S5 := S.below b5
              clear S b5
              clear hx
              go_upto_region 10 with (refine wpList_store_row rfl 32 _ _ rfl _ _ rfl rfl _ _ (heap_alloc_new _ _) (by kernel_rfl) (by kernel_rfl) (by kernel_rfl) ?_)
              rw [alloc_row]
              have S6 := S5.al rfl 32 [.int .u16 1, .int .i64 3, .int .u32 1, .int .u64 0, .int .u32 0, .int .u64 0, .int .u16 1, .bool false, .bool false, .bool false, .int .i64 0, .bool true, .int .i64 0, .bool false, .int .i64 0]
              obtain ⟨Q, hQ⟩ : ∃ Q, w5.heap.size = Q := ⟨_, rfl⟩
              rw [hQ] at S6 ⊢
              generalize w5.alloc (.cells #[.int .u16 1, .int .i64 3, .int .u32 1, .int .u64 0, .int .u32 0, .int .u64 0, .int .u16 1, .bool false, .bool false, .bool false, .int .i64 0, .bool true, .int .i64 0, .bool false, .int .i64 0] 32) = w6 at S6 ⊢
              clear S5 hQ
              have c1 := S6.cell 1 1 rfl rfl
              have q1 := S6.cell 0 1 rfl rfl
              have hq := S6.bk 0 rfl
              have hx := S6.bk 1 rfl
              go_wp2_with (first | (go_at_call 16; (with_reducible refine (HFo _).out.mono ?_); rintro e w' ⟨rfl, rfl⟩) | (refine wpList_load_row rfl 32 _ rfl Q rfl _ _ (0, 0) _ hq Try.underlying32 rfl (by kernel_rfl) ?_) | (refine wpList_store_row rfl 32 _ _ rfl X _ rfl rfl _ _ hx (by kernel_rfl) (by kernel_rfl) (by kernel_rfl) ?_))
              have S7 := S6.row 1 rfl [.int .u16 1, .int .i64 3, .int .u32 1, .int .u64 0, .int .u32 0, .int .u64 0, .int .u16 1, .bool false, .bool false, .bool false, .int .i64 0, .bool true, .int .i64 0, .bool false, .int .i64 0]
              simp only [List.set] at S7
              go_meet
              exact ⟨3, 1, true, rfl, Lib.hid (.inr (.inr (.inr (.inl ⟨rfl, rfl, rfl⟩)))), Lib.hid S7.tail⟩
            · have HN := fun W => Lib.hid (next_is ⟨1, 3, 1, 0, 0, 0, 1, false, false, false, 0, y, 0, false, 0⟩ ⟨1, 4, 1, 0, 0, 0, 1, false, false, false, 0, y, 0, false, 0⟩ true (Lib.hid rfl) W)
              dsimp only at HN
              have HFo : ∀ W, Hid (Calls Try.prog 16 #[.int .i64 4] W fun e w' => e = .returned (.bool true) ∧ W = w') := fun W => Lib.hid (fwd_is 4 W)
              have hx := S.bk 0 rfl
              go_wp2_with (first | (refine wpList_load_row rfl 32 _ rfl X rfl _ _ (0, 0) _ hx Try.underlying32 rfl (by kernel_rfl) ?_) | fail)
              (with_reducible refine (HN _).out.mono ?_); rintro e w5 ⟨rfl, b5⟩
              have S5 := S.below b5
              clear S b5
              clear hx
              go_upto_region 10 with (refine wpList_store_row rfl 32 _ _ rfl _ _ rfl rfl _ _ (heap_alloc_new _ _) (by kernel_rfl) (by kernel_rfl) (by kernel_rfl) ?_)
              rw [alloc_row]
              have S6 := S5.al rfl 32 [.int .u16 1, .int .i64 4, .int .u32 1, .int .u64 0, .int .u32 0, .int .u64 0, .int .u16 1, .bool false, .bool false, .bool false, .int .i64 0, .bool y, .int .i64 0, .bool false, .int .i64 0]
              obtain ⟨Q, hQ⟩ : ∃ Q, w5.heap.size = Q := ⟨_, rfl⟩
              rw [hQ] at S6 ⊢
              generalize w5.alloc (.cells #[.int .u16 1, .int .i64 4, .int .u32 1, .int .u64 0, .int .u32 0, .int .u64 0, .int .u16 1, .bool false, .bool false, .bool false, .int .i64 0, .bool y, .int .i64 0, .bool false, .int .i64 0] 32) = w6 at S6 ⊢
              clear S5 hQ
              have c1 := S6.cell 1 1 rfl rfl
              have q1 := S6.cell 0 1 rfl rfl
              have hq := S6.bk 0 rfl
              have hx := S6.bk 1 rfl
              go_wp2_with (first | (go_at_call 16; (with_reducible refine (HFo _).out.mono ?_); rintro e w' ⟨rfl, rfl⟩) | (refine wpList_load_row rfl 32 _ rfl Q rfl _ _ (0, 0) _ hq Try.underlying32 rfl (by kernel_rfl) ?_) | (refine wpList_store_row rfl 32 _ _ rfl X _ rfl rfl _ _ hx (by kernel_rfl) (by kernel_rfl) (by kernel_rfl) ?_))
              have S7 := S6.row 1 rfl [.int .u16 1, .int .i64 4, .int .u32 1, .int .u64 0, .int .u32 0, .int .u64 0, .int .u16 1, .bool false, .bool false, .bool false, .int .i64 0, .bool y, .int .i64 0, .bool false, .int .i64 0]
              simp only [List.set] at S7
              go_meet
              exact ⟨4, 2, y, rfl, Lib.hid (.inr (.inr (.inr (.inr ⟨rfl, rfl, rfl⟩)))), Lib.hid S7.tail⟩
            · have HN := fun W => Lib.hid (next_is ⟨1, 4, 1, 0, 0, 0, 1, false, false, false, 0, y, 0, false, 0⟩ ⟨1, 4, 1, 0, 0, 0, 1, false, false, false, 0, y, 0, false, 0⟩ false (Lib.hid rfl) W)
              dsimp only at HN
              have HFo : ∀ W, Hid (Calls Try.prog 16 #[.int .i64 4] W fun e w' => e = .returned (.bool true) ∧ W = w') := fun W => Lib.hid (fwd_is 4 W)
              have hx := S.bk 0 rfl
              go_wp2_with (first | (refine wpList_load_row rfl 32 _ rfl X rfl _ _ (0, 0) _ hx Try.underlying32 rfl (by kernel_rfl) ?_) | fail)
              (with_reducible refine (HN _).out.mono ?_); rintro e w5 ⟨rfl, b5⟩
              have S5 := S.below b5
              clear S b5
              clear hx
              go_upto_region 10 with (refine wpList_store_row rfl 32 _ _ rfl _ _ rfl rfl _ _ (heap_alloc_new _ _) (by kernel_rfl) (by kernel_rfl) (by kernel_rfl) ?_)
              rw [alloc_row]
              have S6 := S5.al rfl 32 [.int .u16 1, .int .i64 4, .int .u32 1, .int .u64 0, .int .u32 0, .int .u64 0, .int .u16 1, .bool false, .bool false, .bool false, .int .i64 0, .bool y, .int .i64 0, .bool false, .int .i64 0]
              obtain ⟨Q, hQ⟩ : ∃ Q, w5.heap.size = Q := ⟨_, rfl⟩
              rw [hQ] at S6 ⊢
              generalize w5.alloc (.cells #[.int .u16 1, .int .i64 4, .int .u32 1, .int .u64 0, .int .u32 0, .int .u64 0, .int .u16 1, .bool false, .bool false, .bool false, .int .i64 0, .bool y, .int .i64 0, .bool false, .int .i64 0] 32) = w6 at S6 ⊢
              clear S5 hQ
              have c1 := S6.cell 1 1 rfl rfl
              have q1 := S6.cell 0 1 rfl rfl
              have hq := S6.bk 0 rfl
              have hx := S6.bk 1 rfl
              go_wp2_with (first | (go_at_call 16; (with_reducible refine (HFo _).out.mono ?_); rintro e w' ⟨rfl, rfl⟩) | (refine wpList_load_row rfl 32 _ rfl Q rfl _ _ (0, 0) _ hq Try.underlying32 rfl (by kernel_rfl) ?_) | (refine wpList_store_row rfl 32 _ _ rfl X _ rfl rfl _ _ hx (by kernel_rfl) (by kernel_rfl) (by kernel_rfl) ?_))
              have S7 := S6.row 1 rfl [.int .u16 1, .int .i64 4, .int .u32 1, .int .u64 0, .int .u32 0, .int .u64 0, .int .u16 1, .bool false, .bool false, .bool false, .int .i64 0, .bool y, .int .i64 0, .bool false, .int .i64 0]
              simp only [List.set] at S7
              go_meet
              exact ⟨4, 2, y, rfl, Lib.hid (.inr (.inr (.inr (.inr ⟨rfl, rfl, rfl⟩)))), Lib.hid S7.tail⟩
        case rest =>
          clear R HI
          obtain ⟨s, d, y, rfl, HI, R⟩ := hcut
          rcases HI.out with ⟨rfl, rfl, rfl⟩ | ⟨rfl, rfl, rfl⟩ | ⟨rfl, rfl, rfl⟩ | ⟨rfl, rfl, rfl⟩ | ⟨rfl, rfl, rfl⟩
          · have S := R.out
            have HFo : ∀ W, Hid (Calls Try.prog 16 #[.int .i64 0] W fun e w' => e = .returned (.bool false) ∧ W = w') := fun W => Lib.hid (fwd_is 0 W)
            have HLe := fun W => Lib.hid (learns_is 0 false (Lib.hid rfl) W)
            have c1 := S.cell 0 1 rfl rfl
            go_wp2_with (first | (go_at_call 16; (with_reducible refine (HFo _).out.mono ?_); rintro e w' ⟨rfl, rfl⟩) | (go_at_call 15; (with_reducible refine (HLe _).out.mono ?_); rintro e w' ⟨rfl, rfl⟩))
            go_roundw
            case rel => exact ⟨k + 1, 0, (-1), y, by omega, rfl, by go_num, Lib.hid (.inl ⟨rfl, rfl, rfl⟩), R⟩
            case measure => simp [intOf]; omega
          · have S := R.out
            have HFo : ∀ W, Hid (Calls Try.prog 16 #[.int .i64 1] W fun e w' => e = .returned (.bool false) ∧ W = w') := fun W => Lib.hid (fwd_is 1 W)
            have HLe := fun W => Lib.hid (learns_is 1 false (Lib.hid rfl) W)
            have c1 := S.cell 0 1 rfl rfl
            go_wp2_with (first | (go_at_call 16; (with_reducible refine (HFo _).out.mono ?_); rintro e w' ⟨rfl, rfl⟩) | (go_at_call 15; (with_reducible refine (HLe _).out.mono ?_); rintro e w' ⟨rfl, rfl⟩))
            go_roundw
            case rel => exact ⟨k + 1, 1, (-1), y, by omega, rfl, by go_num, Lib.hid (.inr (.inl ⟨rfl, rfl, rfl⟩)), R⟩
            case measure => simp [intOf]; omega
          · have S := R.out
            have HFo : ∀ W, Hid (Calls Try.prog 16 #[.int .i64 2] W fun e w' => e = .returned (.bool false) ∧ W = w') := fun W => Lib.hid (fwd_is 2 W)
            have HLe := fun W => Lib.hid (learns_is 2 false (Lib.hid rfl) W)
            have c1 := S.cell 0 1 rfl rfl
            go_wp2_with (first | (go_at_call 16; (with_reducible refine (HFo _).out.mono ?_); rintro e w' ⟨rfl, rfl⟩) | (go_at_call 15; (with_reducible refine (HLe _).out.mono ?_); rintro e w' ⟨rfl, rfl⟩))
            go_roundw
            case rel => exact ⟨k + 1, 2, 0, y, by omega, rfl, by go_num, Lib.hid (.inr (.inr (.inl ⟨rfl, rfl, rfl⟩))), R⟩
            case measure => simp [intOf]; omega
          · have S := R.out
            have HFo : ∀ W, Hid (Calls Try.prog 16 #[.int .i64 3] W fun e w' => e = .returned (.bool false) ∧ W = w') := fun W => Lib.hid (fwd_is 3 W)
            have HLe := fun W => Lib.hid (learns_is 3 true (Lib.hid rfl) W)
            have c1 := S.cell 0 1 rfl rfl
            go_wp2_with (first | (go_at_call 16; (with_reducible refine (HFo _).out.mono ?_); rintro e w' ⟨rfl, rfl⟩) | (go_at_call 15; (with_reducible refine (HLe _).out.mono ?_); rintro e w' ⟨rfl, rfl⟩))
            go_roundw
            case rel => exact ⟨k + 1, 3, 1, y, by omega, rfl, by go_num, Lib.hid (.inr (.inr (.inr (.inl ⟨rfl, rfl, rfl⟩)))), R⟩
            case measure => simp [intOf]; omega
          · have S := R.out
            have HFo : ∀ W, Hid (Calls Try.prog 16 #[.int .i64 4] W fun e w' => e = .returned (.bool true) ∧ W = w') := fun W => Lib.hid (fwd_is 4 W)
            have HLe := fun W => Lib.hid (learns_is 4 true (Lib.hid rfl) W)
            have c1 := S.cell 0 1 rfl rfl
            go_wp2_with (first | (go_at_call 16; (with_reducible refine (HFo _).out.mono ?_); rintro e w' ⟨rfl, rfl⟩) | (go_at_call 15; (with_reducible refine (HLe _).out.mono ?_); rintro e w' ⟨rfl, rfl⟩))
            go_roundw
            case rel => exact ⟨k + 1, 4, 2, y, by omega, rfl, by go_num, Lib.hid (.inr (.inr (.inr (.inr ⟨rfl, rfl, rfl⟩)))), R⟩
            case measure => simp [intOf]; omega
      · have hki : ¬ (k : Int) < (len1 : Int) := by omega
        go_wp2
        go_ret
        exact ⟨rfl, R.out.old⟩

end Go.Proofs.Ytcbdfkgfidlkeaa
