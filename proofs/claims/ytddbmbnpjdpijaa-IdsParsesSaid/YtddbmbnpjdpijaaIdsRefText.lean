/- The document's text of an address. -/
import Derived.Test.YtddbmbnpjdpijaaIdsPut
import Derived.RegionTactic
import Derived.BigRegion
namespace Go.Proofs.Ytddbmbnpjdpijaa
open Go.ChangeShapes Go.WideShapes Go.ChangeAt Go.RowKit
set_option linter.unusedVariables false

set_option maxRecDepth 100000 in
set_option maxHeartbeats 1000000 in
theorem reftext_any (a : Int) (hp0 : 0 ≤ a) (hp1 : a ≤ 18446744073709551615) (w : World) :
    Calls Try.prog 19 #[.int .u64 a] w fun e w' => e = .returned (.string ⟨(txt a).toArray⟩) ∧ Below w.heap.size w w' := by
  go_enter Try.func19, Try.ntmps19
  go_wp2_with (go_at_call 25; refine (refput_any _ hp0 hp1 _).mono ?_; rintro e w' ⟨rfl, rfl⟩)
  go_loopw [4, 5] (fun s i wr => ∃ (k : Int) (n : Nat), (k, n) ∈ ([(0, 0), (1, 2), (2, 5), (3, 8), (4, 11), (5, 14), (6, 17)] : List (Int × Nat)) ∧ i = .int .i64 k ∧ s = .string ⟨((txt a).take n).toArray⟩ ∧ Below (w.heap.size + 1) (w.alloc (.cells (six a) 5)) wr)
    (fun _ i _ => 6 - (intOf i).toNat)
  case atStart => exact ⟨0, 0, by simp, rfl, rfl, Below.refl _ _⟩
  case round =>
    obtain ⟨k, n, hm, rfl, rfl, hnx⟩ := hrel
    have hsz' : w.heap.size + 1 ≤ wr.heap.size := by have := hnx.size; simpa using this
    simp only [List.mem_cons, Prod.mk.injEq, List.not_mem_nil, or_false] at hm
    rcases hm with ⟨rfl, rfl⟩ | ⟨rfl, rfl⟩ | ⟨rfl, rfl⟩ | ⟨rfl, rfl⟩ | ⟨rfl, rfl⟩ | ⟨rfl, rfl⟩ | ⟨rfl, rfl⟩
    · have hc : wr.cell? ⟨w.heap.size, 0, none⟩ = some (.int .u8 (a / 1099511627776 % 256)) := by
        rw [hnx.cell (p := ⟨w.heap.size, 0, none⟩) (by simp)]; simp [six]
      obtain ⟨x, hx'⟩ : ∃ x, x = a / 1099511627776 % 256 := ⟨_, rfl⟩
      rw [← hx'] at hc
      have b0 : 0 ≤ x := by omega
      have b1 : x ≤ 255 := by omega
      have c0 : 0 ≤ x / 16 := by omega
      have c1 : x / 16 < 16 := by omega
      have d0 : 0 ≤ x % 16 := by omega
      have d1 : x % 16 < 16 := by omega
      have E1 := Lib.hid (hx_of (x / 16) (a / 17592186044416) (by omega))
      have E2 := Lib.hid (hx_of (x % 16) (a / 1099511627776) (by omega))
      have HX := Lib.hid hx'
      clear hx'
      have hcv := conv_two (P := Try.prog) wr 43 9 5 Try.underlying43 Try.underlying5 Try.underlying9
      go_wp2
      go_region
      go_wp2
      go_roundw
      case rel => exact ⟨1, 2, by simp, rfl, by rw [hexcell _ c0 c1, hexcell _ d0 d1, E1.out, E2.out]; simp [str_app, txt], (hnx.alloc hsz' _).drew⟩
      case measure => simp [intOf]
    · have hc : wr.cell? ⟨w.heap.size, 1, none⟩ = some (.int .u8 (a / 4294967296 % 256)) := by
        rw [hnx.cell (p := ⟨w.heap.size, 1, none⟩) (by simp)]; simp [six]
      obtain ⟨x, hx'⟩ : ∃ x, x = a / 4294967296 % 256 := ⟨_, rfl⟩
      rw [← hx'] at hc
      have b0 : 0 ≤ x := by omega
      have b1 : x ≤ 255 := by omega
      have c0 : 0 ≤ x / 16 := by omega
      have c1 : x / 16 < 16 := by omega
      have d0 : 0 ≤ x % 16 := by omega
      have d1 : x % 16 < 16 := by omega
      have E1 := Lib.hid (hx_of (x / 16) (a / 68719476736) (by omega))
      have E2 := Lib.hid (hx_of (x % 16) (a / 4294967296) (by omega))
      have HX := Lib.hid hx'
      clear hx'
      have hcv := conv_two (P := Try.prog) wr 43 9 5 Try.underlying43 Try.underlying5 Try.underlying9
      go_wp2
      go_region
      go_wp2
      go_roundw
      case rel => exact ⟨2, 5, by simp, rfl, by rw [hexcell _ c0 c1, hexcell _ d0 d1, E1.out, E2.out]; simp [str_app, txt], (hnx.alloc hsz' _).drew⟩
      case measure => simp [intOf]
    · have hc : wr.cell? ⟨w.heap.size, 2, none⟩ = some (.int .u8 (a / 16777216 % 256)) := by
        rw [hnx.cell (p := ⟨w.heap.size, 2, none⟩) (by simp)]; simp [six]
      obtain ⟨x, hx'⟩ : ∃ x, x = a / 16777216 % 256 := ⟨_, rfl⟩
      rw [← hx'] at hc
      have b0 : 0 ≤ x := by omega
      have b1 : x ≤ 255 := by omega
      have c0 : 0 ≤ x / 16 := by omega
      have c1 : x / 16 < 16 := by omega
      have d0 : 0 ≤ x % 16 := by omega
      have d1 : x % 16 < 16 := by omega
      have E1 := Lib.hid (hx_of (x / 16) (a / 268435456) (by omega))
      have E2 := Lib.hid (hx_of (x % 16) (a / 16777216) (by omega))
      have HX := Lib.hid hx'
      clear hx'
      have hcv := conv_two (P := Try.prog) wr 43 9 5 Try.underlying43 Try.underlying5 Try.underlying9
      go_wp2
      go_region
      go_wp2
      go_roundw
      case rel => exact ⟨3, 8, by simp, rfl, by rw [hexcell _ c0 c1, hexcell _ d0 d1, E1.out, E2.out]; simp [str_app, txt], (hnx.alloc hsz' _).drew⟩
      case measure => simp [intOf]
    · have hc : wr.cell? ⟨w.heap.size, 3, none⟩ = some (.int .u8 (a / 65536 % 256)) := by
        rw [hnx.cell (p := ⟨w.heap.size, 3, none⟩) (by simp)]; simp [six]
      obtain ⟨x, hx'⟩ : ∃ x, x = a / 65536 % 256 := ⟨_, rfl⟩
      rw [← hx'] at hc
      have b0 : 0 ≤ x := by omega
      have b1 : x ≤ 255 := by omega
      have c0 : 0 ≤ x / 16 := by omega
      have c1 : x / 16 < 16 := by omega
      have d0 : 0 ≤ x % 16 := by omega
      have d1 : x % 16 < 16 := by omega
      have E1 := Lib.hid (hx_of (x / 16) (a / 1048576) (by omega))
      have E2 := Lib.hid (hx_of (x % 16) (a / 65536) (by omega))
      have HX := Lib.hid hx'
      clear hx'
      have hcv := conv_two (P := Try.prog) wr 43 9 5 Try.underlying43 Try.underlying5 Try.underlying9
      go_wp2
      go_region
      go_wp2
      go_roundw
      case rel => exact ⟨4, 11, by simp, rfl, by rw [hexcell _ c0 c1, hexcell _ d0 d1, E1.out, E2.out]; simp [str_app, txt], (hnx.alloc hsz' _).drew⟩
      case measure => simp [intOf]
    · have hc : wr.cell? ⟨w.heap.size, 4, none⟩ = some (.int .u8 (a / 256 % 256)) := by
        rw [hnx.cell (p := ⟨w.heap.size, 4, none⟩) (by simp)]; simp [six]
      obtain ⟨x, hx'⟩ : ∃ x, x = a / 256 % 256 := ⟨_, rfl⟩
      rw [← hx'] at hc
      have b0 : 0 ≤ x := by omega
      have b1 : x ≤ 255 := by omega
      have c0 : 0 ≤ x / 16 := by omega
      have c1 : x / 16 < 16 := by omega
      have d0 : 0 ≤ x % 16 := by omega
      have d1 : x % 16 < 16 := by omega
      have E1 := Lib.hid (hx_of (x / 16) (a / 4096) (by omega))
      have E2 := Lib.hid (hx_of (x % 16) (a / 256) (by omega))
      have HX := Lib.hid hx'
      clear hx'
      have hcv := conv_two (P := Try.prog) wr 43 9 5 Try.underlying43 Try.underlying5 Try.underlying9
      go_wp2
      go_region
      go_wp2
      go_roundw
      case rel => exact ⟨5, 14, by simp, rfl, by rw [hexcell _ c0 c1, hexcell _ d0 d1, E1.out, E2.out]; simp [str_app, txt], (hnx.alloc hsz' _).drew⟩
      case measure => simp [intOf]
    · have hc : wr.cell? ⟨w.heap.size, 5, none⟩ = some (.int .u8 (a % 256)) := by
        rw [hnx.cell (p := ⟨w.heap.size, 5, none⟩) (by simp)]; simp [six]
      obtain ⟨x, hx'⟩ : ∃ x, x = a % 256 := ⟨_, rfl⟩
      rw [← hx'] at hc
      have b0 : 0 ≤ x := by omega
      have b1 : x ≤ 255 := by omega
      have c0 : 0 ≤ x / 16 := by omega
      have c1 : x / 16 < 16 := by omega
      have d0 : 0 ≤ x % 16 := by omega
      have d1 : x % 16 < 16 := by omega
      have E1 := Lib.hid (hx_of (x / 16) (a / 16) (by omega))
      have E2 := Lib.hid (hx_of (x % 16) (a) (by omega))
      have HX := Lib.hid hx'
      clear hx'
      have hcv := conv_two (P := Try.prog) wr 43 9 5 Try.underlying43 Try.underlying5 Try.underlying9
      go_wp2
      go_region
      go_wp2
      go_roundw
      case rel => exact ⟨6, 17, by simp, rfl, by rw [hexcell _ c0 c1, hexcell _ d0 d1, E1.out, E2.out]; simp [str_app, txt], (hnx.alloc hsz' _).drew⟩
      case measure => simp [intOf]
    · go_wp2
      go_ret
      exact ⟨ret_str (by rw [List.take_of_length_le (by rw [txt_len]; omega)]), ((Below.refl _ _).alloc (Nat.le_refl _) _).trans (hnx.mono (by omega))⟩
end Go.Proofs.Ytddbmbnpjdpijaa
