/- ids.Text, for every number: the seventeen bytes of its text; nothing that was there is changed. -/
import Derived.Test.YtddbmbnpjdpijaaIdsBase
namespace Go.Proofs.Ytddbmbnpjdpijaa
open Go.ChangeShapes Go.WideShapes Go.ChangeAt Go.RowKit
set_option linter.unusedVariables false

set_option maxRecDepth 100000 in
set_option maxHeartbeats 4000000 in
theorem text_any (a : Int) (hp0 : 0 ≤ a) (hp1 : a ≤ 18446744073709551615)  (w : World) :
    Calls Try.prog 22 #[.int .u64 a] w fun e w' => e = .returned (.string ⟨(txt a).toArray⟩) ∧ Below w.heap.size w w' := by
  obtain ⟨i0, hi, hz0, hz1, hz2⟩ := info_parts Try.infoByte
  go_enter Try.func22, Try.ntmps22
  go_wp2_with (at_make; refine wpList_make_own _ rfl _ _ 43 rfl w.heap.size 5 i0 (.int .u8 0) 1 Try.underlying43 hi hz0 hz1 _ _ _ 17 rfl rfl rfl (by rw [hz2]; decide) (by decide) (Nat.le_refl _) ?_)
  intro w0 hown0 hgrow0
  go_wp2
  go_loopw [3, 6] (fun t i wr => ∃ (k : Int) (n : Nat), (k, n) ∈ ([(0, 0), (1, 1), (2, 2), (3, 4), (4, 5), (5, 7), (6, 8), (7, 10), (8, 11), (9, 13), (10, 14), (11, 16), (12, 17)] : List (Int × Nat)) ∧ i = .int .i64 k ∧ t = .slice (some ⟨w.heap.size, 0, none⟩) n 17 ∧
      wr.ownsRow w.heap.size 5 1 (.slice (some ⟨w.heap.size, 0, none⟩) n 17) n (((txt a).take n).map bc) ∧ Below w.heap.size w wr)
    (fun _ i _ => 12 - (intOf i).toNat)
  case atStart => exact ⟨0, 0, by simp, rfl, rfl, hown0, (Below.refl _ _).grown hgrow0 (Nat.le_refl _) (fun k h => by cases h)⟩
  case round =>
    obtain ⟨k, n, hm, rfl, rfl, hown, hnx⟩ := hrel
    have hsz := hnx.size
    clear hown0 hgrow0
    simp only [List.mem_cons, Prod.mk.injEq, List.not_mem_nil, or_false] at hm
    rcases hm with ⟨rfl, rfl⟩ | ⟨rfl, rfl⟩ | ⟨rfl, rfl⟩ | ⟨rfl, rfl⟩ | ⟨rfl, rfl⟩ | ⟨rfl, rfl⟩ | ⟨rfl, rfl⟩ | ⟨rfl, rfl⟩ | ⟨rfl, rfl⟩ | ⟨rfl, rfl⟩ | ⟨rfl, rfl⟩ | ⟨rfl, rfl⟩ | ⟨rfl, rfl⟩
    · have hb := and15 (a / 17592186044416) (by omega) (by omega)
      have hl : 0 ≤ a / 17592186044416 % 16 := by omega
      have hu : a / 17592186044416 % 16 < 16 := by omega
      go_wp2_with (at_builtin; refine append_one_fits _ rfl (.tmp 19) (.tmp 27) 43 rfl w.heap.size 5 i0 Try.underlying43 hi hz1 w.heap.size _ 17 _ _ rfl hown rfl rfl (by omega) _ _ hnx (Nat.le_refl _) hsz ?_; intro w2 hown2 hnx2)
      go_roundw
      case rel => exact ⟨1, 1, by simp, rfl, rfl, by simpa [txt, bc, hx, hexcell _ hl hu] using hown2, hnx2⟩
      case measure => simp [intOf]
    · have hb := and15 (a / 1099511627776) (by omega) (by omega)
      have hl : 0 ≤ a / 1099511627776 % 16 := by omega
      have hu : a / 1099511627776 % 16 < 16 := by omega
      go_wp2_with (at_builtin; refine append_one_fits _ rfl (.tmp 19) (.tmp 27) 43 rfl w.heap.size 5 i0 Try.underlying43 hi hz1 w.heap.size _ 17 _ _ rfl hown rfl rfl (by omega) _ _ hnx (Nat.le_refl _) hsz ?_; intro w2 hown2 hnx2)
      go_roundw
      case rel => exact ⟨2, 2, by simp, rfl, rfl, by simpa [txt, bc, hx, hexcell _ hl hu] using hown2, hnx2⟩
      case measure => simp [intOf]
    · have hb := and15 (a / 68719476736) (by omega) (by omega)
      have hl : 0 ≤ a / 68719476736 % 16 := by omega
      have hu : a / 68719476736 % 16 < 16 := by omega
      go_wp2_with (first
        | (at_builtin; refine append_one_fits _ rfl (.tmp 16) (.tmp 17) 43 rfl w.heap.size 5 i0 Try.underlying43 hi hz1 w.heap.size _ 17 _ _ rfl hown rfl rfl (by omega) _ _ hnx (Nat.le_refl _) hsz ?_; intro w1 hown1 hnx1; have hsz1 := hnx1.size)
        | (at_builtin; refine append_one_fits _ rfl (.tmp 19) (.tmp 27) 43 rfl w.heap.size 5 i0 Try.underlying43 hi hz1 w.heap.size _ 17 _ _ rfl hown1 rfl rfl (by omega) _ _ hnx1 (Nat.le_refl _) hsz1 ?_; intro w2 hown2 hnx2))
      go_roundw
      case rel => exact ⟨3, 4, by simp, rfl, rfl, by simpa [txt, bc, hx, hexcell _ hl hu] using hown2, hnx2⟩
      case measure => simp [intOf]
    · have hb := and15 (a / 4294967296) (by omega) (by omega)
      have hl : 0 ≤ a / 4294967296 % 16 := by omega
      have hu : a / 4294967296 % 16 < 16 := by omega
      go_wp2_with (at_builtin; refine append_one_fits _ rfl (.tmp 19) (.tmp 27) 43 rfl w.heap.size 5 i0 Try.underlying43 hi hz1 w.heap.size _ 17 _ _ rfl hown rfl rfl (by omega) _ _ hnx (Nat.le_refl _) hsz ?_; intro w2 hown2 hnx2)
      go_roundw
      case rel => exact ⟨4, 5, by simp, rfl, rfl, by simpa [txt, bc, hx, hexcell _ hl hu] using hown2, hnx2⟩
      case measure => simp [intOf]
    · have hb := and15 (a / 268435456) (by omega) (by omega)
      have hl : 0 ≤ a / 268435456 % 16 := by omega
      have hu : a / 268435456 % 16 < 16 := by omega
      go_wp2_with (first
        | (at_builtin; refine append_one_fits _ rfl (.tmp 16) (.tmp 17) 43 rfl w.heap.size 5 i0 Try.underlying43 hi hz1 w.heap.size _ 17 _ _ rfl hown rfl rfl (by omega) _ _ hnx (Nat.le_refl _) hsz ?_; intro w1 hown1 hnx1; have hsz1 := hnx1.size)
        | (at_builtin; refine append_one_fits _ rfl (.tmp 19) (.tmp 27) 43 rfl w.heap.size 5 i0 Try.underlying43 hi hz1 w.heap.size _ 17 _ _ rfl hown1 rfl rfl (by omega) _ _ hnx1 (Nat.le_refl _) hsz1 ?_; intro w2 hown2 hnx2))
      go_roundw
      case rel => exact ⟨5, 7, by simp, rfl, rfl, by simpa [txt, bc, hx, hexcell _ hl hu] using hown2, hnx2⟩
      case measure => simp [intOf]
    · have hb := and15 (a / 16777216) (by omega) (by omega)
      have hl : 0 ≤ a / 16777216 % 16 := by omega
      have hu : a / 16777216 % 16 < 16 := by omega
      go_wp2_with (at_builtin; refine append_one_fits _ rfl (.tmp 19) (.tmp 27) 43 rfl w.heap.size 5 i0 Try.underlying43 hi hz1 w.heap.size _ 17 _ _ rfl hown rfl rfl (by omega) _ _ hnx (Nat.le_refl _) hsz ?_; intro w2 hown2 hnx2)
      go_roundw
      case rel => exact ⟨6, 8, by simp, rfl, rfl, by simpa [txt, bc, hx, hexcell _ hl hu] using hown2, hnx2⟩
      case measure => simp [intOf]
    · have hb := and15 (a / 1048576) (by omega) (by omega)
      have hl : 0 ≤ a / 1048576 % 16 := by omega
      have hu : a / 1048576 % 16 < 16 := by omega
      go_wp2_with (first
        | (at_builtin; refine append_one_fits _ rfl (.tmp 16) (.tmp 17) 43 rfl w.heap.size 5 i0 Try.underlying43 hi hz1 w.heap.size _ 17 _ _ rfl hown rfl rfl (by omega) _ _ hnx (Nat.le_refl _) hsz ?_; intro w1 hown1 hnx1; have hsz1 := hnx1.size)
        | (at_builtin; refine append_one_fits _ rfl (.tmp 19) (.tmp 27) 43 rfl w.heap.size 5 i0 Try.underlying43 hi hz1 w.heap.size _ 17 _ _ rfl hown1 rfl rfl (by omega) _ _ hnx1 (Nat.le_refl _) hsz1 ?_; intro w2 hown2 hnx2))
      go_roundw
      case rel => exact ⟨7, 10, by simp, rfl, rfl, by simpa [txt, bc, hx, hexcell _ hl hu] using hown2, hnx2⟩
      case measure => simp [intOf]
    · have hb := and15 (a / 65536) (by omega) (by omega)
      have hl : 0 ≤ a / 65536 % 16 := by omega
      have hu : a / 65536 % 16 < 16 := by omega
      go_wp2_with (at_builtin; refine append_one_fits _ rfl (.tmp 19) (.tmp 27) 43 rfl w.heap.size 5 i0 Try.underlying43 hi hz1 w.heap.size _ 17 _ _ rfl hown rfl rfl (by omega) _ _ hnx (Nat.le_refl _) hsz ?_; intro w2 hown2 hnx2)
      go_roundw
      case rel => exact ⟨8, 11, by simp, rfl, rfl, by simpa [txt, bc, hx, hexcell _ hl hu] using hown2, hnx2⟩
      case measure => simp [intOf]
    · have hb := and15 (a / 4096) (by omega) (by omega)
      have hl : 0 ≤ a / 4096 % 16 := by omega
      have hu : a / 4096 % 16 < 16 := by omega
      go_wp2_with (first
        | (at_builtin; refine append_one_fits _ rfl (.tmp 16) (.tmp 17) 43 rfl w.heap.size 5 i0 Try.underlying43 hi hz1 w.heap.size _ 17 _ _ rfl hown rfl rfl (by omega) _ _ hnx (Nat.le_refl _) hsz ?_; intro w1 hown1 hnx1; have hsz1 := hnx1.size)
        | (at_builtin; refine append_one_fits _ rfl (.tmp 19) (.tmp 27) 43 rfl w.heap.size 5 i0 Try.underlying43 hi hz1 w.heap.size _ 17 _ _ rfl hown1 rfl rfl (by omega) _ _ hnx1 (Nat.le_refl _) hsz1 ?_; intro w2 hown2 hnx2))
      go_roundw
      case rel => exact ⟨9, 13, by simp, rfl, rfl, by simpa [txt, bc, hx, hexcell _ hl hu] using hown2, hnx2⟩
      case measure => simp [intOf]
    · have hb := and15 (a / 256) (by omega) (by omega)
      have hl : 0 ≤ a / 256 % 16 := by omega
      have hu : a / 256 % 16 < 16 := by omega
      go_wp2_with (at_builtin; refine append_one_fits _ rfl (.tmp 19) (.tmp 27) 43 rfl w.heap.size 5 i0 Try.underlying43 hi hz1 w.heap.size _ 17 _ _ rfl hown rfl rfl (by omega) _ _ hnx (Nat.le_refl _) hsz ?_; intro w2 hown2 hnx2)
      go_roundw
      case rel => exact ⟨10, 14, by simp, rfl, rfl, by simpa [txt, bc, hx, hexcell _ hl hu] using hown2, hnx2⟩
      case measure => simp [intOf]
    · have hb := and15 (a / 16) (by omega) (by omega)
      have hl : 0 ≤ a / 16 % 16 := by omega
      have hu : a / 16 % 16 < 16 := by omega
      go_wp2_with (first
        | (at_builtin; refine append_one_fits _ rfl (.tmp 16) (.tmp 17) 43 rfl w.heap.size 5 i0 Try.underlying43 hi hz1 w.heap.size _ 17 _ _ rfl hown rfl rfl (by omega) _ _ hnx (Nat.le_refl _) hsz ?_; intro w1 hown1 hnx1; have hsz1 := hnx1.size)
        | (at_builtin; refine append_one_fits _ rfl (.tmp 19) (.tmp 27) 43 rfl w.heap.size 5 i0 Try.underlying43 hi hz1 w.heap.size _ 17 _ _ rfl hown1 rfl rfl (by omega) _ _ hnx1 (Nat.le_refl _) hsz1 ?_; intro w2 hown2 hnx2))
      go_roundw
      case rel => exact ⟨11, 16, by simp, rfl, rfl, by simpa [txt, bc, hx, hexcell _ hl hu] using hown2, hnx2⟩
      case measure => simp [intOf]
    · have hb := and15 (a) (by omega) (by omega)
      have hl : 0 ≤ a % 16 := by omega
      have hu : a % 16 < 16 := by omega
      go_wp2_with (at_builtin; refine append_one_fits _ rfl (.tmp 19) (.tmp 27) 43 rfl w.heap.size 5 i0 Try.underlying43 hi hz1 w.heap.size _ 17 _ _ rfl hown rfl rfl (by omega) _ _ hnx (Nat.le_refl _) hsz ?_; intro w2 hown2 hnx2)
      go_roundw
      case rel => exact ⟨12, 17, by simp, rfl, rfl, by simpa [txt, bc, hx, hexcell _ hl hu] using hown2, hnx2⟩
      case measure => simp [intOf]
    · rw [List.take_of_length_le (by rw [txt_len]; omega)] at hown
      have hc := bytes_of_own (txt_len a) hown
      have hcv := run_convert_bytes_back (P := Try.prog) wr 43 9 5 ⟨w.heap.size, 0, none⟩ 17 (txt a) Try.underlying43 Try.underlying5 Try.underlying9 hc
      rw [txt_len] at hcv
      clear hc
      go_wp2
      go_ret
      exact ⟨rfl, hnx⟩
end Go.Proofs.Ytddbmbnpjdpijaa
