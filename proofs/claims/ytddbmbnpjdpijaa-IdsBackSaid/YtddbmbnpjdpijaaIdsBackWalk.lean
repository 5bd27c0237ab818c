/- The law IdsBack, walked: it answers true, whatever the number and the bytes. -/
import Derived.Test.YtddbmbnpjdpijaaIdsAwake
import Derived.Test.YtddbmbnpjdpijaaIdsMath
import Derived.Test.YtddbmbnpjdpijaaIdsPut
import Derived.Laws.AppendOwnNone
namespace Go.Proofs.Ytddbmbnpjdpijaa
open Go.ChangeShapes Go.WideShapes Go.ChangeAt Go.RowKit
set_option linter.unusedVariables false

theorem back_long (a0 : Int) (ao : Option Addr) (l c : Nat) (h : 1000 < l) (hm : l ≤ 9223372036854775807) (w : World) :
    Calls Try.prog 6 #[.int .u64 a0, .slice ao l c] w fun e w' => e = .returned (.bool true) ∧ Below w.heap.size w w' := by
  go_enter Try.func6, Try.ntmps6
  go_wp2_with fail
  (with_reducible refine (awake_any _).mono ?_); rintro e wa ⟨rfl, hba⟩
  go_wp2_with fail
  (with_reducible refine (awake_any _).mono ?_); rintro e wb ⟨rfl, hbb⟩
  go_wp2
  go_ret
  exact ⟨rfl, hba.trans (hbb.mono hba.size)⟩

theorem six_back (x : Int) (h0 : 0 ≤ x) (h1 : x < 281474976710656) :
    ((((x / 1099511627776 % 256 * 256 + x / 4294967296 % 256) * 256 + x / 16777216 % 256) * 256 + x / 65536 % 256) * 256 + x / 256 % 256) * 256 + x % 256 = x := by omega

/-- What stands behind the two appends: the law's rest. -/
theorem six_cells {w : World} {base e g n cap : Nat} {x : Int} {ys : List Value} (hn : 6 ≤ n) (h : w.ownsRow base e 1 (.slice (some ⟨g, 0, none⟩) n cap) n ((six x).toList ++ ys)) :
    w.cell? ⟨g, 0, none⟩ = some (.int .u8 (x / 1099511627776 % 256)) ∧ w.cell? ⟨g, 0 + 1, none⟩ = some (.int .u8 (x / 4294967296 % 256)) ∧ w.cell? ⟨g, 0 + 2, none⟩ = some (.int .u8 (x / 16777216 % 256)) ∧
    w.cell? ⟨g, 0 + 3, none⟩ = some (.int .u8 (x / 65536 % 256)) ∧ w.cell? ⟨g, 0 + 4, none⟩ = some (.int .u8 (x / 256 % 256)) ∧ w.cell? ⟨g, 0 + 5, none⟩ = some (.int .u8 (x % 256)) := by
  have c := fun j hj => h.cellAt j hj
  refine ⟨?_, ?_, ?_, ?_, ?_, ?_⟩
  · rw [c 0 (by omega)]; rfl
  · rw [c (0 + 1) (by omega)]; rfl
  · rw [c (0 + 2) (by omega)]; rfl
  · rw [c (0 + 3) (by omega)]; rfl
  · rw [c (0 + 4) (by omega)]; rfl
  · rw [c (0 + 5) (by omega)]; rfl

theorem six_new (wa : World) (x : Int) (e : TypeId) (o : Obj) : ∀ (j : Nat) u, (six x).toList[j]? = some u → ((wa.alloc (.cells (six x) e)).alloc o).cell? ((⟨wa.heap.size, 0, none⟩ : Addr).add j) = some u := by
  intro j u hj
  have hlt : j < 6 := by
    rcases Nat.lt_or_ge j 6 with h | h
    · exact h
    · rw [List.getElem?_eq_none (by simpa [six] using h)] at hj; cases hj
  rw [addr_add, Nat.zero_add, ← hj]
  match j, hlt with
  | 0, _ => simp [six]
  | 1, _ => simp [six]
  | 2, _ => simp [six]
  | 3, _ => simp [six]
  | 4, _ => simp [six]
  | 5, _ => simp [six]

theorem six_one (x : Int) : ∀ u ∈ (six x).toList, u.oneCell' = true := by
  intro u hu
  simp [six] at hu
  rcases hu with rfl | rfl | rfl | rfl | rfl | rfl <;> rfl

theorem txt_parse (x : Int) (h0 : 0 ≤ x) (h1 : x < 281474976710656) : parseE (ByteArray.mk (txt x).toArray).data.toList = .returned (.tuple #[.int .u64 x, .int .i64 0]) := by
  show parseE (txt x) = _
  rw [good_all (txt_ok x), pacc_txt x h0 h1]

theorem txt_size (x : Int) : (ByteArray.mk (txt x).toArray).size = 17 := rfl

theorem back_nil (a0 : Int) (q0 : 0 ≤ a0) (q1 : a0 ≤ 18446744073709551615) (w : World) :
    Calls Try.prog 6 #[.int .u64 a0, .slice none 0 0] w fun e w' => e = .returned (.bool true) ∧ Below w.heap.size w w' := by
  obtain ⟨i0, hi, hz0, hz1, hz2⟩ := info_parts Try.infoByte
  obtain ⟨x, hx⟩ : ∃ x, x = a0 % 281474976710656 := ⟨_, rfl⟩
  have x0 : 0 ≤ x := by omega
  have x1 : x < 281474976710656 := by omega
  go_enter Try.func6, Try.ntmps6
  go_wp2_with fail
  (with_reducible refine (awake_any _).mono ?_); rintro e wa ⟨rfl, hba⟩
  go_wp2_with fail
  rw [← hx]
  have HX := Lib.hid hx
  clear hx
  (with_reducible refine (put_any _ x0 (by omega) _).mono ?_); rintro e w' ⟨rfl, rfl⟩
  have hB : w.heap.size ≤ wa.heap.size := hba.size
  have ho1 : ((wa.alloc (.cells (six x) 5)).alloc (.cells #[] 5)).ownsRow (wa.heap.size + 1) 5 1 (.slice (some ⟨wa.heap.size + 1, 0, none⟩) 0 0) 0 [] := by
    have := owns_empty (wa.alloc (.cells (six x) 5)) 5
    simpa using this
  go_wp2_with (first
    | (at_builtin; refine wpList_append_own _ rfl (.tmp 26) (.tmp 27) 43 rfl (wa.heap.size + 1) 5 i0 (.int .u8 0) 1 1 Try.underlying43 hi hz0 hz1 hz2 rfl (by decide) _ 0 [] rfl ho1 ⟨wa.heap.size, 0, none⟩ 6 6 (six x).toList rfl rfl (six_new wa x _ _) (six_one x) (by decide) (by decide) (by simp) ?_; intro v1 w1 hown1 hgrow1 hnil1; simp only [Nat.zero_add, List.nil_append] at hown1; clear hnil1)
    | (at_builtin; refine wpList_append_own_none rfl (.tmp 28) (.tmp 29) 43 rfl (wa.heap.size + 1) 5 i0 1 Try.underlying43 hi v1 6 (six x).toList rfl hown1 rfl ?_))
  have hb1 : Below w.heap.size w w1 := ((hba.alloc hB _).alloc (by simp; omega) _).grown hgrow1 (by simp; omega) (fun k hk => by cases hk; show w.heap.size ≤ wa.heap.size + 1; omega)
  clear ho1 hgrow1
  obtain ⟨g, cap, hv, hg⟩ := owns_some hown1 (by omega)
  subst hv
  obtain ⟨c0, c1, c2, c3, c4, c5⟩ := six_cells (by omega) hown1
  clear hown1
  (with_reducible refine (get_six g 0 _ cap (by omega) (by omega) _ _ _ _ _ _ w1 (by omega) (by omega) (by omega) (by omega) (by omega) (by omega) (by omega) (by omega) (by omega) (by omega) (by omega) (by omega) c0 c1 c2 c3 c4 c5).mono ?_)
  rintro e w' ⟨he, rfl⟩
  rw [six_back x x0 x1] at he
  subst he
  clear c0 c1 c2 c3 c4 c5
  go_wp2_with fail
  (with_reducible refine (text_any x x0 (by omega) _).mono ?_); rintro e wt ⟨rfl, hbt⟩
  go_wp2_with fail
  (with_reducible refine (parse_17 _ (txt_size x) _).mono ?_); rintro e w' ⟨he, rfl⟩
  rw [txt_parse x x0 x1] at he
  subst he
  go_wp2_with fail
  (with_reducible refine (get_short _ 5 _ (by omega) _).mono ?_); rintro e w' ⟨rfl, rfl⟩
  go_wp2
  go_ret
  exact ⟨rfl, hb1.trans (hbt.mono hb1.size)⟩

theorem row_new {w w1 : World} {ad : Addr} {l c : Nat} {zs : List Int} (hl : l ≤ c) (hz : zs.length = c) (hc : ∀ i, i < zs.length → w.cell? (ad.add i) = some (.int .u8 (zs.getD i 0))) (hb : Below w.heap.size w w1) :
    ∀ (j : Nat) u, ((zs.take l).map (Value.int .u8))[j]? = some u → w1.cell? (ad.add j) = some u := by
  intro j u hj
  have hlt : j < l := by
    rcases Nat.lt_or_ge j l with h | h
    · exact h
    · rw [List.getElem?_eq_none (by simp; omega)] at hj; cases hj
  have h1 := hc j (by omega)
  rw [hb.cell (block_lt_of_cell h1), h1, ← hj]
  simp [hlt, List.getD_eq_getElem?_getD, List.getElem?_eq_getElem (show j < zs.length by omega)]

theorem ints_one (zs : List Int) : ∀ u ∈ zs.map (Value.int .u8), u.oneCell' = true := by
  intro u hu
  simp at hu
  obtain ⟨_, _, rfl⟩ := hu
  rfl

theorem back_some (a0 : Int) (q0 : 0 ≤ a0) (q1 : a0 ≤ 18446744073709551615) (ad : Addr) (l c : Nat) (zs : List Int) (w : World) (h1000 : ¬ 1000 < l) (hlc : l ≤ c) (hz : zs.length = c) (hc : ∀ i, i < zs.length → w.cell? (ad.add i) = some (.int .u8 (zs.getD i 0))) :
    Calls Try.prog 6 #[.int .u64 a0, .slice (some ad) l c] w fun e w' => e = .returned (.bool true) ∧ Below w.heap.size w w' := by
  have h1 : l ≤ 1000 := by omega
  have hl6 : (zs.take l).length = l := by simp; omega
  have HL := Lib.hid hl6
  have HZ := Lib.hid hz
  have HC := Lib.hid hc
  clear hl6 hz hc
  obtain ⟨i0, hi, hz0, hz1, hz2⟩ := info_parts Try.infoByte
  obtain ⟨x, hx⟩ : ∃ x, x = a0 % 281474976710656 := ⟨_, rfl⟩
  have x0 : 0 ≤ x := by omega
  have x1 : x < 281474976710656 := by omega
  go_enter Try.func6, Try.ntmps6
  go_wp2_with fail
  (with_reducible refine (awake_any _).mono ?_); rintro e wa ⟨rfl, hba⟩
  go_wp2_with fail
  rw [← hx]
  have HX := Lib.hid hx
  clear hx
  (with_reducible refine (put_any _ x0 (by omega) _).mono ?_); rintro e w' ⟨rfl, rfl⟩
  have hB : w.heap.size ≤ wa.heap.size := hba.size
  have ho1 : ((wa.alloc (.cells (six x) 5)).alloc (.cells #[] 5)).ownsRow (wa.heap.size + 1) 5 1 (.slice (some ⟨wa.heap.size + 1, 0, none⟩) 0 0) 0 [] := by
    have := owns_empty (wa.alloc (.cells (six x) 5)) 5
    simpa using this
  go_wp2_with (first
    | (at_builtin; refine wpList_append_own _ rfl (.tmp 26) (.tmp 27) 43 rfl (wa.heap.size + 1) 5 i0 (.int .u8 0) 1 1 Try.underlying43 hi hz0 hz1 hz2 rfl (by decide) _ 0 [] rfl ho1 ⟨wa.heap.size, 0, none⟩ 6 6 (six x).toList rfl rfl (six_new wa x _ _) (six_one x) (by decide) (by decide) (by simp) ?_; intro v1 w1 hown1 hgrow1 hnil1; simp only [Nat.zero_add, List.nil_append] at hown1; clear hnil1; have hb1 : Below w.heap.size w w1 := ((hba.alloc hB _).alloc (by simp; omega) _).grown hgrow1 (by simp; omega) (fun k hk => by cases hk; show w.heap.size ≤ wa.heap.size + 1; omega); have hbase1 : wa.heap.size + 1 ≤ w1.heap.size := by have := hgrow1.size; simp at this; omega)
    | (at_builtin; refine wpList_append_own _ rfl (.tmp 28) (.tmp 29) 43 rfl (wa.heap.size + 1) 5 i0 (.int .u8 0) 1 1 Try.underlying43 hi hz0 hz1 hz2 rfl (by decide) v1 6 (six x).toList rfl hown1 ad l c ((zs.take l).map (Value.int .u8)) rfl (by rw [List.length_map, HL.out, Nat.mul_one]) (row_new hlc HZ.out HC.out hb1) (ints_one _) (by unfold maxLen; omega) (by omega) hbase1 ?_; intro v2 w2 hown2 hgrow2 hnil2; clear hnil2))
  have hrow : ∀ k, v1.ownBlock = some k → w.heap.size ≤ k := by
    intro k hk
    obtain ⟨g, cap, hv, hg⟩ := owns_some hown1 (by omega)
    rw [hv] at hk
    simp [Value.ownBlock] at hk
    omega
  have hb2 : Below w.heap.size w w2 := hb1.grown hgrow2 hb1.size hrow
  clear ho1 hgrow1 hgrow2 hown1 hrow
  obtain ⟨g, cap, hv, hg⟩ := owns_some hown2 (by omega)
  subst hv
  obtain ⟨c0, c1, c2, c3, c4, c5⟩ := six_cells (by omega) hown2
  clear hown2
  (with_reducible refine (get_six g 0 _ cap (by omega) (by omega) _ _ _ _ _ _ w2 (by omega) (by omega) (by omega) (by omega) (by omega) (by omega) (by omega) (by omega) (by omega) (by omega) (by omega) (by omega) c0 c1 c2 c3 c4 c5).mono ?_)
  rintro e w' ⟨he, rfl⟩
  rw [six_back x x0 x1] at he
  subst he
  clear c0 c1 c2 c3 c4 c5
  go_wp2_with fail
  (with_reducible refine (text_any x x0 (by omega) _).mono ?_); rintro e wt ⟨rfl, hbt⟩
  go_wp2_with fail
  (with_reducible refine (parse_17 _ (txt_size x) _).mono ?_); rintro e w' ⟨he, rfl⟩
  rw [txt_parse x x0 x1] at he
  subst he
  go_wp2_with fail
  (with_reducible refine (get_short _ 5 _ (by omega) _).mono ?_); rintro e w' ⟨rfl, rfl⟩
  go_wp2
  go_ret
  exact ⟨rfl, hb2.trans (hbt.mono hb2.size)⟩

theorem IdsBack_walk (a0 : Int) (a1 : Option Addr) (len1 cap1 : Nat) (z1 : List Int) (w : World) (w0 : (Lit.int .u64 a0).wf = true) (w1 : IsRow .u8 w a1 len1 cap1 z1) :
    Calls Try.prog 6 #[.int .u64 a0, .slice a1 len1 cap1] w fun e w' => e = .returned (.bool true) ∧ Below w.heap.size w w' := by
  obtain ⟨q0, q1⟩ := bounds_u64 w0
  rcases w1 with ⟨rfl, rfl, rfl, rfl⟩ | ⟨ad, rfl, hl, hm, hz, hc, _⟩
  · exact back_nil a0 q0 q1 w
  · by_cases h : 1000 < len1
    · exact back_long a0 _ _ _ h (by unfold maxLen at hm; omega) w
    · exact back_some a0 q0 q1 ad len1 cap1 z1 w h hl hz hc

end Go.Proofs.Ytddbmbnpjdpijaa
