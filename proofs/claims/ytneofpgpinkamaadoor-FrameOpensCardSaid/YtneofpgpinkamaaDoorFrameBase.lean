/- Frames: what is wrong with one, and its bytes, as the program answers them. -/
import Derived.Test.YtneofpgpinkamaaDoorWirePutA
import Derived.Test.YtneofpgpinkamaaDoorWireAppend
namespace Go.Proofs.YtneofpgpinkamaaDoor
open Go.ChangeShapes Go.WideShapes Go.ChangeAt Go.RowKit
set_option linter.unusedVariables false

/-- What is wrong with a frame: its number. -/
def checkI (t f k : Int) (n : Nat) : Int :=
  if 281474976710655 < t ∨ 281474976710655 < f then 1 else if 1500 < n then 4 else if 1536 ≤ k then 0 else if k ≤ 1500 ∧ k = n then 0 else 3

/-- What 'Check' leaves. -/
def CheckEnd (t f k : Int) (n : Nat) (w : World) (e : Ending) (w' : World) : Prop := e = .returned (.int .i64 (checkI t f k n)) ∧ Below w.heap.size w w'

theorem check_any (t f k : Int) (A : Option Addr) (n c : Nat) (hn : n ≤ 9223372036854775807) (h0 : 0 ≤ t) (h1 : 0 ≤ f) (h2 : 0 ≤ k) (h3 : t < 18446744073709551616) (h4 : f < 18446744073709551616) (h5 : k < 65536) (w : World) :
    Calls Tryd.prog 8 #[.agg #[.int .u64 t, .int .u64 f, .int .u16 k, .slice A n c]] w (CheckEnd t f k n w) := by
  by_cases g1 : 281474976710655 < t
  · have e : checkI t f k n = 1 := by unfold checkI; rw [if_pos (.inl g1)]
    have d1 : decide (t ≤ 281474976710655) = false := by simp; omega
    have E := Lib.hid e
    clear e
    go_enter Tryd.func8, Tryd.ntmps8
    go_wp2
    go_ret
    refine ⟨ret_int E.out.symm, below_new (Nat.le_refl _)⟩
  · have d1 : decide (t ≤ 281474976710655) = true := by simp; omega
    by_cases g2 : 281474976710655 < f
    · have e : checkI t f k n = 1 := by unfold checkI; rw [if_pos (.inr g2)]
      have d2 : decide (f ≤ 281474976710655) = false := by simp; omega
      have E := Lib.hid e
      clear e
      go_enter Tryd.func8, Tryd.ntmps8
      go_wp2
      go_ret
      refine ⟨ret_int E.out.symm, below_new (Nat.le_refl _)⟩
    · have d2 : decide (f ≤ 281474976710655) = true := by simp; omega
      have e : checkI t f k n = if 1500 < n then 4 else if 1536 ≤ k then 0 else if k ≤ 1500 ∧ k = n then 0 else 3 := by unfold checkI; rw [if_neg (by omega)]
      have E := Lib.hid e
      clear e
      by_cases g3 : 1500 < n
      · have d3 : decide (1500 < (n : Int)) = true := by simp; omega
        go_enter Tryd.func8, Tryd.ntmps8
        go_wp2
        go_ret
        exact ⟨ret_int (by rw [E.out, if_pos g3]), below_new (Nat.le_refl _)⟩
      · have d3 : decide (1500 < (n : Int)) = false := by simp; omega
        by_cases g4 : 1536 ≤ k
        · go_enter Tryd.func8, Tryd.ntmps8
          go_wp2
          go_ret
          exact ⟨ret_int (by rw [E.out, if_neg g3, if_pos g4]), below_new (Nat.le_refl _)⟩
        · have d4 : decide (1536 ≤ k) = false := by simp; omega
          by_cases g5 : k ≤ 1500
          · by_cases g6 : k = n
            · have d6 : (k == (n : Int)) = true := by simpa using g6
              have G6 := Lib.hid g6
              clear g6
              go_enter Tryd.func8, Tryd.ntmps8
              go_wp2
              go_ret
              exact ⟨ret_int (by rw [E.out, if_neg g3, if_neg (by omega), if_pos ⟨g5, G6.out⟩]), below_new (Nat.le_refl _)⟩
            · have d6 : (k == (n : Int)) = false := by simpa using g6
              go_enter Tryd.func8, Tryd.ntmps8
              go_wp2
              go_ret
              exact ⟨ret_int (by rw [E.out, if_neg g3, if_neg (by omega), if_neg (by omega)]), below_new (Nat.le_refl _)⟩
          · have d5 : decide (k ≤ 1500) = false := by simpa using g5
            go_enter Tryd.func8, Tryd.ntmps8
            go_wp2
            go_ret
            exact ⟨ret_int (by rw [E.out, if_neg g3, if_neg (by omega), if_neg (by omega)]), below_new (Nat.le_refl _)⟩

theorem own_of_bk {w : World} {base g : Nat} {l : List UInt8} (n : Nat) (hn : Hid (l.length = n)) (hm : n ≤ 1000000) (h : Bk w g 5 (l.map bc)) (hb : base ≤ g) : w.ownsRow base 5 1 (.slice (some ⟨g, 0, none⟩) n n) n (l.map bc) := by
  have e := hn.out
  subst e
  exact ⟨by simp, .inr ⟨g, l.length, (l.map bc).toArray, rfl, hb, h, Nat.le_refl _, by unfold maxLen; omega, by simp, by rw [Nat.mul_one]; exact List.take_of_length_le (by simp)⟩⟩

/-- A frame's bytes. -/
def frB (t f k : Int) (l : List UInt8) : List UInt8 := ((beB t 6 ++ beB f 6) ++ beB k 2) ++ l

theorem frB_len (t f k : Int) (l : List UInt8) : (frB t f k l).length = 14 + l.length := by simp [frB, beB_len]; omega

/-- What 'Put' leaves of a frame that may be: a row of the call's own. -/
def PutEnd (t f k : Int) (l : List UInt8) (n : Nat) (w : World) (e : Ending) (w' : World) : Prop :=
  ∃ g cap, e = .returned (.tuple #[.slice (some ⟨g, 0, none⟩) (14 + n) cap, .int .i64 0]) ∧ w.heap.size ≤ g ∧ Row w' g cap (frB t f k l) ∧ Below w.heap.size w w'

theorem bcell {W w1 : World} (hb : Below W.heap.size W w1) : (∀ b o, b < W.heap.size → w1.cell? ⟨b, o, none⟩ = W.cell? ⟨b, o, none⟩) ∧ (∀ b o, b < W.heap.size → w1.frozen? ⟨b, o, none⟩ = W.frozen? ⟨b, o, none⟩) :=
  ⟨fun b o h => hb.cell (p := ⟨b, o, none⟩) h, fun b o h => hb.frozen (p := ⟨b, o, none⟩) h⟩

/-- A frame in a block of its own. -/
def FB (w : World) (g : Nat) (t f k : Int) (A : Option Addr) (n c : Nat) : Prop := Bk w g 27 [.int .u64 t, .int .u64 f, .int .u16 k, .slice A n c]

theorem FB.new (w : World) (t f k : Int) (A : Option Addr) (n c : Nat) : FB (w.alloc (.cells #[.int .u64 t, .int .u64 f, .int .u16 k, .slice A n c] 27)) w.heap.size t f k A n c := heap_alloc_new w _

theorem FB.below {w w' : World} {g B : Nat} {t f k : Int} {A : Option Addr} {n c : Nat} (h : FB w g t f k A n c) (hb : Below B w w') (hg : g < B) : FB w' g t f k A n c := Bk.below h hb hg

theorem FB.cells {w : World} {g : Nat} {t f k : Int} {A : Option Addr} {n c : Nat} (h : FB w g t f k A n c) :
    w.cell? ⟨g, 0, none⟩ = some (.int .u64 t) ∧ w.cell? ⟨g, 1, none⟩ = some (.int .u64 f) ∧ w.cell? ⟨g, 2, none⟩ = some (.int .u16 k) ∧ w.cell? ⟨g, 3, none⟩ = some (.slice A n c) :=
  ⟨h.cell 0, h.cell 1, h.cell 2, h.cell 3⟩

theorem FB.thaws {w : World} {g : Nat} {t f k : Int} {A : Option Addr} {n c : Nat} (h : FB w g t f k A n c) :
    w.frozen? ⟨g, 0, none⟩ = false ∧ w.frozen? ⟨g, 1, none⟩ = false ∧ w.frozen? ⟨g, 2, none⟩ = false ∧ w.frozen? ⟨g, 3, none⟩ = false :=
  ⟨h.thaw 0, h.thaw 1, h.thaw 2, h.thaw 3⟩

/-- A frame that came in: its numbers fit, its data are a row of bytes. -/
def FrIn (w : World) (t f k : Int) (a : Option Addr) (len cap : Nat) (z : List Int) : Prop :=
  0 ≤ t ∧ t < 18446744073709551616 ∧ 0 ≤ f ∧ f < 18446744073709551616 ∧ 0 ≤ k ∧ k < 65536 ∧ IsRow .u8 w a len cap z

theorem boxed (w : World) (t f k : Int) (A : Option Addr) (n c : Nat) :
    ∃ w0, FB w0 w.heap.size t f k A n c ∧ Below w.heap.size w w0 ∧ w.heap.size < w0.heap.size ∧ w0 = w.alloc (.cells #[.int .u64 t, .int .u64 f, .int .u16 k, .slice A n c] 27) :=
  ⟨_, FB.new w t f k A n c, below_new (Nat.le_refl _), by simp, rfl⟩

theorem put_bad (t f k : Int) (A : Option Addr) (n c : Nat) (hn : n ≤ 9223372036854775807) (h0 : 0 ≤ t) (h1 : 0 ≤ f) (h2 : 0 ≤ k) (h3 : t < 18446744073709551616) (h4 : f < 18446744073709551616) (h5 : k < 65536) (hbad : (checkI t f k n != 0) = true) (w : World) :
    Calls Tryd.prog 9 #[.agg #[.int .u64 t, .int .u64 f, .int .u16 k, .slice A n c]] w fun e w' => e = .returned (.tuple #[.slice none 0 0, .int .i64 (checkI t f k n)]) ∧ Below w.heap.size w w' := by
  obtain ⟨z, hz⟩ : ∃ z, z = checkI t f k n := ⟨_, rfl⟩
  rw [← hz] at hbad ⊢
  have HZ := Lib.hid hz
  clear hz
  go_enter Tryd.func9, Tryd.ntmps9
  go_wp2_with (go_at_call 8; (with_reducible refine (check_any t f k A n c hn h0 h1 h2 h3 h4 h5 _).mono ?_); rintro e w1 ⟨rfl, hb1⟩; rw [← HZ.out])
  go_ret2
  exact ⟨rfl, (below_new (Nat.le_refl _)).trans (hb1.mono (by simp))⟩

theorem put_ok (t f k : Int) (A : Option Addr) (n c : Nat) (l : List UInt8) (hl : Hid (l.length = n)) (hnc : Hid (A = none → c = 0)) (hn : n ≤ 3000) (h0 : 0 ≤ t) (h1 : 0 ≤ f) (h2 : 0 ≤ k) (h3 : t < 18446744073709551616) (h4 : f < 18446744073709551616) (h5 : k < 65536) (hok : Hid (checkI t f k n = 0)) (w : World)
    (hr : RB w A 0 w.heap.size l) :
    Calls Tryd.prog 9 #[.agg #[.int .u64 t, .int .u64 f, .int .u16 k, .slice A n c]] w (PutEnd t f k l n w) := by
  go_enter Tryd.func9, Tryd.ntmps9
  go_wp2_with fail
  have hB0 := FB.new w t f k A n c
  have hb0 : Below w.heap.size w (w.alloc (.cells #[.int .u64 t, .int .u64 f, .int .u16 k, .slice A n c] 27)) := below_new (Nat.le_refl _)
  have hz0 : (w.alloc (.cells #[.int .u64 t, .int .u64 f, .int .u16 k, .slice A n c] 27)).heap.size = w.heap.size + 1 := by simp
  obtain ⟨w0, hw0⟩ : ∃ w0, w0 = w.alloc (.cells #[.int .u64 t, .int .u64 f, .int .u16 k, .slice A n c] 27) := ⟨_, rfl⟩
  rw [← hw0] at hB0 hb0 hz0 ⊢
  clear hw0
  have HZ0 := Lib.hid hz0
  clear hz0
  (with_reducible refine (check_any t f k A n c (by omega) h0 h1 h2 h3 h4 h5 _).mono ?_); rintro e w1 ⟨rfl, hb1⟩
  rw [hok.out]
  have hs1 : w.heap.size < w1.heap.size := by have := hb1.size; rw [HZ0.out] at this; omega
  have hB1 := hB0.below hb1 (by rw [HZ0.out]; omega)
  have hbw1 : Below w.heap.size w w1 := hb0.trans (hb1.mono (by rw [HZ0.out]; omega))
  obtain ⟨c0, c1, c2, c3⟩ := hB1.cells
  clear hB0 hb0 hb1
  go_wp2_with fail
  (with_reducible refine (putA none 0 [] 0 0 0 6 6 t (Lib.hid rfl) (by omega) h0 h3 (Lib.hid rfl) (by omega) _ (RB.nil _ _ _ _) (Nat.zero_le _)).mono ?_); rintro e w2 ⟨rfl, hP2, hb2⟩
  rw [List.nil_append] at hP2
  have hB2 := hB1.below hb2 hs1
  have hbw2 : Below w.heap.size w w2 := below_two hbw1 hb2 hbw1.size
  have hl2 : Hid ((beB t 6).length = 6) := Lib.hid (beB_len t 6)
  have hs2 := Nat.lt_of_lt_of_le hs1 hb2.size
  clear c0 c1 c2 c3 hB1 hb2
  obtain ⟨c0, c1, c2, c3⟩ := hB2.cells
  go_wp2_with fail
  (with_reducible refine (putA _ 6 (beB t 6) 6 0 w2.heap.size 6 6 f (Lib.hid rfl) (by omega) h1 h4 hl2 (by omega) _ (hP2.rb 0 w2.heap.size (Nat.zero_le _) hP2.lt) (Nat.le_refl _)).mono ?_); rintro e w3 ⟨rfl, hP3, hb3⟩
  have hB3 := hB2.below hb3 hs2
  have hbw3 : Below w.heap.size w w3 := below_two hbw2 hb3 hbw2.size
  have hl3 : Hid ((beB t 6 ++ beB f 6).length = 6 + 6) := by show _ = _; rw [List.length_append, beB_len, beB_len]
  have hs3 := Nat.lt_of_lt_of_le hs2 hb3.size
  clear c0 c1 c2 c3 hB2 hb3
  obtain ⟨c0, c1, c2, c3⟩ := hB3.cells
  go_wp2_with fail
  (with_reducible refine (put16 _ (6 + 6) (beB t 6 ++ beB f 6) (6 + 6) 0 w3.heap.size 2 2 k (Lib.hid rfl) (by omega) h2 h5 hl3 (by omega) _ (hP3.rb 0 w3.heap.size (Nat.zero_le _) hP3.lt) (Nat.le_refl _)).mono ?_); rintro e w4 ⟨rfl, hP4, hb4⟩
  have hB4 := hB3.below hb4 hs3
  have hbw4 : Below w.heap.size w w4 := below_two hbw3 hb4 hbw3.size
  have hl4 : Hid (((beB t 6 ++ beB f 6) ++ beB k 2).length = 14) := by show _ = _; rw [List.length_append, List.length_append, beB_len, beB_len, beB_len]
  have hs4 := Nat.le_trans hs3 hb4.size
  clear c0 c1 c2 c3 hB3 hb4
  obtain ⟨c0, c1, c2, c3⟩ := hB4.cells
  have hown := own_of_bk 14 hl4 (by omega) hP4 (base := w.heap.size) (Nat.le_of_lt hs3)
  go_wp2_with (at_builtin; refine append_bytes _ rfl (.tmp 22) (.tmp 24) rfl w.heap.size w3.heap.size 14 14 ((beB t 6 ++ beB f 6) ++ beB k 2) rfl hown A n c 0 w.heap.size l rfl (hr.below hbw4 (Nat.le_refl _)) hl hnc.out (by omega) (Nat.le_of_lt hs4) w.heap.size w hbw4 (Nat.le_refl _) ?_; intro g5 cap5 w5 hown5 hbw5 hsz5)
  obtain ⟨hrow, hg, hq⟩ := Row.of_own hown5
  go_ret2
  exact ⟨g5, cap5, rfl, hg, hrow, hbw5⟩

theorem awake_bytes : (frB 1 2 0 []).toArray = #[0, 0, 0, 0, 0, 1, 0, 0, 0, 0, 0, 2, 0, 0] := by decide +kernel

theorem awake_any (w : World) : Calls Tryd.prog 4 #[] w fun e w' => e = .returned (.bool true) ∧ Below w.heap.size w w' := by
  have hok : Hid (checkI 1 2 0 0 = 0) := by show _ = _; decide
  go_enter Tryd.func4, Tryd.ntmps4
  go_wp2_with ((with_reducible refine (put_ok 1 2 0 none 0 0 [] (Lib.hid rfl) (Lib.hid (fun _ => rfl)) (by omega) (by omega) (by omega) (by omega) (by omega) (by omega) (by omega) hok _ (RB.nil _ _ _ _)).mono ?_); rintro e w1 ⟨g, cap, rfl, hg, hrow, hb⟩; have hcv := conv_row (hrow.rb 0 (g + 1) (Nat.zero_le _) (Nat.lt_succ_self _)) 14 cap (Lib.hid (frB_len _ _ _ _)); rw [awake_bytes] at hcv)
  go_ret
  exact ⟨rfl, hb⟩

end Go.Proofs.YtneofpgpinkamaaDoor
