/- A bridge's table that a law made itself, by what it holds; the document's example, walked. -/
import Derived.Test.YtokepfgknffdfaaFdbTick
namespace Go.Proofs.Ytokepfgknffdfaa
open Go.ChangeShapes Go.WideShapes Go.ChangeAt Go.RowKit Go.Shelf
set_option linter.unusedVariables false

/-- In W lies at f a table of n places that holds c; all that was there in w lies as it lay. -/
def FS (w : World) (f n : Nat) (c : List (Int × (Int × Int))) (W : World) : Prop :=
  ∃ h g, FT W f h g n c ∧ Aged c ∧ Below w.heap.size w W ∧ (w.heap.size ≤ f ∧ w.heap.size ≤ h ∧ w.heap.size ≤ g)

theorem FS.old {w W : World} {f n : Nat} {c : List (Int × (Int × Int))} (s : FS w f n c W) : Below w.heap.size w W := by
  obtain ⟨_, _, _, _, b, _⟩ := s
  exact b
theorem FS.aged {w W : World} {f n : Nat} {c : List (Int × (Int × Int))} (s : FS w f n c W) : Aged c := by
  obtain ⟨_, _, _, a, _⟩ := s
  exact a
theorem FS.ap {w W : World} {f n : Nat} {c : List (Int × (Int × Int))} (s : FS w f n c W) : Ap c := by
  obtain ⟨_, _, t, _⟩ := s
  exact t.2.1.ap
theorem FS.le {w W : World} {f n : Nat} {c : List (Int × (Int × Int))} (s : FS w f n c W) : c.length ≤ n ∧ n ≤ 64 := by
  obtain ⟨_, _, t, _⟩ := s
  exact ⟨t.2.1.le, t.2.1.lt.2.2.2⟩
theorem FS.perm {w W : World} {f n : Nat} {c d : List (Int × (Int × Int))} (s : FS w f n c W) (p : c.Perm d) : FS w f n d W := by
  obtain ⟨h, g, t, a, b, l⟩ := s
  exact ⟨h, g, ⟨t.1, t.2.1.perm p, t.2.2⟩, aged_perm a p, b, l⟩
theorem FS.below {w W W' : World} {f n : Nat} {c : List (Int × (Int × Int))} (s : FS w f n c W) (hb : Below W.heap.size W W') : FS w f n c W' := by
  obtain ⟨h, g, t, a, b, l⟩ := s
  exact ⟨h, g, t.below hb, a, b.trans (hb.mono b.size), l⟩
theorem FS.drew {w W : World} {f n : Nat} {c : List (Int × (Int × Int))} (s : FS w f n c W) : FS w f n c W.drew := s.below ((Below.refl _ _).drew)

/-- What a new one is. -/
def FSNew (w : World) (n : Nat) (e : Ending) (W' : World) : Prop := ∃ f, e = .returned (.pointer (some ⟨f, 0, none⟩)) ∧ FS w f n [] W'

theorem FS.new {w W : World} (hb : Below w.heap.size w W) (k : Int) (n : Nat) (hn : min (max k 0) 64 = n) : Calls Try.prog 9 #[.int .i64 k] W (FSNew w n) :=
  (fnew_is k n hn W).mono fun e W' ⟨f, h, g, he, l, t, b⟩ => ⟨f, he, h, g, t, aged_nil, hb.trans (b.mono hb.size), by have := hb.size; omega, by have := hb.size; omega, by have := hb.size; omega⟩

theorem FS.len {w W : World} {f n : Nat} {c : List (Int × (Int × Int))} (s : FS w f n c W) (z : Int) (hz : Hid ((c.length : Int) = z)) :
    Calls Try.prog 19 #[.pointer (some ⟨f, 0, none⟩)] W fun e W' => e = .returned (.int .i64 z) ∧ FS w f n c W' := by
  rw [← hz.out]
  obtain ⟨h, g, t, _⟩ := id s
  exact (flen_is t).mono fun e W' ⟨he, hb⟩ => ⟨he, s.below hb⟩

theorem FS.look {w W : World} {f n : Nat} {c : List (Int × (Int × Int))} (s : FS w f n c W) (a : Int) (ha0 : 0 ≤ a) (ha1 : a ≤ 18446744073709551615) (p : Int) (b : Bool) (hp : Hid (portO (getC c a) = p)) (hb : Hid (inC c a = b)) :
    Calls Try.prog 16 #[.pointer (some ⟨f, 0, none⟩), .int .u64 a] W fun e W' => e = .returned (.tuple #[.int .i64 p, .bool b]) ∧ FS w f n c W' := by
  obtain ⟨h, g, t, _⟩ := id s
  exact (flookup_is t a ha0 ha1 p b hp hb).mono fun e W' ⟨he, hb⟩ => ⟨he, s.below hb⟩

theorem FS.learn {w W : World} {f n : Nat} {c : List (Int × (Int × Int))} (s : FS w f n c W) (a : Int) (ha0 : 0 ≤ a) (ha1 : a ≤ 18446744073709551615) (port : Int) (b : Bool) (hb : Hid (learnB c n a = b)) :
    Calls Try.prog 11 #[.pointer (some ⟨f, 0, none⟩), .int .u64 a, .int .i64 port] W fun e W' => e = .returned (.bool b) ∧ FS w f n (putEnd c a (port, 0) b) W' := by
  obtain ⟨h, g, t, ag, bw, l1, l2, l3⟩ := id s
  exact (flearn_is t a ha0 ha1 port b hb).mono fun e W' ⟨he, ht, hbut⟩ => ⟨he, h, g, ht, aged_put ag a port b, But.below bw hbut bw.size l3, l1, l2, l3⟩

theorem FS.renewed {w W W' : World} {f n : Nat} {c : List (Int × (Int × Int))} {nx : Int × Int → (Int × Int) × Bool} {e : Ending} (s : FS w f n c W) (ha : Aged (c.filterMap (keepF nx))) (r : RenewEnd W f n c nx e W') (z : Int) (hz : (c.length : Int) - ((c.filterMap (keepF nx)).length : Nat) = z) :
    e = .returned (.int .i64 z) ∧ FS w f n (c.filterMap (keepF nx)) W' := by
  obtain ⟨h, g, t, ag, bw, l1, l2, l3⟩ := s
  obtain ⟨h', g', he, ht, ⟨k1, k2⟩, hbut⟩ := r
  have := bw.size
  exact ⟨by rw [he, hz], h', g', ht, ha, But.below bw hbut bw.size l1, l1, by omega, by omega⟩

theorem FS.tick {w W : World} {f n : Nat} {c : List (Int × (Int × Int))} (s : FS w f n c W) (limit : Int) (z : Int) (hz : Hid ((c.length : Int) - ((tickC limit c).length : Nat) = z)) :
    Calls Try.prog 13 #[.pointer (some ⟨f, 0, none⟩), .int .i64 limit] W fun e W' => e = .returned (.int .i64 z) ∧ FS w f n (tickC limit c) W' := by
  obtain ⟨h, g, t, ag, _⟩ := id s
  exact (ftick_is t ag limit).mono fun e W' r => s.renewed (aged_tick ag limit) r z hz.out

theorem FS.flush {w W : World} {f n : Nat} {c : List (Int × (Int × Int))} (s : FS w f n c W) (port : Int) (z : Int) (hz : Hid ((c.length : Int) - ((flushC port c).length : Nat) = z)) :
    Calls Try.prog 15 #[.pointer (some ⟨f, 0, none⟩), .int .i64 port] W fun e W' => e = .returned (.int .i64 z) ∧ FS w f n (flushC port c) W' := by
  obtain ⟨h, g, t, ag, _⟩ := id s
  exact (fflush_is t port).mono fun e W' r => s.renewed (aged_flush ag port) r z hz.out

set_option maxRecDepth 100000 in
set_option maxHeartbeats 2000000 in
theorem awake_is (w : World) : Calls Try.prog 8 #[] w fun e w' => e = .returned (.bool true) ∧ Below w.heap.size w w' := by
  go_enter Try.func8, Try.ntmps8
  go_wp2_with fail
  (with_reducible refine (FS.new (Below.refl _ w) 4 4 (by decide)).mono ?_); rintro e w1 ⟨f, rfl, s1⟩
  have S1 := Lib.hid s1
  clear s1
  go_wp2_with fail
  (with_reducible refine (S1.out.learn 2 (by omega) (by omega) 1 true (Lib.hid (by decide))).mono ?_); rintro e w2 ⟨rfl, s2⟩
  have S2 : Hid (FS w f 4 [(2, (1, 0))] w2) := s2
  clear s2
  go_wp2_with fail
  (with_reducible refine (S2.out.look 2 (by omega) (by omega) 1 true (Lib.hid (by decide)) (Lib.hid (by decide))).mono ?_); rintro e w3 ⟨rfl, s3⟩
  have S3 := Lib.hid s3
  clear s3
  go_wp2_with fail
  (with_reducible refine (S3.out.tick 2 0 (Lib.hid (by decide))).mono ?_); rintro e w4 ⟨rfl, s4⟩
  have S4 : Hid (FS w f 4 [(2, (1, 1))] w4) := s4
  clear s4
  go_wp2_with fail
  (with_reducible refine (S4.out.tick 2 1 (Lib.hid (by decide))).mono ?_); rintro e w5 ⟨rfl, s5⟩
  have S5 : Hid (FS w f 4 [] w5) := s5
  clear s5
  go_wp2_with fail
  (with_reducible refine (S5.out.len 0 (Lib.hid (by decide))).mono ?_); rintro e w6 ⟨rfl, s6⟩
  have B6 := s6.old
  clear s6
  go_wp2
  go_ret
  exact ⟨rfl, B6⟩

end Go.Proofs.Ytokepfgknffdfaa
