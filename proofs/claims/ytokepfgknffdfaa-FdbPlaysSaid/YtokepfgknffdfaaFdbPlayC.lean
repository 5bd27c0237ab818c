/- What lies there while acts befall a bridge's table, and the document's entries beside it. -/
import Derived.Test.YtokepfgknffdfaaFdbRef
import Derived.Test.YtokepfgknffdfaaFdbApi
namespace Go.Proofs.Ytokepfgknffdfaa
open Go.ChangeShapes Go.WideShapes Go.ChangeAt Go.RowKit Go.Shelf
set_option linter.unusedVariables false

/-- The entries L at A, in a row that is neither of two blocks. -/
def RowX (W : World) (B : Nat) (A : Option Addr) (L : List (Int × (Int × Int))) (f g : Nat) : Prop :=
  ∀ i p, L[i]? = some p → ∃ r, A = some ⟨r, 0, none⟩ ∧ B ≤ r ∧ r < W.heap.size ∧ r ≠ f ∧ r ≠ g ∧ ∀ c, c < 3 → W.cell? ⟨r, i * 3 + c, none⟩ = (encR p)[c]?

theorem RowX.keep {W W' : World} {B : Nat} {A : Option Addr} {L : List (Int × (Int × Int))} {f g f' g' : Nat} (h : RowX W B A L f g) (hs : W.heap.size ≤ W'.heap.size) (k : ∀ b, b < W.heap.size → b ≠ f → b ≠ g → W'.heap[b]? = W.heap[b]? ∧ b ≠ f' ∧ b ≠ g') : RowX W' B A L f' g' := fun i p hp => by
  obtain ⟨r, h1, h2, h3, h4, h5, h6⟩ := h i p hp
  obtain ⟨k1, k2, k3⟩ := k r h3 h4 h5
  exact ⟨r, h1, h2, by omega, k2, k3, fun c hc => (World.cell?_of_block (a := ⟨r, i * 3 + c, none⟩) k1).trans (h6 c hc)⟩

/-- In W lies at f a table of n places that holds c, and at A the document's entries L; all that was there in w lies as it lay. -/
def FR (w : World) (f n : Nat) (c L : List (Int × (Int × Int))) (A : Option Addr) (W : World) : Prop :=
  ∃ h g, FT W f h g n c ∧ Aged c ∧ Below w.heap.size w W ∧ (w.heap.size ≤ f ∧ w.heap.size ≤ h ∧ w.heap.size ≤ g) ∧ RowX W w.heap.size A L f g

section
variable {w W W' : World} {f n : Nat} {c d L M : List (Int × (Int × Int))} {A : Option Addr}

theorem FR.fs (s : FR w f n c L A W) : FS w f n c W := by
  obtain ⟨h, g, t, a, b, l, _⟩ := s
  exact ⟨h, g, t, a, b, l⟩
theorem FR.row (s : FR w f n c L A W) : RowAt encR 3 W w.heap.size A L := fun i p hp => by
  obtain ⟨h, g, _, _, _, _, r⟩ := s
  obtain ⟨x, h1, h2, h3, _, _, h6⟩ := r i p hp
  exact ⟨x, h1, h2, h3, h6⟩
theorem FR.perm (s : FR w f n c L A W) (p : c.Perm d) : FR w f n d L A W := by
  obtain ⟨h, g, t, a, b, l, r⟩ := s
  exact ⟨h, g, ⟨t.1, t.2.1.perm p, t.2.2⟩, aged_perm a p, b, l, r⟩
theorem FR.below (s : FR w f n c L A W) (hb : Below W.heap.size W W') : FR w f n c L A W' := by
  obtain ⟨h, g, t, a, b, l, r⟩ := s
  exact ⟨h, g, t.below hb, a, b.trans (hb.mono b.size), l, r.keep hb.size fun x hx h1 h2 => ⟨hb.block x hx, h1, h2⟩⟩
theorem FR.drew (s : FR w f n c L A W) : FR w f n c L A W.drew := s.below ((Below.refl _ _).drew)

/-- How it begins. -/
theorem FR.start (s : FS w f n [] W) : FR w f n [] [] none W := by
  obtain ⟨h, g, t, a, b, l⟩ := s
  exact ⟨h, g, t, a, b, l, fun i p hp => by simp at hp⟩

/-- The document's entries are others: a row that was made since. -/
theorem FR.made (s : FR w f n c L A W) {A' : Option Addr} {m cap : Nat} (r : MadeR W M (.slice A' m cap) W') : FR w f n c M A' W' := by
  obtain ⟨r1, r2⟩ := r
  obtain ⟨h, g, t, a, b, l, _⟩ := s.below r2
  obtain ⟨h0, g0, t0, _, b0, _⟩ := s
  have hf := t0.lt.1
  refine ⟨h0, g0, t0.below r2, a, b, by have := b0.size; rename_i l0; exact l0.1, fun i p hp => ?_⟩
  obtain ⟨x, e1, e2, e3, e4⟩ := own_ent r1 i p hp
  have hg := t0.lt.2.2
  have hw := b0.size
  exact ⟨x, e1, by omega, e3, by omega, by omega, e4⟩

theorem FR.len (s : FR w f n c L A W) (z : Int) (hz : Hid ((c.length : Int) = z)) :
    Calls Try.prog 19 #[.pointer (some ⟨f, 0, none⟩)] W fun e W' => e = .returned (.int .i64 z) ∧ FR w f n c L A W' := by
  rw [← hz.out]
  obtain ⟨h, g, t, _⟩ := id s
  exact (flen_is t).mono fun e W' ⟨he, hb⟩ => ⟨he, s.below hb⟩

theorem FR.look (s : FR w f n c L A W) (a : Int) (ha0 : 0 ≤ a) (ha1 : a ≤ 18446744073709551615) (p : Int) (b : Bool) (hp : Hid (portO (getC c a) = p)) (hb : Hid (inC c a = b)) :
    Calls Try.prog 16 #[.pointer (some ⟨f, 0, none⟩), .int .u64 a] W fun e W' => e = .returned (.tuple #[.int .i64 p, .bool b]) ∧ FR w f n c L A W' := by
  obtain ⟨h, g, t, _⟩ := id s
  exact (flookup_is t a ha0 ha1 p b hp hb).mono fun e W' ⟨he, hb⟩ => ⟨he, s.below hb⟩

theorem FR.learn (s : FR w f n c L A W) (a : Int) (ha0 : 0 ≤ a) (ha1 : a ≤ 18446744073709551615) (port : Int) (b : Bool) (hb : Hid (learnB c n a = b)) :
    Calls Try.prog 11 #[.pointer (some ⟨f, 0, none⟩), .int .u64 a, .int .i64 port] W fun e W' => e = .returned (.bool b) ∧ FR w f n (putEnd c a (port, 0) b) L A W' := by
  obtain ⟨h, g, t, ag, bw, ⟨l1, l2, l3⟩, r⟩ := id s
  exact (flearn_is t a ha0 ha1 port b hb).mono fun e W' ⟨he, ht, hbut⟩ => ⟨he, h, g, ht, aged_put ag a port b, But.below bw hbut bw.size l3, ⟨l1, l2, l3⟩, r.keep hbut.size fun x hx h1 h2 => ⟨hbut.block hx h2, h1, h2⟩⟩

theorem FR.renewed {nx : Int × Int → (Int × Int) × Bool} {e : Ending} (s : FR w f n c L A W) (ha : Aged (c.filterMap (keepF nx))) (r : RenewEnd W f n c nx e W') (z : Int) (hz : (c.length : Int) - ((c.filterMap (keepF nx)).length : Nat) = z) :
    e = .returned (.int .i64 z) ∧ FR w f n (c.filterMap (keepF nx)) L A W' := by
  obtain ⟨h, g, t, ag, bw, ⟨l1, l2, l3⟩, rx⟩ := s
  obtain ⟨h', g', he, ht, ⟨k1, k2⟩, hbut⟩ := r
  have := bw.size
  exact ⟨by rw [he, hz], h', g', ht, ha, But.below bw hbut bw.size l1, ⟨l1, by omega, by omega⟩, rx.keep hbut.size fun x hx h1 h2 => ⟨hbut.block hx h1, h1, by omega⟩⟩

theorem FR.tick (s : FR w f n c L A W) (limit : Int) (z : Int) (hz : Hid ((c.length : Int) - ((tickC limit c).length : Nat) = z)) :
    Calls Try.prog 13 #[.pointer (some ⟨f, 0, none⟩), .int .i64 limit] W fun e W' => e = .returned (.int .i64 z) ∧ FR w f n (tickC limit c) L A W' := by
  obtain ⟨h, g, t, ag, _⟩ := id s
  exact (ftick_is t ag limit).mono fun e W' r => s.renewed (aged_tick ag limit) r z hz.out

theorem FR.flush (s : FR w f n c L A W) (port : Int) (z : Int) (hz : Hid ((c.length : Int) - ((flushC port c).length : Nat) = z)) :
    Calls Try.prog 15 #[.pointer (some ⟨f, 0, none⟩), .int .i64 port] W fun e W' => e = .returned (.int .i64 z) ∧ FR w f n (flushC port c) L A W' := by
  obtain ⟨h, g, t, ag, _⟩ := id s
  exact (fflush_is t port).mono fun e W' r => s.renewed (aged_flush ag port) r z hz.out
end

/-- All of a bridge's table: the iterator, called with a closure that keeps a contract. -/
theorem fall_is (w : World) (f : Nat) : Calls Try.prog 28 #[.pointer (some ⟨f, 0, none⟩)] w fun e w' =>
    e = .returned (.func (.func 35) #[] #[.pointer (some ⟨w.heap.size, 0, none⟩)]) ∧ w.alloc (.cells #[.pointer (some ⟨f, 0, none⟩)] 25) = w' := by
  go_enter Try.func28, Try.ntmps28
  go_wp2
  go_ret
  exact ⟨rfl, rfl⟩

set_option maxRecDepth 100000 in
set_option maxHeartbeats 2000000 in
theorem fthrough (gY : Nat) (cb : Array Value) (w0 : World) (f h g n : Nat) (c : List (Int × (Int × Int))) (t : FT w0 f h g n c) (bx : Nat) (hbx : w0.cell? ⟨bx, 0, none⟩ = some (.pointer (some ⟨f, 0, none⟩)))
    (J Jx : List (Int × (Int × Int)) → World → Prop) (hJ : ∀ pre W W', J pre W → Below W.heap.size W W' → J pre W') (h0 : J [] w0)
    (eg : ∀ args w, (callFunc gY args).run Try.prog w = .ok (.enter gY args) w)
    (hy : ∀ pre a v post W, SrtE c (pre ++ (a, v) :: post) → 0 ≤ a → a ≤ 18446744073709551615 → w0.heap.size ≤ W.heap.size → J pre W → Calls Try.prog gY (#[.int .u64 a, .agg #[.int .i64 v.1, .int .i64 v.2]] ++ cb) W fun e W' =>
      (W.heap.size ≤ W'.heap.size ∧ ∀ b, w0.heap.size ≤ b → b < W.heap.size → W'.heap[b]? = W.heap[b]?) ∧ ((e = .returned (.bool true) ∧ J (pre ++ [(a, v)]) W') ∨ (e = .returned (.bool false) ∧ Jx (pre ++ [(a, v)]) W'))) :
    Calls Try.prog 35 #[.func (.func gY) #[] cb, .pointer (some ⟨bx, 0, none⟩)] w0 fun e w' => e = .returned (.tuple #[]) ∧ GoneE c J Jx w' := by
  have c0 := t.cell0
  have nb := new_below w0 (.cells #[.pointer (some ⟨h, 0, none⟩)] 50)
  have hs := nb.size
  have H := Lib.hid (throughE gY cb _ h g n c (t.2.1.below nb) w0.heap.size (by simp) J Jx hJ (hJ _ _ _ h0 nb) eg (fun pre a v post W h1 h2 h3 h4 h5 => (hy pre a v post W h1 h2 h3 (by omega) h5).mono fun e W' ⟨⟨k1, k2⟩, k3⟩ => ⟨⟨k1, fun b hb => k2 b (by omega)⟩, k3⟩))
  clear t hJ h0 hy nb
  go_enter Try.func35, Try.ntmps35
  go_wp2_with fail
  (with_reducible refine (allE_is _ _).mono ?_); rintro e w6 ⟨rfl, rfl⟩
  go_wp2_with fail
  (with_reducible refine H.out.mono ?_); rintro e w7 ⟨rfl, hg⟩
  have HG := Lib.hid hg
  clear hg H
  go_wp2
  go_end0
  exact ⟨rfl, HG.out⟩

end Go.Proofs.Ytokepfgknffdfaa
