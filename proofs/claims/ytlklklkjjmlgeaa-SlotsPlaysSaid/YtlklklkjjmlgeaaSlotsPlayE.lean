/- What lies there while one goes through the table at the end of SlotsPlays; its closure, walked. -/
import Derived.Test.YtlklklkjjmlgeaaSlotsPlayC
namespace Go.Proofs.Ytlklklkjjmlgeaa
open Go.ChangeShapes Go.WideShapes Go.ChangeAt Go.RowKit
set_option linter.unusedVariables false

/-- How many have come lies at block B, whether all were right behind it; the pairs lie ahead of both. -/
structure PlayE (w : World) (G X B n : Nat) (L : List (Int × Int)) (A : Option Addr) (cap m : Nat) (W : World) : Prop where
  cnt : Bk W B 3 [.int .i64 m]
  good : Bk W (B + 1) 4 [.bool true]
  play : PlayC w G X n L L A cap W
  low : X < B
  ahead : ∀ (k : Nat) (x : Int × Int), L[k]? = some x → ∃ g, A = some ⟨g, 0, none⟩ ∧ g < B

theorem PlayE.below {w W W' : World} {G X B n cap m : Nat} {L : List (Int × Int)} {A : Option Addr} (h : PlayE w G X B n L A cap m W) (hb : Below W.heap.size W W') : PlayE w G X B n L A cap m W' :=
  ⟨h.cnt.below hb h.cnt.lt, h.good.below hb h.good.lt, h.play.below hb, h.low, h.ahead⟩

/-- A store behind all that counts. -/
theorem PlayC.far {w W : World} {G X n cap b : Nat} {L : List (Int × Int)} {A : Option Addr} (h : PlayC w G X n L L A cap W) (hb : X < b) (ha : ∀ (k : Nat) (x : Int × Int), L[k]? = some x → ∃ g, A = some ⟨g, 0, none⟩ ∧ g ≠ b) (u : Value) :
    PlayC w G X n L L A cap (W.setCell ⟨b, 0, none⟩ u) := by
  obtain ⟨l1, l2⟩ := h.low
  refine ⟨h.tab.keep fun c hc => Below.heap_setCell W _ _ c (by show c ≠ b; rcases hc with rfl | rfl <;> omega), (Below.heap_setCell W _ _ X (by show X ≠ b; omega)).trans h.box, fun i p hp => ?_, h.old.setCell (p := ⟨b, 0, none⟩) (by show _ ≤ b; omega) _, h.low⟩
  obtain ⟨g, e1, e2, e3, e4⟩ := h.row i p hp
  obtain ⟨g', e1', hne⟩ := ha i p hp
  rw [e1] at e1'
  cases e1'
  refine ⟨g, e1, e2, by simp [World.setCell]; exact e3, fun c hc => ?_⟩
  rw [World.cell?_setCell_other _ _ _ _ (fun e => hne (by have e5 := congrArg Addr.block e; first | exact e5 | exact e5.symm))]
  exact e4 c hc

/-- What one round leaves. -/
def PlayS (w W : World) (G X B n : Nat) (L : List (Int × Int)) (A : Option Addr) (cap m : Nat) (e : Ending) (W' : World) : Prop :=
  e = .returned (.bool true) ∧ PlayE w G X B n L A cap m W' ∧ W.heap.size ≤ W'.heap.size ∧ ∀ b, B + 2 ≤ b → b < W.heap.size → W'.heap[b]? = W.heap[b]?

theorem play_step {w W : World} {G X B n cap m : Nat} {L : List (Int × Int)} {A : Option Addr} (h : PlayE w G X B n L A cap m W) (x : Int) (hx : x = ((m + 1 : Nat) : Int)) :
    PlayS w W G X B n L A cap (m + 1) (.returned (.bool true)) ((W.setCell ⟨B + 1, 0, none⟩ (.bool true)).setCell ⟨B, 0, none⟩ (.int .i64 x)) := by
  subst hx
  refine ⟨rfl, ⟨?_, ?_, ?_, h.low, h.ahead⟩, by simp [World.setCell], fun b hb _ => ?_⟩
  · exact (h.cnt.far (p := ⟨B + 1, 0, none⟩) (by show B + 1 ≠ B; omega) _).set 0 _
  · exact (h.good.set 0 (.bool true)).far (p := ⟨B, 0, none⟩) (by show B ≠ B + 1; omega) _
  · have h1 := h.play.far (b := B + 1) (by have := h.low; omega) (fun k x hk => by obtain ⟨g, e, hg⟩ := h.ahead k x hk; exact ⟨g, e, by omega⟩) (.bool true)
    exact h1.far (b := B) h.low (fun k x hk => by obtain ⟨g, e, hg⟩ := h.ahead k x hk; exact ⟨g, e, by omega⟩) _
  · rw [Below.heap_setCell _ _ _ b (by show b ≠ B; omega), Below.heap_setCell _ _ _ b (by show b ≠ B + 1; omega)]

set_option maxHeartbeats 1000000 in
theorem play1 {w W : World} {G X B n cap m : Nat} {L : List (Int × Int)} {A : Option Addr} (h : PlayE w G X B n L A cap m W) (hl : L.length ≤ 64) (a v : Int) (hL : L[m]? = some (a, v)) :
    Calls Try.prog 19 #[.int .u64 a, .int .i64 v, .pointer (some ⟨B + 1, 0, none⟩), .pointer (some ⟨B, 0, none⟩), .pointer (some ⟨X, 0, none⟩)] W (PlayS w W G X B n L A cap (m + 1)) := by
  have c0 : W.cell? ⟨B, 0, none⟩ = some (.int .i64 m) := h.cnt.cell 0
  have c1 : W.cell? ⟨B + 1, 0, none⟩ = some (.bool true) := h.good.cell 0
  have f0 := h.cnt.thaw 0
  have f1 := h.good.thaw 0
  have cb := h.play.cell
  obtain ⟨g, rfl, hg1, hg2, d0, d1⟩ := pair_cells h.play.row hL
  dsimp only at d0 d1
  have hm : m < L.length := by
    rcases Nat.lt_or_ge m L.length with z | z
    · exact z
    · rw [List.getElem?_eq_none z] at hL; cases hL
  have hmi : (m : Int) < (L.length : Int) := by omega
  have hne : B + 1 ≠ B := by omega
  have c0' : (W.setCell ⟨B + 1, 0, none⟩ (.bool true)).cell? ⟨B, 0, none⟩ = some (.int .i64 m) := by
    rw [World.cell?_setCell_other _ _ _ _ (fun e => hne (by cases e))]; exact c0
  have HC := Lib.hid (play_step h ((m : Int) + 1) (by omega))
  clear h hL hne
  go_enter Try.func19, Try.ntmps19
  go_wp2
  go_ret
  exact HC.out

theorem play_start {w wr : World} {G X n cap : Nat} {L : List (Int × Int)} {A : Option Addr} (h : PlayC w G X n L L A cap wr) :
    PlayE w G X wr.heap.size n L A cap 0 ((wr.alloc (.cells #[.int .i64 0] 3)).alloc (.cells #[.bool true] 4)) := by
  have hX := h.box.lt
  have b0 := new_below wr (.cells #[.int .i64 0] 3)
  have k0 : Bk (wr.alloc (.cells #[.int .i64 0] 3)) wr.heap.size 3 [.int .i64 0] := heap_alloc_new wr _
  have s0 : (wr.alloc (.cells #[.int .i64 0] 3)).heap.size = wr.heap.size + 1 := by simp
  have r := h.row
  generalize wr.alloc (.cells #[.int .i64 0] 3) = w1 at b0 k0 s0 ⊢
  have b1 := new_below w1 (.cells #[.bool true] 4)
  have k1 : Bk (w1.alloc (.cells #[.bool true] 4)) w1.heap.size 4 [.bool true] := heap_alloc_new w1 _
  rw [s0] at k1
  exact ⟨Bk.below k0 b1 (by omega), k1, (h.below b0).below b1, hX, fun k x hk => by obtain ⟨g, e, _, hg, _⟩ := r k x hk; exact ⟨g, e, hg⟩⟩

end Go.Proofs.Ytlklklkjjmlgeaa
