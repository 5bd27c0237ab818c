/- Tick and Flush of a bridge's table. -/
import Derived.Test.YtokepfgknffdfaaFdbRenew
namespace Go.Proofs.Ytokepfgknffdfaa
open Go.ChangeShapes Go.WideShapes Go.ChangeAt Go.RowKit Go.Shelf
set_option linter.unusedVariables false

/-- Ages that may be. -/
def Aged (c : List (Int × (Int × Int))) : Prop := ∀ x ∈ c, 0 ≤ x.2.2 ∧ x.2.2 ≤ 1073741824

/-- What a table holds behind a tick; when a port was flushed. -/
def tickC (limit : Int) (c : List (Int × (Int × Int))) : List (Int × (Int × Int)) := c.filterMap (keepF (tickN limit))
def flushC (port : Int) (c : List (Int × (Int × Int))) : List (Int × (Int × Int)) := c.filterMap (keepF (flushN port))

theorem aged_nil : Aged [] := fun x h => by cases h
theorem aged_perm {c d : List (Int × (Int × Int))} (h : Aged c) (p : c.Perm d) : Aged d := fun x hx => h x (p.mem_iff.2 hx)
theorem aged_put {c : List (Int × (Int × Int))} (h : Aged c) (a port : Int) (b : Bool) : Aged (putEnd c a (port, 0) b) := by
  unfold putEnd
  split
  · intro x hx
    unfold putC at hx
    rcases List.mem_cons.1 hx with e | e
    · rw [e]; exact ⟨Int.le_refl _, (by decide : (0 : Int) ≤ 1073741824)⟩
    · exact h x (List.mem_filter.1 e).1
  · exact h
theorem aged_tick {c : List (Int × (Int × Int))} (h : Aged c) (limit : Int) : Aged (tickC limit c) := by
  intro x hx
  obtain ⟨y, hy, hk⟩ := List.mem_filterMap.1 hx
  unfold keepF at hk
  split at hk
  · cases hk
    exact olderA_bd _ (h y hy).1
  · cases hk
theorem aged_flush {c : List (Int × (Int × Int))} (h : Aged c) (port : Int) : Aged (flushC port c) := by
  intro x hx
  obtain ⟨y, hy, hk⟩ := List.mem_filterMap.1 hx
  unfold keepF at hk
  split at hk
  · cases hk
    exact h y hy
  · cases hk

theorem renewEnd_box {w wb : World} {f n : Nat} {c : List (Int × (Int × Int))} {nx : Int × Int → (Int × Int) × Bool} (hb : Below w.heap.size w wb) {e : Ending} {w' : World} (h : RenewEnd wb f n c nx e w') : RenewEnd w f n c nx e w' := by
  obtain ⟨h', g', he, ht, ⟨h1, h2⟩, hbut⟩ := h
  have := hb.size
  exact ⟨h', g', he, ht, ⟨by omega, by omega⟩, (But.of_below hb).trans hbut⟩

set_option maxHeartbeats 1000000 in
theorem ftick_is {w : World} {f h g n : Nat} {c : List (Int × (Int × Int))} (t : FT w f h g n c) (ha : Aged c) (limit : Int) :
    Calls Try.prog 13 #[.pointer (some ⟨f, 0, none⟩), .int .i64 limit] w (RenewEnd w f n c (tickN limit)) := by
  have bb := new_below w (.cells #[.int .i64 limit] 3)
  have hf := t.lt.1
  have H := Lib.hid (renew_is (t.below bb) 25 #[.pointer (some ⟨w.heap.size, 0, none⟩)] (tickN limit) (enters_of Try.func25 (by kernel_rfl) rfl)
    (fun W x hbut hx => by
      refine tick1_is W w.heap.size limit ?_ x.2 (ha x hx).1 (ha x hx).2
      have hc : (w.alloc (.cells #[.int .i64 limit] 3)).cell? ⟨w.heap.size, 0, none⟩ = some (.int .i64 limit) := by simp
      exact (World.cell?_of_block (a := ⟨w.heap.size, 0, none⟩) (hbut.block (by simp) (by show w.heap.size ≠ f; omega))).trans hc))
  clear t ha
  go_enter Try.func13, Try.ntmps13
  go_wp2_with fail
  (with_reducible refine H.out.mono ?_); rintro e w1 hE
  have HE := Lib.hid (renewEnd_box bb hE)
  obtain ⟨h', g', rfl, _, _, _⟩ := hE
  clear H
  go_wp2
  go_ret
  exact HE.out

set_option maxHeartbeats 1000000 in
theorem fflush_is {w : World} {f h g n : Nat} {c : List (Int × (Int × Int))} (t : FT w f h g n c) (port : Int) :
    Calls Try.prog 15 #[.pointer (some ⟨f, 0, none⟩), .int .i64 port] w (RenewEnd w f n c (flushN port)) := by
  have bb := new_below w (.cells #[.int .i64 port] 3)
  have hf := t.lt.1
  have H := Lib.hid (renew_is (t.below bb) 26 #[.pointer (some ⟨w.heap.size, 0, none⟩)] (flushN port) (enters_of Try.func26 (by kernel_rfl) rfl)
    (fun W x hbut hx => by
      refine flush1_is W w.heap.size port ?_ x.2
      have hc : (w.alloc (.cells #[.int .i64 port] 3)).cell? ⟨w.heap.size, 0, none⟩ = some (.int .i64 port) := by simp
      exact (World.cell?_of_block (a := ⟨w.heap.size, 0, none⟩) (hbut.block (by simp) (by show w.heap.size ≠ f; omega))).trans hc))
  clear t
  go_enter Try.func15, Try.ntmps15
  go_wp2_with fail
  (with_reducible refine H.out.mono ?_); rintro e w1 hE
  have HE := Lib.hid (renewEnd_box bb hE)
  obtain ⟨h', g', rfl, _, _, _⟩ := hE
  clear H
  go_wp2
  go_ret
  exact HE.out

end Go.Proofs.Ytokepfgknffdfaa
