/- Boxes of a call's own beside elder ones; ports made anew. -/
import Derived.Test.YtkdbhioneoknjaaInv
import Derived.Test.YtkdbhioneoknjaaTreeMath
namespace Go.Proofs.Ytkdbhioneoknjaa
open Go.ChangeShapes Go.WideShapes Go.ChangeAt Go.RowKit
set_option linter.unusedVariables false

/-- As sets. -/
theorem hs_iff {w wx : World} {l : List (Nat × TypeId × List Value)} : Hs w l wx ↔ (∀ x ∈ l, Bk wx x.1 x.2.1 x.2.2 ∧ w.heap.size ≤ x.1) ∧ l.Pairwise (fun a b => a.1 ≠ b.1) ∧ Below w.heap.size w wx := by
  constructor
  · intro h
    refine ⟨fun x hx => ?_, ?_, h.2.2⟩
    · obtain ⟨k, hk, e⟩ := List.getElem_of_mem hx
      exact h.1 k x.1 x.2.1 x.2.2 (by rw [List.getElem?_eq_getElem hk, e])
    · rw [List.pairwise_iff_getElem]
      intro i j hi hj hij
      exact h.2.1 i j _ _ (by omega) (List.getElem?_eq_getElem hi) (List.getElem?_eq_getElem hj)
  · intro h
    refine ⟨fun k g T cs hk => h.1 (g, T, cs) (List.mem_of_getElem? hk), fun j k a b hn hj hk => ?_, h.2.2⟩
    obtain ⟨hj', ej⟩ := List.getElem?_eq_some_iff.1 hj
    obtain ⟨hk', ek⟩ := List.getElem?_eq_some_iff.1 hk
    have hp := List.pairwise_iff_getElem.1 h.2.1
    rw [← ej, ← ek]
    rcases Nat.lt_or_ge j k with q | q
    · exact hp j k hj' hk' q
    · exact (hp k j hk' hj' (by omega)).symm
theorem Hs.perm {w wx : World} {l l' : List (Nat × TypeId × List Value)} (h : Hs w l wx) (p : l.Perm l') : Hs w l' wx := by
  rw [hs_iff] at h ⊢
  exact ⟨fun x hx => h.1 x (p.mem_iff.2 hx), p.pairwise h.2.1 (fun q e => q e.symm), h.2.2⟩
/-- Blocks that were made later. -/
theorem Hs.join {w wx wy : World} {l m : List (Nat × TypeId × List Value)} (h : Hs w l wx) (k : Hs wx m wy) : Hs w (m ++ l) wy := by
  have hb := hs_iff.1 (h.below k.old)
  have h' := hs_iff.1 h
  have k' := hs_iff.1 k
  rw [hs_iff]
  refine ⟨fun x hx => ?_, ?_, hb.2.2⟩
  · rcases List.mem_append.1 hx with q | q
    · exact ⟨(k'.1 x q).1, Nat.le_trans h.old.size (k'.1 x q).2⟩
    · exact hb.1 x q
  · rw [List.pairwise_append]
    refine ⟨k'.2.1, h'.2.1, fun a ha b hbm => ?_⟩
    have e1 := (k'.1 a ha).2
    have e2 := (h'.1 b hbm).1.lt
    omega
theorem TS.join {w wx wy : World} {l m : List (Nat × TypeId × List Value)} {D : Option Addr} {L : List Po} (h : Hs w l wx) (k : TS wx m D L wy) : TS w (m ++ l) D L wy := by
  refine ⟨h.join k.1, k.2.imp id fun ⟨g, r, e, s⟩ => ⟨g, r, e, ?_⟩⟩
  refine (h.join s).perm ?_
  rw [List.append_assoc, List.append_assoc]
  exact List.Perm.append_left m List.perm_append_comm
/-- One box, and a row. -/
theorem hs_box {w wy : World} {g : Nat} {T : TypeId} {cs : List Value} (b : Below w.heap.size w wy) (hk : Bk wy g T cs) (hg : w.heap.size ≤ g) : Hs w [(g, T, cs)] wy :=
  hs_iff.2 ⟨fun x hx => by obtain rfl := List.mem_singleton.1 hx; exact ⟨hk, hg⟩, List.pairwise_singleton _ _, b⟩
theorem hs_box2 {w wy : World} {g g' : Nat} {T T' : TypeId} {cs cs' : List Value} (b : Below w.heap.size w wy) (hk : Bk wy g T cs) (hg : w.heap.size ≤ g) (hk' : Bk wy g' T' cs') (hg' : w.heap.size ≤ g') (hne : g ≠ g') : Hs w [(g, T, cs), (g', T', cs')] wy :=
  hs_iff.2 ⟨fun x hx => by rcases List.mem_cons.1 hx with rfl | q; exact ⟨hk, hg⟩; obtain rfl := List.mem_singleton.1 q; exact ⟨hk', hg'⟩, List.pairwise_cons.2 ⟨fun x hx => by obtain rfl := List.mem_singleton.1 hx; exact hne, List.pairwise_singleton _ _⟩, b⟩
theorem hs_box3 {w wy : World} {g g' g'' : Nat} {T T' T'' : TypeId} {cs cs' cs'' : List Value} (b : Below w.heap.size w wy) (hk : Bk wy g T cs) (hg : w.heap.size ≤ g) (hk' : Bk wy g' T' cs') (hg' : w.heap.size ≤ g') (hk'' : Bk wy g'' T'' cs'') (hg'' : w.heap.size ≤ g'') (hne : g ≠ g') (hne' : g ≠ g'') (hne'' : g' ≠ g'') : Hs w [(g, T, cs), (g', T', cs'), (g'', T'', cs'')] wy := by
  have h2 := hs_iff.1 (hs_box2 b hk' hg' hk'' hg'' hne'')
  refine hs_iff.2 ⟨List.forall_mem_cons.2 ⟨⟨hk, hg⟩, h2.1⟩, List.pairwise_cons.2 ⟨fun x hx => ?_, h2.2.1⟩, b⟩
  rcases List.mem_cons.1 hx with rfl | q
  · exact hne
  · obtain rfl := List.mem_singleton.1 q
    exact hne'
theorem bk_ne {w : World} {g g' : Nat} {T T' : TypeId} {cs cs' : List Value} (h : Bk w g T cs) (h' : Bk w g' T' cs') (hT : T ≠ T') : g ≠ g' := by
  rintro rfl
  unfold Bk at h h'
  rw [h] at h'
  injection h' with e
  injection e with _ e
  exact hT e

def zeroP : Po := ⟨0, 0, 0, 0, 0, 0, 0, false, false, false, 0, false, 0, false, 0⟩
theorem made_at (z : Array Value) (m i : Nat) (h : i < (madeCells z m).size) : (madeCells z m)[i] = z[i % z.size]! := by simp [madeCells]
theorem made_ports (n : Nat) : madeCells (Value.agg (lP zeroP).toArray).cells (n * 15) = (cellsOf lP (List.replicate n zeroP)).toArray := by
  apply Array.ext
  · rw [size_madeCells, List.size_toArray, cellsOf_len lP_len, List.length_replicate]
  · intro i h1 h2
    have h3 : i < n * 15 := by rwa [size_madeCells] at h1
    have e := cellsOf_get lP_len (List.replicate n zeroP) (i / 15) zeroP (i % 15) (by rw [List.getElem?_replicate, if_pos (by omega)]) (by omega)
    rw [show i / 15 * 15 + i % 15 = i by omega] at e
    have hq : i % 15 < (lP zeroP).length := by rw [lP_len]; omega
    rw [List.getElem?_eq_getElem hq] at e
    have e2 : (cellsOf lP (List.replicate n zeroP)).toArray[i] = (lP zeroP)[i % 15] := by
      have := List.getElem?_eq_some_iff.1 e
      simpa using this.2
    rw [e2]
    rw [made_at]
    show (lP zeroP).toArray[i % (lP zeroP).toArray.size]! = _
    rw [List.size_toArray, lP_len, getElem!_pos (lP zeroP).toArray (i % 15) (by rw [List.size_toArray]; exact hq)]
    rfl
theorem make_ports (n : Nat) (h : n ≤ 1000) (w : World) :
    (Instr.makeSlice 29 (.int .i64 (n : Int)) (.int .i64 (n : Int))).run Try.prog w = .ok (.slice (some ⟨w.heap.size, 0, none⟩) n n) (w.alloc (.cells (cellsOf lP (List.replicate n zeroP)).toArray 49)) := by
  obtain ⟨i0, hi, hz0, hz1, hz2⟩ := info_parts Try.infoPo
  have hr := run_make (P := Try.prog) w 29 49 i0 _ Try.underlying29 hi hz0 .i64 .i64 (n : Int) (n : Int) (by omega) (by omega) (by rw [hz2]; omega) (by omega)
  rw [hz1] at hr
  simp only [Int.toNat_natCast] at hr
  rw [hr]
  exact congrArg (fun c => Result.ok (Value.slice (some ⟨w.heap.size, 0, none⟩) n n) (w.alloc (.cells c 49))) (made_ports n)

/-- A row that operation j made. -/
def MkF (f : Nat → Bool) (j B n : Nat) (cs : List Value) (w : World) (v : Value) : Prop := f j = true → ∃ g, v = .slice (some ⟨g, 0, none⟩) n n ∧ B ≤ g ∧ Bk w g 49 cs
section
variable {f : Nat → Bool} {i j B n : Nat} {cs : List Value} {w w' : World} {v : Value}
theorem MkF.below (h : MkF f j B n cs w v) (b : Below w.heap.size w w') : MkF f j B n cs w' v := fun hj => by
  obtain ⟨g, h1, h2, h3⟩ := h hj
  exact ⟨g, h1, h2, h3.below b h3.lt⟩
theorem MkF.up (h : MkF f j B n cs w v) (hi : i ≠ j) : MkF (upB f i) j B n cs w v := fun hj => h (by rwa [upB_ne _ (fun e => hi e.symm)] at hj)
theorem MkF.off (h : f j = false) : MkF f j B n cs w v := fun e => by rw [h] at e; cases e
theorem MkF.new (hB : B ≤ w.heap.size) : MkF (upB f j) j B n cs (w.alloc (.cells cs.toArray 49)) (.slice (some ⟨w.heap.size, 0, none⟩) n n) := fun _ => ⟨_, rfl, hB, heap_alloc_new w _⟩
theorem MkF.row {g : Nat} {ds es : List Value} (h : MkF f j B n cs w v) (hb : Bk w g 31 es) : MkF f j B n cs (w.setRow g ds.toArray) v := fun hj => by
  obtain ⟨g', h1, h2, h3⟩ := h hj
  exact ⟨g', h1, h2, (setRow_other w g g' _ (bk_ne h3 hb (by decide))).trans h3⟩
end

/-- A store into a row's midst that comes up. -/
theorem exec_if_store_mid {P : Program} {ops : Array Oper} {o : Oper} {a : Act} {w : World} {K : Act → World → Prop} {Q : Exit → Act → World → Prop} (hw : Region.wanted o (yielded ops a.tmps) = true) (ty : TypeId) (x y : Operand) (ho : o.op = .store ty x y)
    (b off : Nat) (cells : Array Value) (hx : a.eval x = .pointer (some ⟨b, off, none⟩)) (hy : a.eval y = .agg cells)
    (ht : w.there b off cells.size) (hi : (P.info? ty).map (·.size) = some cells.size) (h1 : cells.all (·.oneCell') = true)
    (h : K (a.put o.dst undef) (w.setCells b off cells.toList)) : if Region.wanted o (yielded ops a.tmps) = true then Oper.wp P o a w K Q else K (a.put o.dst undef) w := by
  rw [if_pos hw]
  exact wp_store_mid ty x y ho b off cells hx hy ht hi h1 h

end Go.Proofs.Ytkdbhioneoknjaa
