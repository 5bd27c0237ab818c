/- Several texts in one, one behind the other: TreeIn, SendRefSame. -/
import Derived.Test.YtnmnihlhcokjpaaGreatDoorPk03
import Derived.Deep.Slices
import Derived.Deep.Fields
import Derived.ChangeSame
import Derived.Lib.SmallJoins
import Derived.Test.YtnmnihlhcokjpaaGreatDoorPk08
import Derived.Test.YtnmnihlhcokjpaaGreatDoorPk04
import Derived.Test.YtnmnihlhcokjpaaGreatDoorPk02
import Derived.Deep.DeepCutAuto
import Derived.LoopTactic

/- A view that came in as an argument. -/
namespace Go.Proofs.YtnmnihlhcokjpaaGreatDoor
set_option maxRecDepth 100000
open Go.Joins Go.ChangeShapes Go.WideShapes Go.ChangeAt Go.RowKit Go.Deep
set_option linter.unusedVariables false

theorem tr_list_of {τ : Type} {P : Nat → τ → Prop} : ∀ n, (∀ i, i < n → ∃ t, P i t) → ∃ L : List τ, L.length = n ∧ ∀ k t, L[k]? = some t → P k t
  | 0, _ => ⟨[], rfl, fun k t e => by simp at e⟩
  | n + 1, h => by
    obtain ⟨L, hl, hL⟩ := tr_list_of n (fun i hi => h i (by omega))
    obtain ⟨t, ht⟩ := h n (by omega)
    refine ⟨L ++ [t], by simp [hl], fun k u e => ?_⟩
    rcases Nat.lt_or_ge k n with q | q
    · rw [List.getElem?_append_left (by omega)] at e
      exact hL k u e
    · rw [List.getElem?_append_right (by omega)] at e
      have : k - L.length = 0 := by
        rcases Nat.eq_zero_or_pos (k - L.length) with z | z
        · exact z
        · rw [List.getElem?_eq_none (by simp; omega)] at e; cases e
      rw [this] at e
      have hk : k = n := by omega
      have := Option.some.inj e
      subst this
      rw [hk]; exact ht

theorem Tryz.cellsTree : Tryz.prog.cellsOf 31 = 19 := by kernel_rfl
theorem Tryz.cellsTms : Tryz.prog.cellsOf 26 = 3 := by kernel_rfl
theorem Tryz.cellsSlP : Tryz.prog.cellsOf 29 = 1 := by kernel_rfl

section
variable {H : Type} {enc : TypeId × Value → H} {w : World} {base : Nat} {spare : Nat → Bool} {held : Bool}
theorem tms_trod {n : Nat} {c0 c1 c2 : Value} {y : DataW H × List MemPlace} (h : DataW.trod enc Tryz.prog w base spare held n 26 [c0, c1, c2] = some y) :
    ∃ (a b c : Int), c0 = .int .i64 a ∧ c1 = .int .i64 b ∧ c2 = .int .i64 c ∧ (-9223372036854775808 ≤ a ∧ a ≤ 9223372036854775807) ∧ (-9223372036854775808 ≤ b ∧ b ≤ 9223372036854775807) ∧ (-9223372036854775808 ≤ c ∧ c ≤ 9223372036854775807) := by
  obtain ⟨ys, n', _, _, hlen, hyl, hfl⟩ := DataW.trod_struct Tryz.underlying26 h
  have h0 : DataW.trod enc Tryz.prog w base spare held n' 3 (([c0, c1, c2].drop 0).take (Tryz.prog.cellsOf 3)) = ys[0]? := hfl 0 _ rfl
  have h1 : DataW.trod enc Tryz.prog w base spare held n' 3 (([c0, c1, c2].drop 1).take (Tryz.prog.cellsOf 3)) = ys[1]? := hfl 1 _ rfl
  have h2 : DataW.trod enc Tryz.prog w base spare held n' 3 (([c0, c1, c2].drop 2).take (Tryz.prog.cellsOf 3)) = ys[2]? := hfl 2 _ rfl
  rw [Tryz.cells1_64] at h0 h1 h2
  have hy3 : ys.length = 3 := hyl
  have y0 : ys[0]? = some (ys[0]'(by omega)) := List.getElem?_eq_getElem (by omega)
  have y1 : ys[1]? = some (ys[1]'(by omega)) := List.getElem?_eq_getElem (by omega)
  have y2 : ys[2]? = some (ys[2]'(by omega)) := List.getElem?_eq_getElem (by omega)
  rw [y0] at h0
  rw [y1] at h1
  rw [y2] at h2
  obtain ⟨a, e0, _, wa⟩ := DataW.trod_int Tryz.underlying3 h0
  obtain ⟨b, e1, _, wb⟩ := DataW.trod_int Tryz.underlying3 h1
  obtain ⟨c, e2, _, wc⟩ := DataW.trod_int Tryz.underlying3 h2
  simp at e0 e1 e2
  subst e0 e1 e2
  exact ⟨a, b, c, rfl, rfl, rfl, bounds_i64 wa, bounds_i64 wb, bounds_i64 wc⟩
end

/-- The times' bounds. -/
def TmB (t : Th) : Prop := (-9223372036854775808 ≤ t.n1 ∧ t.n1 ≤ 9223372036854775807 ∧ -9223372036854775808 ≤ t.n2 ∧ t.n2 ≤ 9223372036854775807 ∧ -9223372036854775808 ≤ t.n3 ∧ t.n3 ≤ 9223372036854775807)

set_option maxRecDepth 100000 in
theorem tree_in3 {H : Type} {enc : TypeId × Value → H} {w : World} {r : Reach} {base b0 : Nat} {v : Value} {d : DataW H} {p : List MemPlace}
    (hv : Value.okWide Tryz.prog w r b0 31 v) (h : DataW.Trod enc Tryz.prog w base (fun _ => true) true 31 v d p) :
    ∃ (t : Th) (A : Option Addr) (n cap : Nat) (L : List Po), v = .agg (lT t A n cap).toArray ∧ ThB t ∧ TmB t ∧ L.length = n ∧ n ≤ 9223372036854775807 ∧ (A = none → cap = 0) ∧ (∀ x ∈ L, PoB x) ∧ PoAt w A w.heap.size L := by
  obtain ⟨cs, rfl, hsz⟩ := okWide_struct Tryz.underlying31 hv
  obtain ⟨l⟩ := cs
  match l, hsz.trans Tryz.cellsTree with
  | [c0, c1, c2, c3, c4, c5, c6, c7, c8, c9, c10, c11, c12, c13, c14, c15, c16, c17, c18], _ =>
    obtain ⟨fuel, hf⟩ := h
    obtain ⟨ys, n', _, _, hlen, hyl, hfl⟩ := DataW.trod_struct Tryz.underlying31 hf
    have h0 : DataW.trod enc Tryz.prog w base (fun _ => true) true n' 23 (([c0, c1, c2, c3, c4, c5, c6, c7, c8, c9, c10, c11, c12, c13, c14, c15, c16, c17, c18].drop 0).take (Tryz.prog.cellsOf 23)) = ys[0]? := hfl 0 _ rfl
    rw [Tryz.cells1_id] at h0
    have h1 : DataW.trod enc Tryz.prog w base (fun _ => true) true n' 23 (([c0, c1, c2, c3, c4, c5, c6, c7, c8, c9, c10, c11, c12, c13, c14, c15, c16, c17, c18].drop 1).take (Tryz.prog.cellsOf 23)) = ys[1]? := hfl 1 _ rfl
    rw [Tryz.cells1_id] at h1
    have h2 : DataW.trod enc Tryz.prog w base (fun _ => true) true n' 24 (([c0, c1, c2, c3, c4, c5, c6, c7, c8, c9, c10, c11, c12, c13, c14, c15, c16, c17, c18].drop 2).take (Tryz.prog.cellsOf 24)) = ys[2]? := hfl 2 _ rfl
    rw [Tryz.cells1_32] at h2
    have h3 : DataW.trod enc Tryz.prog w base (fun _ => true) true n' 3 (([c0, c1, c2, c3, c4, c5, c6, c7, c8, c9, c10, c11, c12, c13, c14, c15, c16, c17, c18].drop 3).take (Tryz.prog.cellsOf 3)) = ys[3]? := hfl 3 _ rfl
    rw [Tryz.cells1_64] at h3
    have h4 : DataW.trod enc Tryz.prog w base (fun _ => true) true n' 26 (([c0, c1, c2, c3, c4, c5, c6, c7, c8, c9, c10, c11, c12, c13, c14, c15, c16, c17, c18].drop 4).take (Tryz.prog.cellsOf 26)) = ys[4]? := hfl 4 _ rfl
    rw [Tryz.cellsTms] at h4
    have h5 : DataW.trod enc Tryz.prog w base (fun _ => true) true n' 26 (([c0, c1, c2, c3, c4, c5, c6, c7, c8, c9, c10, c11, c12, c13, c14, c15, c16, c17, c18].drop 7).take (Tryz.prog.cellsOf 26)) = ys[5]? := hfl 5 _ rfl
    rw [Tryz.cellsTms] at h5
    have h6 : DataW.trod enc Tryz.prog w base (fun _ => true) true n' 4 (([c0, c1, c2, c3, c4, c5, c6, c7, c8, c9, c10, c11, c12, c13, c14, c15, c16, c17, c18].drop 10).take (Tryz.prog.cellsOf 4)) = ys[6]? := hfl 6 _ rfl
    rw [Tryz.cells1_b] at h6
    have h7 : DataW.trod enc Tryz.prog w base (fun _ => true) true n' 4 (([c0, c1, c2, c3, c4, c5, c6, c7, c8, c9, c10, c11, c12, c13, c14, c15, c16, c17, c18].drop 11).take (Tryz.prog.cellsOf 4)) = ys[7]? := hfl 7 _ rfl
    rw [Tryz.cells1_b] at h7
    have h8 : DataW.trod enc Tryz.prog w base (fun _ => true) true n' 28 (([c0, c1, c2, c3, c4, c5, c6, c7, c8, c9, c10, c11, c12, c13, c14, c15, c16, c17, c18].drop 12).take (Tryz.prog.cellsOf 28)) = ys[8]? := hfl 8 _ rfl
    rw [Tryz.cellsTm] at h8
    have h9 : DataW.trod enc Tryz.prog w base (fun _ => true) true n' 28 (([c0, c1, c2, c3, c4, c5, c6, c7, c8, c9, c10, c11, c12, c13, c14, c15, c16, c17, c18].drop 14).take (Tryz.prog.cellsOf 28)) = ys[9]? := hfl 9 _ rfl
    rw [Tryz.cellsTm] at h9
    have h10 : DataW.trod enc Tryz.prog w base (fun _ => true) true n' 28 (([c0, c1, c2, c3, c4, c5, c6, c7, c8, c9, c10, c11, c12, c13, c14, c15, c16, c17, c18].drop 16).take (Tryz.prog.cellsOf 28)) = ys[10]? := hfl 10 _ rfl
    rw [Tryz.cellsTm] at h10
    have h11 : DataW.trod enc Tryz.prog w base (fun _ => true) true n' 29 (([c0, c1, c2, c3, c4, c5, c6, c7, c8, c9, c10, c11, c12, c13, c14, c15, c16, c17, c18].drop 18).take (Tryz.prog.cellsOf 29)) = ys[11]? := hfl 11 _ rfl
    rw [Tryz.cellsSlP] at h11
    have hy : ys.length = 12 := hyl
    have y0 : ys[0]? = some (ys[0]'(by omega)) := List.getElem?_eq_getElem (by omega)
    rw [y0] at h0
    have y1 : ys[1]? = some (ys[1]'(by omega)) := List.getElem?_eq_getElem (by omega)
    rw [y1] at h1
    have y2 : ys[2]? = some (ys[2]'(by omega)) := List.getElem?_eq_getElem (by omega)
    rw [y2] at h2
    have y3 : ys[3]? = some (ys[3]'(by omega)) := List.getElem?_eq_getElem (by omega)
    rw [y3] at h3
    have y4 : ys[4]? = some (ys[4]'(by omega)) := List.getElem?_eq_getElem (by omega)
    rw [y4] at h4
    have y5 : ys[5]? = some (ys[5]'(by omega)) := List.getElem?_eq_getElem (by omega)
    rw [y5] at h5
    have y6 : ys[6]? = some (ys[6]'(by omega)) := List.getElem?_eq_getElem (by omega)
    rw [y6] at h6
    have y7 : ys[7]? = some (ys[7]'(by omega)) := List.getElem?_eq_getElem (by omega)
    rw [y7] at h7
    have y8 : ys[8]? = some (ys[8]'(by omega)) := List.getElem?_eq_getElem (by omega)
    rw [y8] at h8
    have y9 : ys[9]? = some (ys[9]'(by omega)) := List.getElem?_eq_getElem (by omega)
    rw [y9] at h9
    have y10 : ys[10]? = some (ys[10]'(by omega)) := List.getElem?_eq_getElem (by omega)
    rw [y10] at h10
    have y11 : ys[11]? = some (ys[11]'(by omega)) := List.getElem?_eq_getElem (by omega)
    rw [y11] at h11
    obtain ⟨a0, e0, _, w0⟩ := DataW.trod_int Tryz.underlying23 h0
    obtain ⟨a1, e1, _, w1⟩ := DataW.trod_int Tryz.underlying23 h1
    obtain ⟨a2, e2, _, w2⟩ := DataW.trod_int Tryz.underlying24 h2
    obtain ⟨a3, e3, _, w3⟩ := DataW.trod_int Tryz.underlying3 h3
    obtain ⟨n1, n2, n3, e4, e5, e6, u1, u2, u3⟩ := tms_trod h4
    obtain ⟨m1, m2, m3, e7, e8, e9, -⟩ := tms_trod h5
    obtain ⟨de, e10, _⟩ := DataW.trod_bool Tryz.underlying4 h6
    obtain ⟨ch, e11, _⟩ := DataW.trod_bool Tryz.underlying4 h7
    obtain ⟨ho, hvv, e12, e13, _, _⟩ := tm_trod h8
    obtain ⟨xo, xv, e14, e15, _, _⟩ := tm_trod h9
    obtain ⟨zo, zv, e16, e17, _, _⟩ := tm_trod h10
    simp at e0 e1 e2 e3 e10 e11
    subst e0 e1 e2 e3 e4 e5 e6 e7 e8 e9 e10 e11 e12 e13 e14 e15 e16 e17
    have b0 := bounds_u64 w0
    have b1 := bounds_u64 w1
    have b2 := bounds_u32 w2
    have b3 := bounds_i64 w3
    rcases open_slice Tryz.underlying29 h11 with ⟨hcs, _⟩ | ⟨x, l, c, m, n, D, Q, hcs, _, hl, hm, hmm, _, hi⟩
    · simp at hcs
      subst hcs
      exact ⟨⟨a0, a1, a2, a3, n1, n2, n3, m1, m2, m3, de, ch, ho, hvv, xo, xv, zo, zv⟩, none, 0, 0, [], rfl, by unfold ThB; dsimp only; omega, by unfold TmB; dsimp only; omega, rfl, by omega, fun _ => rfl, fun x hx => by simp at hx, fun k y e => by simp at e⟩
    · simp at hcs
      subst hcs
      have hlm : l ≤ m := by rw [hmm]; split <;> omega
      obtain ⟨L, hL, hP⟩ := tr_list_of (P := fun k (y : Po) => (∀ i v, (lP y)[i]? = some v → w.cell? ((x.add (k * 15)).add i) = some v) ∧ PoB y) l (fun i hin => by
          obtain ⟨cs', hc, ht⟩ := hi i (by omega)
          rw [Tryz.cellsPo] at hc
          obtain ⟨_, hcl, hat⟩ := World.cells?_some hc
          match cs', hcl with
          | [q0, q1, q2, q3, q4, q5, q6, q7, q8, q9, q10, q11, q12, q13, q14], _ =>
            obtain ⟨y, e, hb⟩ := po_trod ht
            have hly : [q0, q1, q2, q3, q4, q5, q6, q7, q8, q9, q10, q11, q12, q13, q14] = lP y := e
            rw [hly] at hat
            refine ⟨y, fun j u hu => ?_, hb⟩
            have hj : j < 15 := by
              rcases Nat.lt_or_ge j 15 with q | q
              · exact q
              · rw [List.getElem?_eq_none (by rw [lP_len]; exact q)] at hu; cases hu
            have := hat j hj
            rw [this, ← hu])
      refine ⟨⟨a0, a1, a2, a3, n1, n2, n3, m1, m2, m3, de, ch, ho, hvv, xo, xv, zo, zv⟩, some x, l, c, L, rfl, by unfold ThB; dsimp only; omega, by unfold TmB; dsimp only; omega, hL, by unfold maxLen at hm; omega, (fun e => by cases e), fun y hy => ?_, fun k y e => ?_⟩
      · obtain ⟨k, hk, e⟩ := List.getElem_of_mem hy
        exact (hP k y (by rw [List.getElem?_eq_getElem hk, e])).2
      · have h1 := (hP k y e).1
        have hb := block_lt_of_cell (h1 0 _ rfl)
        rw [Go.Proofs.YtnmnihlhcokjpaaGreatDoor.add_block, Go.Proofs.YtnmnihlhcokjpaaGreatDoor.add_block] at hb
        exact ⟨x, rfl, hb, h1⟩

end Go.Proofs.YtnmnihlhcokjpaaGreatDoor

/- The document's Same of what goes out: of what is alike. -/
namespace Go.Proofs.YtnmnihlhcokjpaaGreatDoor
set_option maxRecDepth 100000
open Go.ChangeShapes Go.WideShapes Go.ChangeAt Go.RowKit
set_option linter.unusedVariables false
set_option linter.unusedSimpArgs false

theorem OutsR.shape {w : World} {base : Nat} {v : Value} {M : List Ou} (h : OutsR w base v M) : ∃ A cap, v = .slice A M.length cap := by
  obtain ⟨C, h1, h2, _⟩ := h
  obtain ⟨A, cap, e⟩ := h2.shape
  exact ⟨A, cap, by rw [e, ← h1, List.length_map]⟩
theorem OutsR.at {w : World} {base n cap : Nat} {A : Option Addr} {M : List Ou} (h : OutsR w base (.slice A n cap) M) {k : Nat} {o : Ou} (hk : M[k]? = some o) :
    ∃ (c : Oc) (g : Nat), c.o = o ∧ A = some ⟨g, 0, none⟩ ∧ g < w.heap.size ∧ (∀ j u, (lO c)[j]? = some u → w.cell? ⟨g, k * 5 + j, none⟩ = some u) ∧ OcAt w base c := by
  obtain ⟨C, h1, h2, h3⟩ := h
  rw [← h1, List.getElem?_map] at hk
  cases hc : C[k]? with
  | none => rw [hc] at hk; cases hk
  | some c =>
    rw [hc] at hk
    obtain ⟨g, e, -, hg, hcell⟩ := h2.at lO_len hc
    refine ⟨c, g, Option.some.inj hk, e, hg, fun j u hu => ?_, h3 c (List.mem_of_getElem? hc)⟩
    have hj : j < 5 := by
      rcases Nat.lt_or_ge j 5 with q | q
      · exact q
      · rw [List.getElem?_eq_none (by rw [lO_len]; exact q)] at hu; cases hu
    rw [hcell j hj, hu]
/-- A frame's cells. -/
def lF (c : Oc) : List Value := [.int .u64 1652522221568, .int .u64 c.o.fr, .int .u16 (ouN c.o), .slice (some ⟨c.g, 0, none⟩) (ouN c.o) c.cap]
theorem bytes_back {w : World} {B : Nat} {c : Oc} (h : OcAt w B c) : (convert 79 9 (.slice (some ⟨c.g, 0, none⟩) (ouN c.o) c.cap)).run Tryz.prog w = .ok (.string ⟨(ouB c.o).toArray⟩) w := by
  have hr := h.2.rb 0 w.heap.size (Nat.zero_le _) h.2.lt
  have e := run_convert_bytes_back (P := Tryz.prog) w 79 9 5 ⟨c.g, 0, none⟩ c.cap (ouB c.o) Tryz.underlying79 Tryz.underlying5 Tryz.underlying9 (fun j hj => hr.bytes j hj)
  rw [ouB_len] at e
  exact e

set_option maxHeartbeats 1000000 in
theorem rsame_outs (M : List Ou) (A A2 : Option Addr) (m cap cap2 base base2 : Nat) (hm : Hid (M.length = m)) (hf : m ≤ 1000) (w : World) (h1 : Hid (OutsR w base (.slice A m cap) M)) (h2 : Hid (OutsR w base2 (.slice A2 m cap2) M)) :
    Calls Tryz.prog 10 #[.slice A m cap, .slice A2 m cap2] w fun e w' => e = .returned (.bool true) ∧ Below w.heap.size w w' := by
  go_enter Tryz.func10, Tryz.ntmps10
  go_wp2
  go_loopw [5] (fun i wr => ∃ k : Nat, k ≤ m ∧ i = .int .i64 k ∧ Below w.heap.size w wr) (fun i _ => m - (intOf i).toNat)
  case atStart => exact ⟨0, Nat.zero_le _, rfl, Below.refl _ _⟩
  case round =>
    obtain ⟨k, hk, rfl, B⟩ := hrel
    by_cases hkm : k < m
    · have hki : (k : Int) < (m : Int) := by omega
      have hkz : ¬ (m : Int) ≤ (k : Int) := by omega
      obtain ⟨o, ho⟩ : ∃ o, M[k]? = some o := ⟨M[k]'(by have := hm.out; omega), List.getElem?_eq_getElem _⟩
      obtain ⟨c, g, hco, rfl, hg, hcl, hat⟩ := (h1.out.below B).at ho
      obtain ⟨d, g2, hdo, rfl, hg2, hcl2, hat2⟩ := (h2.out.below B).at ho
      have HAT := Lib.hid hat
      have HAT2 := Lib.hid hat2
      have HCO := Lib.hid hco
      have HDO := Lib.hid hdo
      clear ho hat hat2 hco hdo
      have l1 : ∀ W, Below wr.heap.size wr W → ∀ i v, (lF c)[i]? = some v → W.cell? ((⟨g, k * 5 + 1, none⟩ : Addr).add i) = some v := fun W b i v hv => by
        rw [addr_add, Nat.add_assoc]
        exact (b.cell (p := ⟨g, k * 5 + (1 + i), none⟩) hg).trans (hcl (1 + i) v (by rw [Nat.add_comm]; exact hv))
      have l2 : ∀ W, Below wr.heap.size wr W → ∀ i v, (lF d)[i]? = some v → W.cell? ((⟨g2, k * 5 + 1, none⟩ : Addr).add i) = some v := fun W b i v hv => by
        rw [addr_add, Nat.add_assoc]
        exact (b.cell (p := ⟨g2, k * 5 + (1 + i), none⟩) hg2).trans (hcl2 (1 + i) v (by rw [Nat.add_comm]; exact hv))
      have HCL := Lib.hid hcl
      have HCL2 := Lib.hid hcl2
      clear hcl hcl2
      go_upto_region 6 with fail
      obtain ⟨N, hN⟩ : ∃ N, wr.heap.size = N := ⟨_, rfl⟩
      have HN := Lib.hid hN
      go_cut [6, 7] (fun p q wx => ∃ V U, p = .pointer (some ⟨V, 0, none⟩) ∧ q = .pointer (some ⟨U, 0, none⟩) ∧ Below wr.heap.size wr wx ∧ Bk wx V 81 (lF c) ∧ Bk wx U 81 (lF d))
      case first =>
        refine wp_region_held_drew (S := (fun w' => Below wr.heap.size wr w')) (by kernel_rfl) ((Below.refl _ _).drew) (fun hHeld => ?_)
        refine wpAnyH_take (i := 0) (v := ?_) rfl (by kernel_rfl) (by kernel_rfl) (by kernel_rfl) (fun _ _ _ h => h) (Or.inl ⟨by kernel_rfl, ?_⟩) (by assumption) ?_
        rotate_left
        · intro w' hSw; (try dsimp only at hSw); go_simp; with_reducible rfl
        try simp only [Act.put, List.setIfInBounds_toArray, List.set_cons_succ]
        refine wpAnyH_take (i := 1) (v := ?_) rfl (by kernel_rfl) (by kernel_rfl) (by kernel_rfl) (fun _ _ _ h => h) (Or.inl ⟨by kernel_rfl, ?_⟩) (by assumption) ?_
        rotate_left
        · intro w' hSw; (try dsimp only at hSw); go_simp; with_reducible rfl
        try simp only [Act.put, List.setIfInBounds_toArray, List.set_cons_succ]
        refine wpAnyH_take (i := 2) (v := ?_) rfl (by kernel_rfl) (by kernel_rfl) (by kernel_rfl) (fun _ _ _ h => h) (Or.inl ⟨by kernel_rfl, ?_⟩) (by assumption) ?_
        rotate_left
        · intro w' hSw; (try dsimp only at hSw); go_simp; with_reducible rfl
        try simp only [Act.put, List.setIfInBounds_toArray, List.set_cons_succ]
        refine wpAnyH_take (i := 3) (v := ?_) rfl (by kernel_rfl) (by kernel_rfl) (by kernel_rfl) (fun _ _ _ h => h) (Or.inl ⟨by kernel_rfl, ?_⟩) (by assumption) ?_
        rotate_left
        · intro w' hSw; (try dsimp only at hSw); go_simp; with_reducible rfl
        try simp only [Act.put, List.setIfInBounds_toArray, List.set_cons_succ]
        refine wpAnyH_take (i := 4) (v := _) rfl (by kernel_rfl) (by kernel_rfl) (by kernel_rfl) (fun _ _ _ h => h) (Or.inl ⟨by kernel_rfl, fun w' hSw => exec_load_at 81 _ rfl ⟨g, k * 5 + 1, none⟩ (by kernel_rfl) _ _ (l1 w' hSw) Tryz.underlying81 rfl (by kernel_rfl)⟩) (by assumption) ?_
        try simp only [Act.put, List.getElem_toArray, List.getElem_cons_succ, List.getElem_cons_zero, List.setIfInBounds_toArray, List.set_cons_succ, List.set_cons_zero]
        refine wpAnyH_take (i := 5) (v := ?_) rfl (by kernel_rfl) (by kernel_rfl) (by kernel_rfl) (fun _ _ _ h => h) (Or.inl ⟨by kernel_rfl, ?_⟩) (by assumption) ?_
        rotate_left
        · intro w' hSw; (try dsimp only at hSw); go_simp; with_reducible rfl
        try simp only [Act.put, List.setIfInBounds_toArray, List.set_cons_succ]
        refine wpAnyH_take (i := 6) (v := ?_) rfl (by kernel_rfl) (by kernel_rfl) (by kernel_rfl) (fun _ _ _ h => h) (Or.inl ⟨by kernel_rfl, ?_⟩) (by assumption) ?_
        rotate_left
        · intro w' hSw; (try dsimp only at hSw); go_simp; with_reducible rfl
        try simp only [Act.put, List.setIfInBounds_toArray, List.set_cons_succ]
        refine wpAnyH_take (i := 7) (v := ?_) rfl (by kernel_rfl) (by kernel_rfl) (by kernel_rfl) (fun _ _ _ h => h) (Or.inl ⟨by kernel_rfl, ?_⟩) (by assumption) ?_
        rotate_left
        · intro w' hSw; (try dsimp only at hSw); go_simp; with_reducible rfl
        try simp only [Act.put, List.setIfInBounds_toArray, List.set_cons_succ]
        refine wpAnyH_take (i := 8) (v := ?_) rfl (by kernel_rfl) (by kernel_rfl) (by kernel_rfl) (fun _ _ _ h => h) (Or.inl ⟨by kernel_rfl, ?_⟩) (by assumption) ?_
        rotate_left
        · intro w' hSw; (try dsimp only at hSw); go_simp; with_reducible rfl
        try simp only [Act.put, List.setIfInBounds_toArray, List.set_cons_succ]
        refine wpAnyH_take (i := 9) (v := _) rfl (by kernel_rfl) (by kernel_rfl) (by kernel_rfl) (fun _ _ _ h => h) (Or.inl ⟨by kernel_rfl, fun w' hSw => exec_load_at 81 _ rfl ⟨g2, k * 5 + 1, none⟩ (by kernel_rfl) _ _ (l2 w' hSw) Tryz.underlying81 rfl (by kernel_rfl)⟩) (by assumption) ?_
        try simp only [Act.put, List.getElem_toArray, List.getElem_cons_succ, List.getElem_cons_zero, List.setIfInBounds_toArray, List.set_cons_succ, List.set_cons_zero]
        have R0 := (Hs.nil wr).drew
        have hS1 : wr.drew.heap.size = N := hN
        have R1 := R0.al hS1 81 [.int .u64 0, .int .u64 0, .int .u16 0, .slice none 0 0]
        have hS2 : (wr.drew.alloc (.cells ([.int .u64 0, .int .u64 0, .int .u16 0, .slice none 0 0] : List Value).toArray 81)).heap.size = N + 1 := by simp [← hS1]
        have R2 := R1.al hS2 81 [.int .u64 0, .int .u64 0, .int .u16 0, .slice none 0 0]
        refine wpAnyH_ready (rs := [10, 11]) (by kernel_rfl) (by simp) ?_
        refine AllReadyH.cons rfl (fun K hK => ?_) (AllReadyH.cons rfl (fun K hK => ?_) AllReadyH.nil)
        · go_simp
          refine hK.out _ _ (R1.old) (fun hHeld => ?_)
          clear hK K
          try simp only [Act.put, List.getElem_toArray, List.getElem_cons_succ, List.getElem_cons_zero, List.setIfInBounds_toArray, List.set_cons_succ, List.set_cons_zero]
          refine wpAnyH_ready (rs := [11]) (by kernel_rfl) (by simp) ?_
          refine AllReadyH.cons rfl (fun K hK => ?_) AllReadyH.nil
          go_simp
          try rw [hN]
          refine hK.out _ _ (R2.old) (fun hHeld => ?_)
          clear hK K
          try simp only [Act.put, List.getElem_toArray, List.getElem_cons_succ, List.getElem_cons_zero, List.setIfInBounds_toArray, List.set_cons_succ, List.set_cons_zero]
          refine wpAnyH_ready (rs := [12]) (by kernel_rfl) (by simp) ?_
          refine AllReadyH.cons rfl (fun K hK => ?_) AllReadyH.nil
          refine exec_if_store (by kernel_rfl) 81 (.tmp 6) (.tmp 23) rfl (N) (lF c).toArray (by kernel_rfl) (by kernel_rfl) _ _ (R2.bk 1 rfl) (by kernel_rfl) (by kernel_rfl) (by kernel_rfl) ?_
          have R3 := R2.row 1 rfl (lF c)
          refine hK.out _ _ (R3.old) (fun hHeld => ?_)
          clear hK K
          try simp only [Act.put, List.getElem_toArray, List.getElem_cons_succ, List.getElem_cons_zero, List.setIfInBounds_toArray, List.set_cons_succ, List.set_cons_zero]
          refine wpAnyH_ready (rs := [13]) (by kernel_rfl) (by simp) ?_
          refine AllReadyH.cons rfl (fun K hK => ?_) AllReadyH.nil
          refine exec_if_store (by kernel_rfl) 81 (.tmp 7) (.tmp 28) rfl (N + 1) (lF d).toArray (by kernel_rfl) (by kernel_rfl) _ _ (R3.bk 0 rfl) (by kernel_rfl) (by kernel_rfl) (by kernel_rfl) ?_
          have R4 := R3.row 0 rfl (lF d)
          refine hK.out _ _ (R4.old) (fun hHeld => ?_)
          clear hK K
          try simp only [Act.put, List.getElem_toArray, List.getElem_cons_succ, List.getElem_cons_zero, List.setIfInBounds_toArray, List.set_cons_succ, List.set_cons_zero]
          refine wpAnyH_done (by kernel_rfl) ?_ _
          go_wp2_with fail
          go_meet
          exact ⟨_, _, rfl, rfl, R4.old, (R4.1 1 _ _ _ rfl).1, (R4.1 0 _ _ _ rfl).1⟩
        · go_simp
          refine hK.out _ _ (R1.old) (fun hHeld => ?_)
          clear hK K
          try simp only [Act.put, List.getElem_toArray, List.getElem_cons_succ, List.getElem_cons_zero, List.setIfInBounds_toArray, List.set_cons_succ, List.set_cons_zero]
          refine wpAnyH_ready (rs := [10]) (by kernel_rfl) (by simp) ?_
          refine AllReadyH.cons rfl (fun K hK => ?_) AllReadyH.nil
          go_simp
          try rw [hN]
          refine hK.out _ _ (R2.old) (fun hHeld => ?_)
          clear hK K
          try simp only [Act.put, List.getElem_toArray, List.getElem_cons_succ, List.getElem_cons_zero, List.setIfInBounds_toArray, List.set_cons_succ, List.set_cons_zero]
          refine wpAnyH_ready (rs := [12]) (by kernel_rfl) (by simp) ?_
          refine AllReadyH.cons rfl (fun K hK => ?_) AllReadyH.nil
          refine exec_if_store (by kernel_rfl) 81 (.tmp 6) (.tmp 23) rfl (N + 1) (lF c).toArray (by kernel_rfl) (by kernel_rfl) _ _ (R2.bk 0 rfl) (by kernel_rfl) (by kernel_rfl) (by kernel_rfl) ?_
          have R3 := R2.row 0 rfl (lF c)
          refine hK.out _ _ (R3.old) (fun hHeld => ?_)
          clear hK K
          try simp only [Act.put, List.getElem_toArray, List.getElem_cons_succ, List.getElem_cons_zero, List.setIfInBounds_toArray, List.set_cons_succ, List.set_cons_zero]
          refine wpAnyH_ready (rs := [13]) (by kernel_rfl) (by simp) ?_
          refine AllReadyH.cons rfl (fun K hK => ?_) AllReadyH.nil
          refine exec_if_store (by kernel_rfl) 81 (.tmp 7) (.tmp 28) rfl (N) (lF d).toArray (by kernel_rfl) (by kernel_rfl) _ _ (R3.bk 1 rfl) (by kernel_rfl) (by kernel_rfl) (by kernel_rfl) ?_
          have R4 := R3.row 1 rfl (lF d)
          refine hK.out _ _ (R4.old) (fun hHeld => ?_)
          clear hK K
          try simp only [Act.put, List.getElem_toArray, List.getElem_cons_succ, List.getElem_cons_zero, List.setIfInBounds_toArray, List.set_cons_succ, List.set_cons_zero]
          refine wpAnyH_done (by kernel_rfl) ?_ _
          go_wp2_with fail
          go_meet
          exact ⟨_, _, rfl, rfl, R4.old, (R4.1 0 _ _ _ rfl).1, (R4.1 1 _ _ _ rfl).1⟩
      case rest =>
        obtain ⟨V, U, rfl, rfl, B2, kv, ku⟩ := hcut
        have hdc : d.o = c.o := HDO.out.trans HCO.out.symm
        have i1 : ∀ q : LaterW wc, q.w'.cell? ⟨g, k * 5, none⟩ = some (.int .i64 c.o.i) := fun q => (q.h.cell (p := ⟨g, k * 5, none⟩) (Nat.lt_of_lt_of_le hg B2.size)).trans ((B2.cell (p := ⟨g, k * 5, none⟩) hg).trans (HCL.out 0 _ rfl))
        have i2 : ∀ q : LaterW wc, q.w'.cell? ⟨g2, k * 5, none⟩ = some (.int .i64 d.o.i) := fun q => (q.h.cell (p := ⟨g2, k * 5, none⟩) (Nat.lt_of_lt_of_le hg2 B2.size)).trans ((B2.cell (p := ⟨g2, k * 5, none⟩) hg2).trans (HCL2.out 0 _ rfl))
        have v0 : ∀ q : LaterW wc, q.w'.cell? ⟨V, 0, none⟩ = some (.int .u64 1652522221568) := fun q => (kv.below q.h kv.lt).cell 0
        have v1 : ∀ q : LaterW wc, q.w'.cell? ⟨V, 1, none⟩ = some (.int .u64 c.o.fr) := fun q => (kv.below q.h kv.lt).cell 1
        have v2 : ∀ q : LaterW wc, q.w'.cell? ⟨V, 2, none⟩ = some (.int .u16 (ouN c.o)) := fun q => (kv.below q.h kv.lt).cell 2
        have v3 : ∀ q : LaterW wc, q.w'.cell? ⟨V, 3, none⟩ = some (.slice (some ⟨c.g, 0, none⟩) (ouN c.o) c.cap) := fun q => (kv.below q.h kv.lt).cell 3
        have u0 : ∀ q : LaterW wc, q.w'.cell? ⟨U, 0, none⟩ = some (.int .u64 1652522221568) := fun q => (ku.below q.h ku.lt).cell 0
        have u1 : ∀ q : LaterW wc, q.w'.cell? ⟨U, 1, none⟩ = some (.int .u64 d.o.fr) := fun q => (ku.below q.h ku.lt).cell 1
        have u2 : ∀ q : LaterW wc, q.w'.cell? ⟨U, 2, none⟩ = some (.int .u16 (ouN d.o)) := fun q => (ku.below q.h ku.lt).cell 2
        have u3 : ∀ q : LaterW wc, q.w'.cell? ⟨U, 3, none⟩ = some (.slice (some ⟨d.g, 0, none⟩) (ouN d.o) d.cap) := fun q => (ku.below q.h ku.lt).cell 3
        have s1 : ∀ q : LaterW wc, (convert 79 9 (.slice (some ⟨c.g, 0, none⟩) (ouN c.o) c.cap)).run Tryz.prog q.w' = .ok (.string ⟨(ouB c.o).toArray⟩) q.w' := fun q => bytes_back (HAT.out.below (B2.trans (q.h.mono B2.size)))
        have s2 : ∀ q : LaterW wc, (convert 79 9 (.slice (some ⟨d.g, 0, none⟩) (ouN d.o) d.cap)).run Tryz.prog q.w' = .ok (.string ⟨(ouB d.o).toArray⟩) q.w' := fun q => bytes_back (HAT2.out.below (B2.trans (q.h.mono B2.size)))
        rw [hdc] at i2 u1 u2 u3 s2
        obtain ⟨bs, hbs⟩ : ∃ bs : ByteArray, (⟨(ouB c.o).toArray⟩ : ByteArray) = bs := ⟨_, rfl⟩
        rw [hbs] at s1 s2
        obtain ⟨nn, hnn⟩ : ∃ n : Nat, ouN c.o = n := ⟨_, rfl⟩
        rw [hnn] at v2 v3 u2 u3 s1 s2
        have BW := B.trans (B2.mono B.size)
        clear hdc hbs hnn HCL HCL2 HAT HAT2 HCO HDO l1 l2 kv ku
        go_upto_region 7 with fail
        refine region_later mixedL (by kernel_rfl) ?_
        repeat (go_big_quiet_step (fail))
        refine wpQuiet_nil ?_
        intro v hv
        obtain ⟨r, rfl⟩ := hv
        have B5 := BW.trans (r.h.mono BW.size)
        generalize r.w' = w9 at B5 ⊢
        clear i1 i2 v0 v1 v2 v3 u0 u1 u2 u3 s1 s2 BW B2
        go_wp2
        go_roundw
        case rel => exact ⟨k + 1, by omega, by go_num, B5⟩
        case measure => simp [intOf]; omega
    · have hki : ¬ (k : Int) < (m : Int) := by omega
      go_wp2
      go_ret
      exact ⟨rfl, B⟩

end Go.Proofs.YtnmnihlhcokjpaaGreatDoor
