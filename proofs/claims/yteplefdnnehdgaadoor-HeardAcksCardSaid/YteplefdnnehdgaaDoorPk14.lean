/- Several texts in one, one behind the other: HeardLaw. -/
import Derived.Test.YteplefdnnehdgaaDoorPk12
import Derived.Test.YteplefdnnehdgaaDoorPk13

/- What hearing leaves of bounds; a telling in a port that was handed out. -/
namespace Go.Proofs.YteplefdnnehdgaaDoor
set_option maxRecDepth 100000
open Go.ChangeShapes Go.WideShapes Go.ChangeAt Go.RowKit
set_option linter.unusedVariables false
set_option linter.unusedSimpArgs false

def AllB (r : Th × List Po) (n : Nat) : Prop := ThB r.1 ∧ ((-9223372036854775808 ≤ r.1.n1 ∧ r.1.n1 ≤ 9223372036854775807 ∧ -9223372036854775808 ≤ r.1.n2 ∧ r.1.n2 ≤ 9223372036854775807 ∧ -9223372036854775808 ≤ r.1.n3 ∧ r.1.n3 ≤ 9223372036854775807)) ∧ (∀ z ∈ r.2, PoB z) ∧ r.2.length = n
theorem told_nb {t : Th} {x : Bq} (hx : BqIn x) : (-9223372036854775808 ≤ (toldT t x).n1 ∧ (toldT t x).n1 ≤ 9223372036854775807 ∧ -9223372036854775808 ≤ (toldT t x).n2 ∧ (toldT t x).n2 ≤ 9223372036854775807 ∧ -9223372036854775808 ≤ (toldT t x).n3 ∧ (toldT t x).n3 ≤ 9223372036854775807) := by
  unfold BqIn BpIn at hx
  unfold toldT
  dsimp only
  omega
theorem acked_nb {t : Th} {x : Bq} (h : (-9223372036854775808 ≤ t.n1 ∧ t.n1 ≤ 9223372036854775807 ∧ -9223372036854775808 ≤ t.n2 ∧ t.n2 ≤ 9223372036854775807 ∧ -9223372036854775808 ≤ t.n3 ∧ t.n3 ≤ 9223372036854775807)) : (-9223372036854775808 ≤ (ackedT t x).n1 ∧ (ackedT t x).n1 ≤ 9223372036854775807 ∧ -9223372036854775808 ≤ (ackedT t x).n2 ∧ (ackedT t x).n2 ≤ 9223372036854775807 ∧ -9223372036854775808 ≤ (ackedT t x).n3 ∧ (ackedT t x).n3 ≤ 9223372036854775807) := by unfold ackedT; split <;> exact h
theorem acked_bd {t : Th} {x : Bq} (h : ThB t) : ThB (ackedT t x) := by unfold ackedT; split <;> exact h
theorem took_all {t : Th} {L : List Po} {k : Nat} {p : Po} {x : Bq} (hl : L.length ≤ 200) (ht : ThB t) (hn : (-9223372036854775808 ≤ t.n1 ∧ t.n1 ≤ 9223372036854775807 ∧ -9223372036854775808 ≤ t.n2 ∧ t.n2 ≤ 9223372036854775807 ∧ -9223372036854775808 ≤ t.n3 ∧ t.n3 ≤ 9223372036854775807)) (hb : ∀ z ∈ L, PoB z) (hx : BqIn x) (hp : L[k]? = some p) : AllB (tookR t L k p x).1 L.length := by
  have hl2 : (L.set k (heldP p x)).length = L.length := List.length_set
  have hb2 : ∀ z ∈ L.set k (heldP p x), PoB z := set_bd hb (held_bd (hb p (List.mem_of_getElem? hp)) hx)
  have h1 : ThB (settleR t (L.set k (heldP p x))).1.1 := settle_bd (by omega) ht hb2
  have h2 := settle_nb (t := t) (L := L.set k (heldP p x)) hn
  have h3 := settle_pb hb2 (sel_bd (by omega) ht hb2)
  have h4 : (settleR t (L.set k (heldP p x))).1.2.length = L.length := settle_n hl2
  unfold tookR
  dsimp only
  split
  · have ha := allR_bd (t := toldT (lateT (decide (t.ro = t.ow)) (settleR t (L.set k (heldP p x))).1.1) x) h3 L.length
    exact ⟨acked_bd (t := toldT _ x) (late_bd h1), acked_nb (told_nb hx), ha.2.2, ha.1.trans h4⟩
  · exact ⟨late_bd h1, late_nb h2, h3, h4⟩
theorem heard_all {t : Th} {L : List Po} {i : Int} {x : Bq} (hl : L.length ≤ 200) (ht : ThB t) (hn : (-9223372036854775808 ≤ t.n1 ∧ t.n1 ≤ 9223372036854775807 ∧ -9223372036854775808 ≤ t.n2 ∧ t.n2 ≤ 9223372036854775807 ∧ -9223372036854775808 ≤ t.n3 ∧ t.n3 ≤ 9223372036854775807)) (hb : ∀ z ∈ L, PoB z) (hx : BqIn x) : AllB (heardR t L i x).1 L.length := by
  have same : AllB (t, L) L.length := ⟨ht, hn, hb, rfl⟩
  unfold heardR
  split
  · split
    · exact same
    · rename_i p hp
      split
      · exact same
      · split
        · exact took_all hl ht hn hb hx hp
        · split
          · exact ⟨ht, hn, confR_bd hb i, confR_len t L i⟩
          · exact same
  · exact same
/-- A telling in a port of a row. -/
theorem po_vecq {w : World} {A : Option Addr} {B : Nat} {L : List Po} (h : PoAt w A B L) (hB : B ≤ w.heap.size) {k : Nat} {p : Po} (hp : L[k]? = some p) {ad : Addr} (hA : A = some ad) :
    ∀ v, (∃ q : LaterW w, v = q.w') → ∀ i u, ([.int .u64 p.hr, .int .u32 p.hc, .int .u64 p.hb, .int .u16 p.hp] : List Value)[i]? = some u → v.cell? ((⟨(ad.add (k * 15)).block, (ad.add (k * 15)).off + 3, none⟩ : Addr).add i) = some u := fun v hv i u hu => by
  obtain ⟨q, rfl⟩ := hv
  have h1 := (h.below q.h hB).at hp hA
  have hi4 : i < 4 := by
    rcases Nat.lt_or_ge i 4 with z | z
    · exact z
    · rw [List.getElem?_eq_none (by simpa using z)] at hu; cases hu
  have h2 := h1 (3 + i) u (by
    match i, hi4 with
    | 0, _ => exact hu
    | 1, _ => exact hu
    | 2, _ => exact hu
    | 3, _ => exact hu)
  rw [← h2]
  by_cases hi0 : i = 0
  · subst hi0; simp [Addr.add]
  · simp [Addr.add, hi0, Nat.add_assoc]

end Go.Proofs.YteplefdnnehdgaaDoor
