/- Several texts in one, one behind the other: TreeMem, RankCmp, RankMem, RankBase, RankVia, VecIn, PortIn. -/
import Derived.Test.YtnmnihlhcokjpaaGreatDoorPk02
import Derived.Deep.MidRow
import Derived.Laws.AppendOwnNone
import Derived.Test.YtnmnihlhcokjpaaGreatDoorPk01
import Derived.RegionTactic
import Derived.BigRegion
import Derived.Lib.MinMax
import Derived.Lib.Hide
import Derived.Deep.RegionHeld3
import Derived.Deep.DeepCutAuto
import Derived.Deep.Slices
import Derived.Deep.Fields
import Derived.ChangeSame
import Derived.Lib.SmallJoins
import Derived.Laws.StructEq

/- A bridge's view: its row under a name; its ports in memory, handed in, or of the call's own. -/
namespace Go.Proofs.YtnmnihlhcokjpaaGreatDoor
set_option maxRecDepth 100000
open Go.ChangeShapes Go.WideShapes Go.ChangeAt Go.RowKit
set_option linter.unusedVariables false

/-- A view without its ports. -/
structure Th where
  ow : Int
  ro : Int
  co : Int
  rp : Int
  n1 : Int
  n2 : Int
  n3 : Int
  m1 : Int
  m2 : Int
  m3 : Int
  de : Bool
  ch : Bool
  ho : Bool
  hv : Int
  xo : Bool
  xv : Int
  zo : Bool
  zv : Int

/-- A view's cells. -/
def lT (t : Th) (A : Option Addr) (n cap : Nat) : List Value := [.int .u64 t.ow, .int .u64 t.ro, .int .u32 t.co, .int .i64 t.rp, .int .i64 t.n1, .int .i64 t.n2, .int .i64 t.n3, .int .i64 t.m1, .int .i64 t.m2, .int .i64 t.m3, .bool t.de, .bool t.ch, .bool t.ho, .int .i64 t.hv, .bool t.xo, .int .i64 t.xv, .bool t.zo, .int .i64 t.zv, .slice A n cap]
/-- The view's zero. -/
def tz : Th := ⟨0, 0, 0, 0, 0, 0, 0, 0, 0, 0, false, false, false, 0, false, 0, false, 0⟩

/-- The numbers' bounds. -/
def ThB (t : Th) : Prop := (0 ≤ t.ow ∧ t.ow ≤ 18446744073709551615) ∧ (0 ≤ t.ro ∧ t.ro ≤ 18446744073709551615) ∧ (0 ≤ t.co ∧ t.co ≤ 4294967295) ∧ (-9223372036854775808 ≤ t.rp ∧ t.rp ≤ 9223372036854775807)

theorem po_at {L : List Po} {k n : Nat} (hL : L.length = n) (h : k < n) : ∃ x, L[k]? = some x := ⟨L[k]'(by omega), List.getElem?_eq_getElem _⟩
theorem po_lt {L : List Po} {k : Nat} {x : Po} (h : L[k]? = some x) : k < L.length := (List.getElem?_eq_some_iff.1 h).1

/-- The slice at 'A' holds the ports L, in blocks below B. -/
def PoAt (w : World) (A : Option Addr) (B : Nat) (L : List Po) : Prop :=
  ∀ k x, L[k]? = some x → ∃ ad, A = some ad ∧ ad.block < B ∧ ∀ i v, (lP x)[i]? = some v → w.cell? ((ad.add (k * 15)).add i) = some v

theorem PoAt.below {w w' : World} {A : Option Addr} {B B' : Nat} {L : List Po} (h : PoAt w A B L) (hb : Below B' w w') (hB : B ≤ B') : PoAt w' A B L := fun k x e => by
  obtain ⟨ad, h1, h2, h3⟩ := h k x e
  exact ⟨ad, h1, h2, fun i v hv => (hb.cell (p := (ad.add (k * 15)).add i) (by rw [Go.Proofs.YtnmnihlhcokjpaaGreatDoor.add_block, Go.Proofs.YtnmnihlhcokjpaaGreatDoor.add_block]; omega)).trans (h3 i v hv)⟩
theorem PoAt.wide {w : World} {A : Option Addr} {B B' : Nat} {L : List Po} (h : PoAt w A B L) (hB : B ≤ B') : PoAt w A B' L := fun k x e => by
  obtain ⟨ad, h1, h2, h3⟩ := h k x e
  exact ⟨ad, h1, by omega, h3⟩
theorem PoAt.nil {w : World} {B : Nat} {L : List Po} (h : PoAt w none B L) : L = [] := by
  cases L with
  | nil => rfl
  | cons x r => obtain ⟨_, e, _⟩ := h 0 x rfl; cases e
theorem PoAt.src {w : World} {ad : Addr} {B : Nat} {L : List Po} (h : PoAt w (some ad) B L) : ∀ (j : Nat) u, (cellsOf lP L)[j]? = some u → w.cell? (ad.add j) = some u := by
  intro j u hu
  have hj : j < L.length * 15 := by
    rcases Nat.lt_or_ge j (L.length * 15) with k | k
    · exact k
    · rw [List.getElem?_eq_none (by rw [cellsOf_len lP_len]; exact k)] at hu; cases hu
  obtain ⟨k, c, hc, rfl⟩ : ∃ k c, c < 15 ∧ j = k * 15 + c := ⟨j / 15, j % 15, by omega, by omega⟩
  have hk : k < L.length := by omega
  have hx : L[k]? = some L[k] := List.getElem?_eq_getElem hk
  rw [cellsOf_get lP_len L k _ c hx hc] at hu
  obtain ⟨ad', e, _, h0⟩ := h k _ hx
  cases e
  rw [← Go.Proofs.YtnmnihlhcokjpaaGreatDoor.add_add]
  exact h0 c u hu
/-- A port's cells, as a walk meets them. -/
theorem PoAt.cells {w : World} {A : Option Addr} {B : Nat} {L : List Po} (h : PoAt w A B L) {k : Nat} {x : Po} (hx : L[k]? = some x) :
    ∃ ad, A = some ad ∧ ad.block < B ∧ (w.cell? (ad.add (k * 15)) = some (.int .u16 x.id) ∧ ∀ i v, (lP x)[i + 1]? = some v → w.cell? ⟨(ad.add (k * 15)).block, (ad.add (k * 15)).off + (i + 1), none⟩ = some v) := by
  obtain ⟨ad, h1, h2, h3⟩ := h k x hx
  refine ⟨ad, h1, h2, ?_, fun i v hv => ?_⟩
  · have := h3 0 _ rfl
    simpa [Addr.add] using this
  · have e := h3 (i + 1) v hv
    exact e

/-- A port in every later world. -/
theorem PoAt.atq {w : World} {A : Option Addr} {B : Nat} {L : List Po} (h : PoAt w A B L) (hB : B ≤ w.heap.size) {k : Nat} {x : Po} (hx : L[k]? = some x) {ad : Addr} (hA : A = some ad) (v : World) (hv : ∃ q : LaterW w, v = q.w') :
    ∀ i u, (lP x)[i]? = some u → v.cell? ((ad.add (k * 15)).add i) = some u := by
  obtain ⟨q, rfl⟩ := hv
  obtain ⟨ad', e, _, h3⟩ := (h.below q.h hB) k x hx
  rw [hA] at e
  cases e
  exact h3
theorem PoAt.at {w : World} {A : Option Addr} {B : Nat} {L : List Po} (h : PoAt w A B L) {k : Nat} {x : Po} (hx : L[k]? = some x) {ad : Addr} (hA : A = some ad) :
    ∀ i u, (lP x)[i]? = some u → w.cell? ((ad.add (k * 15)).add i) = some u := by
  obtain ⟨ad', e, _, h3⟩ := h k x hx
  rw [hA] at e
  cases e
  exact h3
theorem PoAt.some {w : World} {A : Option Addr} {B : Nat} {L : List Po} (h : PoAt w A B L) {k : Nat} {x : Po} (hx : L[k]? = Option.some x) : ∃ ad, A = Option.some ad := by
  obtain ⟨ad, e, _⟩ := h k x hx
  exact ⟨ad, e⟩

section
variable {P : Program}
/-- The variable of many cells that lies at an address. -/
theorem run_loadVar_at (w : World) (ad : Addr) (ty : TypeId) (cs : List Value) (d : TypeDesc) (hc : ∀ i v, cs[i]? = some v → w.cell? (ad.add i) = some v)
    (hu : P.underlying ty = some d) (hd : (match d with | .struct _ | .array _ _ => true | _ => false) = true) (hi : (P.info? ty).map (·.size) = some cs.length) :
    (loadVar ty ad).run P w = .ok (.agg cs.toArray) w := by
  have hl : (loadCells ad cs.length).run P w = .ok cs.toArray w := run_loadCells_list (P := P) w ad cs hc
  cases hq : P.info? ty with
  | none => simp [hq] at hi
  | some i =>
    have hs : i.size = cs.length := by simpa [hq] using hi
    have hagg : (isAgg ty).run P w = .ok true w := by
      unfold isAgg
      rw [Sem.run_bind, run_underlying hu w]
      cases d <;> simp_all
    simp [loadVar, Sem.run_bind, hagg, sizeOf, typeInfo, hq, hs, hl]
theorem wpList_load_at {ops : Array Oper} {rest : List Oper} {o : Oper} {a : Act} {w : World} {Q : Exit → Act → World → Prop} (hw : Region.wanted o (yielded ops a.tmps) = true) (ty : TypeId) (x : Operand) (ho : o.op = .load ty x)
    (ad : Addr) (hx : a.eval x = .pointer (some ad)) (cs : List Value) (d : TypeDesc) (hc : ∀ i v, cs[i]? = some v → w.cell? (ad.add i) = some v)
    (hu : P.underlying ty = some d) (hd : (match d with | .struct _ | .array _ _ => true | _ => false) = true) (hi : (P.info? ty).map (·.size) = some cs.length)
    (h : wpList P ops Q rest (a.put o.dst (.agg cs.toArray)) w) : wpList P ops Q (o :: rest) a w :=
  wpList_step fun _ hK => by
    rw [if_pos hw]
    unfold Oper.wp execOp
    simp only [ho, hx, Instr.loadAt, Instr.sureAddr, Sem.run_bind, Sem.run_pure, Result.andThen_ok, run_loadVar_at w ad ty cs d hc hu hd hi]
    exact hK _ _ h
theorem quiet_load_at {C : World → Prop} {o : Oper} {a : Act} {K : Act → Prop} (ty : TypeId) (x : Operand) (ho : o.op = .load ty x)
    (ad : Addr) (hx : a.eval x = .pointer (some ad)) (cs : List Value) (d : TypeDesc) (hc : ∀ w, C w → ∀ i v, cs[i]? = some v → w.cell? (ad.add i) = some v)
    (hu : P.underlying ty = some d) (hd : (match d with | .struct _ | .array _ _ => true | _ => false) = true) (hi : (P.info? ty).map (·.size) = some cs.length)
    (h : K (a.put o.dst (.agg cs.toArray))) : o.quiet P a C K := by
  refine ⟨.agg cs.toArray, fun w hw => ?_, h⟩
  unfold Oper.quietAt execOp
  simp only [ho, hx, Instr.loadAt, Instr.sureAddr, Sem.run_bind, Sem.run_pure, Result.andThen_ok, run_loadVar_at w ad ty cs d (hc w hw) hu hd hi]
  exact ⟨rfl, rfl⟩
end

/-- Cells set one by one, as a list. -/
def setL : List Value → Nat → List Value → List Value
  | cs, _, [] => cs
  | cs, o, v :: r => setL (cs.set o v) (o + 1) r
theorem setL_right (a : List Value) : ∀ (vs : List Value) (b : List Value) (o : Nat), setL (a ++ b) (a.length + o) vs = a ++ setL b o vs
  | [], b, o => rfl
  | v :: r, b, o => by
    simp only [setL]
    rw [List.set_append_right _ _ (by omega), show a.length + o - a.length = o by omega, show a.length + o + 1 = a.length + (o + 1) by omega, setL_right a r]
theorem setL_left (b : List Value) : ∀ (vs : List Value) (a : List Value) (o : Nat), o + vs.length ≤ a.length → setL (a ++ b) o vs = setL a o vs ++ b
  | [], a, o, _ => rfl
  | v :: r, a, o, h => by
    simp only [List.length_cons] at h
    simp only [setL]
    rw [List.set_append_left _ _ (by omega), setL_left b r _ _ (by rw [List.length_set]; omega)]
theorem setL_ports {i : Nat} {vs : List Value} {y : Po} (rest : List Value) (hi : i + vs.length ≤ 15) : ∀ (L : List Po) (k : Nat) (x : Po), L[k]? = some x → setL (lP x) i vs = lP y →
    setL (cellsOf lP L ++ rest) (k * 15 + i) vs = cellsOf lP (L.set k y) ++ rest
  | [], k, x, h, _ => by simp at h
  | q :: r, 0, x, h, hy => by
    simp at h; subst h
    simp only [cellsOf, Nat.zero_mul, Nat.zero_add, List.set_cons_zero, List.append_assoc]
    rw [setL_left _ _ _ _ (by rw [lP_len]; omega), hy]
  | q :: r, k + 1, x, h, hy => by
    simp only [cellsOf, List.set_cons_succ, List.append_assoc]
    rw [show (k + 1) * 15 + i = (lP q).length + (k * 15 + i) by rw [lP_len]; omega, setL_right, setL_ports rest hi r k x (by simpa using h) hy]
theorem Bk.setCells {g : Nat} {t : TypeId} : ∀ (vs : List Value) (o : Nat) (cs : List Value) (w : World), Bk w g t cs → Bk (w.setCells g o vs) g t (setL cs o vs)
  | [], o, cs, w, h => h
  | v :: r, o, cs, w, h => Bk.setCells r (o + 1) _ _ (h.set o v)
theorem setCells_other {g : Nat} : ∀ (vs : List Value) (o : Nat) (w : World) (k : Nat), k ≠ g → (w.setCells g o vs).heap[k]? = w.heap[k]?
  | [], o, w, k, h => rfl
  | v :: r, o, w, k, h => (setCells_other r (o + 1) _ k h).trans (Below.heap_setCell w ⟨g, o, none⟩ v k h)
theorem Below.setCells {B : Nat} {w0 : World} {g : Nat} (hg : B ≤ g) : ∀ (vs : List Value) (o : Nat) (w : World), Below B w0 w → Below B w0 (w.setCells g o vs)
  | [], o, w, h => h
  | v :: r, o, w, h => Below.setCells hg r (o + 1) _ (h.setCell (p := ⟨g, o, none⟩) hg v)

/-- Boxes of the call's own, and the ports L that the slice at D holds, in a row of the call's own. -/
def TS (w : World) (l : List (Nat × TypeId × List Value)) (D : Option Addr) (L : List Po) (wx : World) : Prop :=
  Hs w l wx ∧ (L = [] ∨ ∃ g rest, D = some ⟨g, 0, none⟩ ∧ Hs w (l ++ [(g, 63, cellsOf lP L ++ rest)]) wx)

section
variable {w wx wy : World} {l : List (Nat × TypeId × List Value)} {D : Option Addr} {L : List Po}
theorem TS.hs (h : TS w l D L wx) : Hs w l wx := h.1
theorem TS.old (h : TS w l D L wx) : Below w.heap.size w wx := h.1.old
theorem TS.below (h : TS w l D L wx) (b : Below wx.heap.size wx wy) : TS w l D L wy :=
  ⟨h.1.below b, h.2.imp id fun ⟨g, r, e, s⟩ => ⟨g, r, e, s.below b⟩⟩
theorem TS.al (h : TS w l D L wx) {g : Nat} (hg : wx.heap.size = g) (T : TypeId) (cs : List Value) : TS w ((g, T, cs) :: l) D L (wx.alloc (.cells cs.toArray T)) :=
  ⟨h.1.al hg T cs, h.2.imp id fun ⟨k, r, e, s⟩ => ⟨k, r, e, s.al hg T cs⟩⟩
theorem TS.set (h : TS w l D L wx) (i : Nat) {g : Nat} {T : TypeId} {cs : List Value} (hi : l[i]? = some (g, T, cs)) (j : Nat) (u : Value) : TS w (l.set i (g, T, cs.set j u)) D L (wx.setCell ⟨g, j, none⟩ u) := by
  have hl : i < l.length := (List.getElem?_eq_some_iff.1 hi).1
  refine ⟨h.1.set i hi j u, h.2.imp id fun ⟨k, r, e, s⟩ => ⟨k, r, e, ?_⟩⟩
  have := s.set i (show (l ++ _)[i]? = _ by rw [List.getElem?_append_left hl]; exact hi) j u
  rwa [List.set_append_left _ _ hl] at this
theorem TS.row (h : TS w l D L wx) (i : Nat) {g : Nat} {T : TypeId} {cs : List Value} (hi : l[i]? = some (g, T, cs)) (cs' : List Value) : TS w (l.set i (g, T, cs')) D L (wx.setRow g cs'.toArray) := by
  have hl : i < l.length := (List.getElem?_eq_some_iff.1 hi).1
  refine ⟨h.1.row i hi cs', h.2.imp id fun ⟨k, r, e, s⟩ => ⟨k, r, e, ?_⟩⟩
  have := s.row i (show (l ++ _)[i]? = _ by rw [List.getElem?_append_left hl]; exact hi) cs'
  rwa [List.set_append_left _ _ hl] at this
theorem TS.tail {e : Nat × TypeId × List Value} (h : TS w (e :: l) D L wx) : TS w l D L wx :=
  ⟨h.1.tail, h.2.imp id fun ⟨k, r, q, s⟩ => ⟨k, r, q, Hs.tail (l := l ++ _) s⟩⟩
theorem TS.nobox (h : TS w l D L wx) : TS w [] D L wx := by
  induction l with
  | nil => exact h
  | cons e r ih => exact ih h.tail
/-- The ports that a callee laid. -/
theorem TS.take (h : Hs w l wx) (k : TS wx [] D L wy) : TS w l D L wy := by
  refine ⟨h.below k.old, k.2.imp id fun ⟨g, r, e, s⟩ => ⟨g, r, e, ?_⟩⟩
  have hb := h.below k.old
  have hg := s.1 0 g _ _ rfl
  refine ⟨fun i b T cs hi => ?_, fun i j a b hn hi hj => ?_, hb.2.2⟩
  · rcases Nat.lt_or_ge i l.length with q | q
    · rw [List.getElem?_append_left q] at hi
      exact hb.1 i b T cs hi
    · rw [List.getElem?_append_right q] at hi
      have : i - l.length = 0 := by
        rcases Nat.eq_zero_or_pos (i - l.length) with z | z
        · exact z
        · rw [List.getElem?_eq_none (by simp; omega)] at hi; cases hi
      rw [this] at hi
      cases hi
      exact ⟨hg.1, Nat.le_trans h.2.2.size hg.2⟩
  · have lo : ∀ (i : Nat) (a : Nat × TypeId × List Value), l[i]? = some a → a.1 < wx.heap.size := fun i a hi => h.lt (g := a.1) (T := a.2.1) (cs := a.2.2) i hi
    rcases Nat.lt_or_ge i l.length with q | q <;> rcases Nat.lt_or_ge j l.length with q' | q'
    · rw [List.getElem?_append_left q] at hi
      rw [List.getElem?_append_left q'] at hj
      exact hb.2.1 i j a b hn hi hj
    · rw [List.getElem?_append_left q] at hi
      rw [List.getElem?_append_right q'] at hj
      have : j - l.length = 0 := by
        rcases Nat.eq_zero_or_pos (j - l.length) with z | z
        · exact z
        · rw [List.getElem?_eq_none (by simp; omega)] at hj; cases hj
      rw [this] at hj
      cases hj
      have := lo i a hi
      have := hg.2
      show a.1 ≠ g
      omega
    · rw [List.getElem?_append_left q'] at hj
      rw [List.getElem?_append_right q] at hi
      have : i - l.length = 0 := by
        rcases Nat.eq_zero_or_pos (i - l.length) with z | z
        · exact z
        · rw [List.getElem?_eq_none (by simp; omega)] at hi; cases hi
      rw [this] at hi
      cases hi
      have := lo j b hj
      have := hg.2
      show g ≠ b.1
      omega
    · rw [List.getElem?_append_right q] at hi
      rw [List.getElem?_append_right q'] at hj
      have e1 : i - l.length = 0 := by
        rcases Nat.eq_zero_or_pos (i - l.length) with z | z
        · exact z
        · rw [List.getElem?_eq_none (by simp; omega)] at hi; cases hi
      have e2 : j - l.length = 0 := by
        rcases Nat.eq_zero_or_pos (j - l.length) with z | z
        · exact z
        · rw [List.getElem?_eq_none (by simp; omega)] at hj; cases hj
      omega
/-- A port in the row. -/
theorem TS.at (h : TS w l D L wx) {k : Nat} {x : Po} (hx : L[k]? = some x) :
    ∃ g, D = some ⟨g, 0, none⟩ ∧ (w.heap.size ≤ g ∧ g < wx.heap.size) ∧ (∀ i v, (lP x)[i]? = some v → wx.cell? ⟨g, k * 15 + i, none⟩ = some v) ∧ (∀ i, wx.frozen? ⟨g, i, none⟩ = false) := by
  rcases h.2 with rfl | ⟨g, r, e, s⟩
  · simp at hx
  · have hk : (l ++ [(g, 63, cellsOf lP L ++ r)])[l.length]? = some (g, 63, cellsOf lP L ++ r) := by simp
    refine ⟨g, e, ⟨(s.1 _ _ _ _ hk).2, s.lt _ hk⟩, fun i v hv => ?_, fun i => s.thaw _ i hk⟩
    have hi : i < 15 := by
      rcases Nat.lt_or_ge i 15 with q | q
      · exact q
      · rw [List.getElem?_eq_none (by rw [lP_len]; exact q)] at hv; cases hv
    have hl : k < L.length := po_lt hx
    refine s.cell _ _ hk ?_
    rw [List.getElem?_append_left (by rw [cellsOf_len lP_len]; omega), cellsOf_get lP_len L k x i hx hi]
    exact hv
theorem TS.apart (h : TS w l D L wx) {k : Nat} {x : Po} (hx : L[k]? = some x) {ad : Addr} (hD : D = some ad) (i : Nat) {b : Nat} {T : TypeId} {cs : List Value} (hi : l[i]? = some (b, T, cs)) : b ≠ ad.block := by
  rcases h.2 with rfl | ⟨g, r, e, s⟩
  · simp at hx
  · rw [hD] at e
    cases e
    have hl : i < l.length := (List.getElem?_eq_some_iff.1 hi).1
    exact s.2.1 i l.length _ _ (by omega) (by rw [List.getElem?_append_left hl]; exact hi) (by simp; rfl)
theorem TS.there {g : Nat} (h : TS w l (some ⟨g, 0, none⟩) L wx) {k : Nat} {x : Po} (hx : L[k]? = some x) (y : Po) : wx.there g (k * 15) (lP y).toArray.size := fun j hj => by
  obtain ⟨g', e', -, hcl, hfz⟩ := h.at hx
  obtain rfl : g = g' := by injection Option.some.inj e'
  obtain ⟨v, hv⟩ : ∃ v, (lP x)[j]? = some v := ⟨_, List.getElem?_eq_getElem (by rw [lP_len]; exact hj)⟩
  exact ⟨by rw [hcl j v hv]; rfl, hfz _⟩
theorem TS.there4 {g : Nat} (h : TS w l (some ⟨g, 0, none⟩) L wx) {k : Nat} {x : Po} (hx : L[k]? = some x) : wx.there g (k * 15 + 3) 4 := fun j hj => by
  have := h.there hx x (3 + j) (by show 3 + j < 15; omega)
  rwa [← Nat.add_assoc] at this
theorem TS.at_lt {g : Nat} (h : TS w l (some ⟨g, 0, none⟩) L wx) {k : Nat} {x : Po} (hx : L[k]? = some x) : g < wx.heap.size := by
  obtain ⟨g', e', h1, _⟩ := h.at hx
  obtain rfl : g = g' := by injection Option.some.inj e'
  exact h1.2
theorem TS.port_cell {g : Nat} (h : TS w l (some ⟨g, 0, none⟩) L wx) {k : Nat} {x : Po} (hx : L[k]? = some x) (i : Nat) {v : Value} (hv : (lP x)[i]? = some v) : wx.cell? ⟨g, k * 15 + i, none⟩ = some v := by
  obtain ⟨g', e', _, h1, _⟩ := h.at hx
  obtain rfl : g = g' := by injection Option.some.inj e'
  exact h1 i v hv
/-- A port of the row changed. -/
theorem TS.put {g : Nat} (h : TS w l (some ⟨g, 0, none⟩) L wx) {k : Nat} {x y : Po} (hx : L[k]? = some x) (i : Nat) (vs : List Value) (hi : i + vs.length ≤ 15) (hy : setL (lP x) i vs = lP y) :
    TS w l (some ⟨g, 0, none⟩) (L.set k y) (wx.setCells g (k * 15 + i) vs) := by
  rcases h.2 with rfl | ⟨g', r, e, s⟩
  · simp at hx
  cases e
  have hk : (l ++ [(g, 63, cellsOf lP L ++ r)])[l.length]? = some (g, 63, cellsOf lP L ++ r) := by simp
  have hb : Bk wx g 63 (cellsOf lP L ++ r) := (s.1 _ _ _ _ hk).1
  have hw := (s.1 _ _ _ _ hk).2
  have b' := Bk.setCells vs (k * 15 + i) _ _ hb
  rw [setL_ports r hi L k x hx hy] at b'
  have s' := s.put _ hk _ b' (fun j hj => setCells_other vs _ wx j hj) (Below.setCells hw vs _ _ s.2.2)
  rw [List.set_append_right _ _ (Nat.le_refl _), Nat.sub_self, List.set_cons_zero] at s'
  refine ⟨⟨fun j b T cs hj => ?_, h.1.2.1, s'.2.2⟩, .inr ⟨g, r, rfl, s'⟩⟩
  refine s'.1 j b T cs ?_
  rw [List.getElem?_append_left (List.getElem?_eq_some_iff.1 hj).1]
  exact hj
theorem TS.whole {g : Nat} (h : TS w l (some ⟨g, 0, none⟩) L wx) {k : Nat} {x : Po} (hx : L[k]? = some x) (y : Po) : TS w l (some ⟨g, 0, none⟩) (L.set k y) (wx.setCells g (k * 15) (lP y)) :=
  h.put hx 0 (lP y) (by rw [lP_len]; decide) rfl
theorem TS.ports (h : TS w l D L wx) : PoAt wx D wx.heap.size L := fun k x hx => by
  obtain ⟨g, rfl, ⟨_, h2⟩, h3, _⟩ := h.at hx
  refine ⟨_, rfl, h2, fun i v hv => ?_⟩
  rw [addr_add, addr_add, Nat.zero_add]
  exact h3 i v hv
end

/-- What a function hands out that lays ports of its own. -/
def TOut (w : World) (t : Th) (n : Nat) (L : List Po) (e : Ending) (w' : World) : Prop :=
  ∃ D cap, e = .returned (.agg (lT t D n cap).toArray) ∧ (D = none → cap = 0) ∧ TS w [] D L w'

theorem own_ts {w wx : World} {base cap n : Nat} {D : Option Addr} {L : List Po} (b : Below w.heap.size w wx) (hb : w.heap.size ≤ base) (h : OwnL lP 15 63 wx base (.slice D n cap) L) : TS w [] D L wx := by
  refine ⟨⟨fun k g T cs hk => by simp at hk, fun j k a b _ hj => by simp at hj, b⟩, ?_⟩
  rcases h.2 with ⟨_, hn⟩ | ⟨g, cap', cur, hv, hg, hh, _, _, _, hc⟩
  · exact .inl (List.length_eq_zero_iff.1 hn)
  · cases hv
    refine .inr ⟨g, cur.toList.drop (L.length * 15), rfl, fun k g' T cs hk => ?_, fun j k a b hn hj hk => ?_, b⟩
    · cases k with
      | zero =>
        cases hk
        refine ⟨?_, by omega⟩
        unfold Bk
        rw [hh, ← hc, List.take_append_drop]
      | succ k => simp at hk
    · cases j <;> cases k <;> simp_all

theorem Tryz.infoPo : (Tryz.prog.info? 63).map (fun i => (i.zero, i.size, i.bytes)) = some (some (.agg (lP ⟨0, 0, 0, 0, 0, 0, 0, false, false, false, 0, false, 0, false, 0⟩).toArray), 15, 112) := by kernel_rfl

end Go.Proofs.YtnmnihlhcokjpaaGreatDoor

/- cmp.Compare of the numbers of a telling, and cmp.Or of two and of three. -/
namespace Go.Proofs.YtnmnihlhcokjpaaGreatDoor
set_option maxRecDepth 100000
open Go.ChangeShapes Go.WideShapes Go.ChangeAt Go.RowKit
set_option linter.unusedVariables false

theorem isnanP (x : Int) (w : World) : Calls Tryz.prog 140 #[.int .u16 x] w fun e w' => e = .returned (.bool false) ∧ w = w' := by
  go_enter Tryz.func140, Tryz.ntmps140
  go_wp2
  go_ret
  exact ⟨by simp, rfl⟩

theorem cmpP_is (x y : Int) (w : World) : Calls Tryz.prog 138 #[.int .u16 x, .int .u16 y] w fun e w' => e = .returned (.int .i64 (cmpI x y)) ∧ w = w' := by
  rcases Int.lt_trichotomy x y with h | h | h
  · have hc : cmpI x y = -1 := cmpI_lt h
    rw [hc]; clear hc
    go_enter Tryz.func138, Tryz.ntmps138
    go_wp2_with (go_at_call 140; (with_reducible refine (isnanP _ _).mono ?_); rintro e w' ⟨rfl, rfl⟩)
    go_ret
    exact ⟨rfl, rfl⟩
  · subst h
    have hc : cmpI x x = 0 := cmpI_eq x
    rw [hc]; clear hc
    have h1 : decide (x < x) = false := by simp
    go_enter Tryz.func138, Tryz.ntmps138
    go_wp2_with (go_at_call 140; (with_reducible refine (isnanP _ _).mono ?_); rintro e w' ⟨rfl, rfl⟩)
    go_ret
    exact ⟨rfl, rfl⟩
  · have hc : cmpI x y = 1 := cmpI_gt h
    rw [hc]; clear hc
    have h1 : decide (x < y) = false := by simp; omega
    go_enter Tryz.func138, Tryz.ntmps138
    go_wp2_with (go_at_call 140; (with_reducible refine (isnanP _ _).mono ?_); rintro e w' ⟨rfl, rfl⟩)
    go_ret
    exact ⟨rfl, rfl⟩

theorem isnanB (x : Int) (w : World) : Calls Tryz.prog 117 #[.int .u64 x] w fun e w' => e = .returned (.bool false) ∧ w = w' := by
  go_enter Tryz.func117, Tryz.ntmps117
  go_wp2
  go_ret
  exact ⟨by simp, rfl⟩

theorem cmpB_is (x y : Int) (w : World) : Calls Tryz.prog 103 #[.int .u64 x, .int .u64 y] w fun e w' => e = .returned (.int .i64 (cmpI x y)) ∧ w = w' := by
  rcases Int.lt_trichotomy x y with h | h | h
  · have hc : cmpI x y = -1 := cmpI_lt h
    rw [hc]; clear hc
    go_enter Tryz.func103, Tryz.ntmps103
    go_wp2_with (go_at_call 117; (with_reducible refine (isnanB _ _).mono ?_); rintro e w' ⟨rfl, rfl⟩)
    go_ret
    exact ⟨rfl, rfl⟩
  · subst h
    have hc : cmpI x x = 0 := cmpI_eq x
    rw [hc]; clear hc
    have h1 : decide (x < x) = false := by simp
    go_enter Tryz.func103, Tryz.ntmps103
    go_wp2_with (go_at_call 117; (with_reducible refine (isnanB _ _).mono ?_); rintro e w' ⟨rfl, rfl⟩)
    go_ret
    exact ⟨rfl, rfl⟩
  · have hc : cmpI x y = 1 := cmpI_gt h
    rw [hc]; clear hc
    have h1 : decide (x < y) = false := by simp; omega
    go_enter Tryz.func103, Tryz.ntmps103
    go_wp2_with (go_at_call 117; (with_reducible refine (isnanB _ _).mono ?_); rintro e w' ⟨rfl, rfl⟩)
    go_ret
    exact ⟨rfl, rfl⟩

theorem isnanC (x : Int) (w : World) : Calls Tryz.prog 118 #[.int .u32 x] w fun e w' => e = .returned (.bool false) ∧ w = w' := by
  go_enter Tryz.func118, Tryz.ntmps118
  go_wp2
  go_ret
  exact ⟨by simp, rfl⟩

theorem cmpC_is (x y : Int) (w : World) : Calls Tryz.prog 104 #[.int .u32 x, .int .u32 y] w fun e w' => e = .returned (.int .i64 (cmpI x y)) ∧ w = w' := by
  rcases Int.lt_trichotomy x y with h | h | h
  · have hc : cmpI x y = -1 := cmpI_lt h
    rw [hc]; clear hc
    go_enter Tryz.func104, Tryz.ntmps104
    go_wp2_with (go_at_call 118; (with_reducible refine (isnanC _ _).mono ?_); rintro e w' ⟨rfl, rfl⟩)
    go_ret
    exact ⟨rfl, rfl⟩
  · subst h
    have hc : cmpI x x = 0 := cmpI_eq x
    rw [hc]; clear hc
    have h1 : decide (x < x) = false := by simp
    go_enter Tryz.func104, Tryz.ntmps104
    go_wp2_with (go_at_call 118; (with_reducible refine (isnanC _ _).mono ?_); rintro e w' ⟨rfl, rfl⟩)
    go_ret
    exact ⟨rfl, rfl⟩
  · have hc : cmpI x y = 1 := cmpI_gt h
    rw [hc]; clear hc
    have h1 : decide (x < y) = false := by simp; omega
    go_enter Tryz.func104, Tryz.ntmps104
    go_wp2_with (go_at_call 118; (with_reducible refine (isnanC _ _).mono ?_); rintro e w' ⟨rfl, rfl⟩)
    go_ret
    exact ⟨rfl, rfl⟩

theorem or2_is (B : Nat) (x y : Int) (w : World) (h0 : w.cell? ⟨B, 0, none⟩ = some (.int .i64 x)) (h1 : w.cell? ⟨B, 1, none⟩ = some (.int .i64 y)) :
    Calls Tryz.prog 102 #[.slice (some ⟨B, 0, none⟩) 2 2] w fun e w' => e = .returned (.int .i64 (orI x y)) ∧ w = w' := by
  by_cases hx : x = 0
  · by_cases hy : y = 0
    · have hc : orI x y = 0 := by unfold orI; rw [if_pos hx, hy]
      rw [hc]; clear hc
      go_enter Tryz.func102, Tryz.ntmps102
      go_wp2
      go_rounds 3
      go_ret
      exact ⟨rfl, rfl⟩
    · have hc : orI x y = y := by unfold orI; rw [if_pos hx]
      rw [hc]; clear hc
      go_enter Tryz.func102, Tryz.ntmps102
      go_wp2
      go_rounds 3
      go_ret
      exact ⟨rfl, rfl⟩
  · have hc : orI x y = x := by unfold orI; rw [if_neg hx]
    rw [hc]; clear hc
    go_enter Tryz.func102, Tryz.ntmps102
    go_wp2
    go_rounds 3
    go_ret
    exact ⟨rfl, rfl⟩

theorem or3_is (B : Nat) (x y z : Int) (w : World) (h0 : w.cell? ⟨B, 0, none⟩ = some (.int .i64 x)) (h1 : w.cell? ⟨B, 1, none⟩ = some (.int .i64 y)) (h2 : w.cell? ⟨B, 2, none⟩ = some (.int .i64 z)) :
    Calls Tryz.prog 102 #[.slice (some ⟨B, 0, none⟩) 3 3] w fun e w' => e = .returned (.int .i64 (orI x (orI y z))) ∧ w = w' := by
  by_cases hx : x = 0
  · by_cases hy : y = 0
    · by_cases hz : z = 0
      · have hc : orI x (orI y z) = 0 := by unfold orI; rw [if_pos hx, if_pos hy, hz]
        rw [hc]; clear hc
        go_enter Tryz.func102, Tryz.ntmps102
        go_wp2
        go_rounds 4
        go_ret
        exact ⟨rfl, rfl⟩
      · have hc : orI x (orI y z) = z := by unfold orI; rw [if_pos hx, if_pos hy]
        rw [hc]; clear hc
        go_enter Tryz.func102, Tryz.ntmps102
        go_wp2
        go_rounds 4
        go_ret
        exact ⟨rfl, rfl⟩
    · have hc : orI x (orI y z) = y := by unfold orI; rw [if_pos hx, if_neg hy]
      rw [hc]; clear hc
      go_enter Tryz.func102, Tryz.ntmps102
      go_wp2
      go_rounds 4
      go_ret
      exact ⟨rfl, rfl⟩
  · have hc : orI x (orI y z) = x := by unfold orI; rw [if_neg hx]
    rw [hc]; clear hc
    go_enter Tryz.func102, Tryz.ntmps102
    go_wp2
    go_rounds 4
    go_ret
    exact ⟨rfl, rfl⟩

end Go.Proofs.YtnmnihlhcokjpaaGreatDoor

/- A telling in a block of its own; a row of two and of three numbers that cmp.Or reads. -/
namespace Go.Proofs.YtnmnihlhcokjpaaGreatDoor
set_option maxRecDepth 100000
open Go.ChangeShapes Go.WideShapes Go.ChangeAt Go.RowKit
set_option linter.unusedVariables false

/-- A telling in a block of its own (its type is the program's or the document's). -/
def VX (T : TypeId) (w : World) (g : Nat) (x : Vec) : Prop := Bk w g T [.int .u64 x.r, .int .u32 x.c, .int .u64 x.b, .int .u16 x.p]

/-- What the block's cells are. -/
def VC (w : World) (g : Nat) (x : Vec) : Prop :=
  w.cell? ⟨g, 0, none⟩ = some (.int .u64 x.r) ∧ w.cell? ⟨g, 1, none⟩ = some (.int .u32 x.c) ∧ w.cell? ⟨g, 2, none⟩ = some (.int .u64 x.b) ∧ w.cell? ⟨g, 3, none⟩ = some (.int .u16 x.p)

theorem VX.new (T : TypeId) (w : World) (x : Vec) : VX T (w.alloc (.cells #[.int .u64 x.r, .int .u32 x.c, .int .u64 x.b, .int .u16 x.p] T)) w.heap.size x := heap_alloc_new w _
theorem VX.lt {T : TypeId} {w : World} {g : Nat} {x : Vec} (h : VX T w g x) : g < w.heap.size := Bk.lt h
theorem VX.below {T : TypeId} {w w' : World} {g B : Nat} {x : Vec} (h : VX T w g x) (hb : Below B w w') (hg : g < B) : VX T w' g x := Bk.below h hb hg
theorem VX.alloc {T : TypeId} {w : World} {g : Nat} {x : Vec} (h : VX T w g x) (o : Obj) : VX T (w.alloc o) g x := h.below ((Below.refl w.heap.size w).alloc (Nat.le_refl _) o) h.lt
theorem VX.drew {T : TypeId} {w : World} {g : Nat} {x : Vec} (h : VX T w g x) : VX T w.drew g x := h
theorem VX.cells {T : TypeId} {w : World} {g : Nat} {x : Vec} (h : VX T w g x) : VC w g x := ⟨Bk.cell h 0, Bk.cell h 1, Bk.cell h 2, Bk.cell h 3⟩
theorem VX.thaw {T : TypeId} {w : World} {g : Nat} {x : Vec} (h : VX T w g x) (i : Nat) : w.frozen? ⟨g, i, none⟩ = false := Bk.thaw h i
theorem VX.set {T : TypeId} {w : World} {g : Nat} {x : Vec} (h : VX T w g x) (k : Int) : VX T (w.setCell ⟨g, 1, none⟩ (.int .u32 k)) g ⟨x.r, k, x.b, x.p⟩ := Bk.set h 1 _

theorem VX.six {T U : TypeId} {w : World} {g k : Nat} {x y : Vec} (h : VX T w g x) (i : VX U w k y) :
    w.cell? ⟨g, 0, none⟩ = some (.int .u64 x.r) ∧ w.cell? ⟨g, 1, none⟩ = some (.int .u32 x.c) ∧ w.cell? ⟨g, 2, none⟩ = some (.int .u64 x.b) ∧ w.cell? ⟨k, 0, none⟩ = some (.int .u64 y.r) ∧ w.cell? ⟨k, 1, none⟩ = some (.int .u32 y.c) ∧ w.cell? ⟨k, 2, none⟩ = some (.int .u64 y.b) :=
  ⟨h.cells.1, h.cells.2.1, h.cells.2.2.1, i.cells.1, i.cells.2.1, i.cells.2.2.1⟩
theorem VX.eight {T U : TypeId} {w : World} {g k : Nat} {x y : Vec} (h : VX T w g x) (i : VX U w k y) :
    w.cell? ⟨g, 0, none⟩ = some (.int .u64 x.r) ∧ w.cell? ⟨g, 1, none⟩ = some (.int .u32 x.c) ∧ w.cell? ⟨g, 2, none⟩ = some (.int .u64 x.b) ∧ w.cell? ⟨g, 3, none⟩ = some (.int .u16 x.p) ∧ w.cell? ⟨k, 0, none⟩ = some (.int .u64 y.r) ∧ w.cell? ⟨k, 1, none⟩ = some (.int .u32 y.c) ∧ w.cell? ⟨k, 2, none⟩ = some (.int .u64 y.b) ∧ w.cell? ⟨k, 3, none⟩ = some (.int .u16 y.p) :=
  ⟨h.cells.1, h.cells.2.1, h.cells.2.2.1, h.cells.2.2.2, i.cells.1, i.cells.2.1, i.cells.2.2.1, i.cells.2.2.2⟩

/-- Two that were boxed one behind the other. -/
theorem boxes2 (T : TypeId) (w : World) (x y : Vec) : ∃ w', (w.alloc (.cells #[.int .u64 x.r, .int .u32 x.c, .int .u64 x.b, .int .u16 x.p] T)).alloc (.cells #[.int .u64 y.r, .int .u32 y.c, .int .u64 y.b, .int .u16 y.p] T) = w'
    ∧ VX T w' w.heap.size x ∧ VX T w' (w.heap.size + 1) y ∧ Below w.heap.size w w' := by
  refine ⟨_, rfl, (VX.new T w x).alloc _, ?_, ((Below.refl _ _).alloc (Nat.le_refl _) _).alloc (by simp) _⟩
  have := VX.new T (w.alloc (.cells #[.int .u64 x.r, .int .u32 x.c, .int .u64 x.b, .int .u16 x.p] T)) y
  simpa using this

/-- cmp.Or, called with what was just made. -/
theorem or2_at (W : World) (B : Nat) (hB : W.heap.size = B) (x y : Int) :
    Calls Tryz.prog 102 #[.slice (some ⟨B, 0, none⟩) 2 2] (W.alloc (.cells #[.int .i64 x, .int .i64 y] 3)) fun e w' => e = .returned (.int .i64 (orI x y)) ∧ (W.alloc (.cells #[.int .i64 x, .int .i64 y] 3)) = w' := by
  subst hB
  have h : Bk (W.alloc (.cells #[.int .i64 x, .int .i64 y] 3)) W.heap.size 3 [.int .i64 x, .int .i64 y] := heap_alloc_new W _
  exact or2_is _ x y _ (Bk.cell h 0) (Bk.cell h 1)
theorem or3_at (W : World) (B : Nat) (hB : W.heap.size = B) (x y z : Int) :
    Calls Tryz.prog 102 #[.slice (some ⟨B, 0, none⟩) 3 3] (W.alloc (.cells #[.int .i64 x, .int .i64 y, .int .i64 z] 3)).drew fun e w' => e = .returned (.int .i64 (orI x (orI y z))) ∧ (W.alloc (.cells #[.int .i64 x, .int .i64 y, .int .i64 z] 3)).drew = w' := by
  subst hB
  have h : Bk (W.alloc (.cells #[.int .i64 x, .int .i64 y, .int .i64 z] 3)) W.heap.size 3 [.int .i64 x, .int .i64 y, .int .i64 z] := heap_alloc_new W _
  exact or3_is _ x y z _ (Bk.cell h 0) (Bk.cell h 1) (Bk.cell h 2)

end Go.Proofs.YtnmnihlhcokjpaaGreatDoor

/- Tellings: contracts of the functions of rank. -/
namespace Go.Proofs.YtnmnihlhcokjpaaGreatDoor
set_option maxRecDepth 100000
open Go.ChangeShapes Go.WideShapes Go.ChangeAt Go.RowKit
set_option linter.unusedVariables false

set_option maxHeartbeats 1000000 in
theorem wp_is (x y : Vec) (w : World) :
    Calls Tryz.prog 73 #[.agg #[.int .u64 x.r, .int .u32 x.c, .int .u64 x.b, .int .u16 x.p], .agg #[.int .u64 y.r, .int .u32 y.c, .int .u64 y.b, .int .u16 y.p]] w
      fun e w' => e = .returned (.int .i64 (wpI x y)) ∧ Below w.heap.size w w' := by
  have hc : wpI x y = orI (cmpI x.r y.r) (orI (cmpI x.c y.c) (cmpI x.b y.b)) := rfl
  rw [hc]; clear hc
  obtain ⟨wb, hwb, hx, hy, B⟩ := boxes2 61 w x y
  obtain ⟨x0, x1, x2, x3⟩ := hx.cells
  obtain ⟨y0, y1, y2, y3⟩ := hy.cells
  go_enter Tryz.func73, Tryz.ntmps73
  go_upto_region 1 with fail
  clear hwb
  have z := B.size
  obtain ⟨X, hX⟩ : ∃ X, w.heap.size = X := ⟨_, rfl⟩
  rw [hX] at hx hy x0 x1 x2 y0 y1 y2 ⊢
  obtain ⟨Y, hY⟩ : ∃ Y, X + 1 = Y := ⟨_, rfl⟩
  rw [hY] at hy y0 y1 y2 ⊢
  clear hX hY
  have H := fun a b c => Lib.hid (or3_at wb wb.heap.size rfl a b c)
  have K1 := fun o => Lib.hid (VX.six (hx.alloc o).drew (hy.alloc o).drew)
  clear hx hy
  go_region_held3 (fun w' => w'.cell? ⟨X, 0, none⟩ = some (.int .u64 x.r) ∧ w'.cell? ⟨X, 1, none⟩ = some (.int .u32 x.c) ∧ w'.cell? ⟨X, 2, none⟩ = some (.int .u64 x.b) ∧ w'.cell? ⟨Y, 0, none⟩ = some (.int .u64 y.r) ∧ w'.cell? ⟨Y, 1, none⟩ = some (.int .u32 y.c) ∧ w'.cell? ⟨Y, 2, none⟩ = some (.int .u64 y.b)) (first | exact ⟨x0, x1, x2, y0, y1, y2⟩ | exact (K1 _).out | assumption) (first
    | (go_at_call 103; (with_reducible refine (cmpB_is _ _ _).mono ?_); rintro e w5 ⟨rfl, rfl⟩)
    | (go_at_call 104; (with_reducible refine (cmpC_is _ _ _).mono ?_); rintro e w5 ⟨rfl, rfl⟩)
    | (go_at_call 102; (with_reducible refine (H _ _ _).out.mono ?_); rintro e w6 ⟨rfl, rfl⟩))
  all_goals go_wp2_with fail
  all_goals go_ret
  all_goals exact ⟨rfl, (B.alloc z _).drew⟩

set_option maxHeartbeats 1000000 in
theorem cmp_v (x y : Vec) (w : World) :
    Calls Tryz.prog 134 #[.agg #[.int .u64 x.r, .int .u32 x.c, .int .u64 x.b, .int .u16 x.p], .agg #[.int .u64 y.r, .int .u32 y.c, .int .u64 y.b, .int .u16 y.p]] w
      fun e w' => e = .returned (.int .i64 (cmpV x y)) ∧ Below w.heap.size w w' := by
  have hc : cmpV x y = orI (wpI x y) (cmpI x.p y.p) := rfl
  rw [hc]; clear hc
  obtain ⟨wb, hwb, hx, hy, B⟩ := boxes2 61 w x y
  go_enter Tryz.func134, Tryz.ntmps134
  go_upto_region 1 with fail
  clear hwb
  have hxl := hx.lt
  have hyl := hy.lt
  have z := B.size
  obtain ⟨X, hX⟩ : ∃ X, w.heap.size = X := ⟨_, rfl⟩
  rw [hX] at hx hy hxl hyl ⊢
  obtain ⟨Y, hY⟩ : ∃ Y, X + 1 = Y := ⟨_, rfl⟩
  rw [hY] at hy hyl ⊢
  clear hX hY
  have K0 := Lib.hid (VX.eight hx.drew hy.drew)
  go_region_held3 (fun w' => w'.cell? ⟨X, 0, none⟩ = some (.int .u64 x.r) ∧ w'.cell? ⟨X, 1, none⟩ = some (.int .u32 x.c) ∧ w'.cell? ⟨X, 2, none⟩ = some (.int .u64 x.b) ∧ w'.cell? ⟨X, 3, none⟩ = some (.int .u16 x.p) ∧ w'.cell? ⟨Y, 0, none⟩ = some (.int .u64 y.r) ∧ w'.cell? ⟨Y, 1, none⟩ = some (.int .u32 y.c) ∧ w'.cell? ⟨Y, 2, none⟩ = some (.int .u64 y.b) ∧ w'.cell? ⟨Y, 3, none⟩ = some (.int .u16 y.p)) (first | exact K0.out | exact K5.out | exact (K6 _).out | assumption) (first
    | (go_at_call 73; (with_reducible refine (wp_is x y _).mono ?_); rintro e w5 ⟨rfl, b5⟩; have hx5 := hx.drew.below b5 hxl; have hy5 := hy.drew.below b5 hyl; have K5 := Lib.hid (VX.eight hx5 hy5); have K6 := fun o => Lib.hid (VX.eight (hx5.alloc o) (hy5.alloc o)); have H := fun a b => Lib.hid (or2_at w5 w5.heap.size rfl a b); have B5 := B.drew.trans (b5.mono z))
    | (go_at_call 138; (with_reducible refine (cmpP_is _ _ _).mono ?_); rintro e w6 ⟨rfl, rfl⟩)
    | (go_at_call 102; (with_reducible refine (H _ _).out.mono ?_); rintro e w6 ⟨rfl, rfl⟩))
  all_goals go_wp2_with fail
  all_goals go_ret
  all_goals exact ⟨rfl, B5.alloc B5.size _⟩

theorem far_is (a b : Int) (a0 : 0 ≤ a) (a1 : a < 4294967296) (b0 : 0 ≤ b) (b1 : b < 4294967296) (w : World) :
    Calls Tryz.prog 139 #[.int .u32 a, .int .u32 b] w fun e w' => e = .returned (.int .u32 (farI a b)) ∧ w = w' := by
  go_enter Tryz.func139, Tryz.ntmps139
  go_wp2
  go_ret
  exact ⟨ret_int (by unfold farI; omega), rfl⟩

end Go.Proofs.YtnmnihlhcokjpaaGreatDoor

/- Via, Keeps, the document's Far and Less: contracts. -/
namespace Go.Proofs.YtnmnihlhcokjpaaGreatDoor
set_option maxRecDepth 100000
open Go.ChangeShapes Go.WideShapes Go.ChangeAt Go.RowKit
set_option linter.unusedVariables false

theorem keeps_is (x y : Vec) (r : Bool) (hr : decide (cmpV x y ≤ 0) = r) (w : World) :
    Calls Tryz.prog 130 #[.agg #[.int .u64 x.r, .int .u32 x.c, .int .u64 x.b, .int .u16 x.p], .agg #[.int .u64 y.r, .int .u32 y.c, .int .u64 y.b, .int .u16 y.p]] w
      fun e w' => e = .returned (.bool r) ∧ Below w.heap.size w w' := by
  obtain ⟨wb, hwb, hx, hy, B⟩ := boxes2 61 w x y
  obtain ⟨x0, x1, x2, x3⟩ := hx.cells
  obtain ⟨y0, y1, y2, y3⟩ := hy.cells
  go_enter Tryz.func130, Tryz.ntmps130
  go_wp2_with fail
  clear hwb
  (with_reducible refine (cmp_v x y _).mono ?_); rintro e w5 ⟨rfl, b5⟩
  go_wp2
  go_ret
  exact ⟨ret_bool (by first | rfl | exact hr), B.trans (b5.mono B.size)⟩

set_option maxHeartbeats 1000000 in
theorem via_is (x : Vec) (k : Int) (hb : VB x) (k0 : 0 ≤ k) (k1 : k < 4294967296) (w : World) :
    Calls Tryz.prog 137 #[.agg #[.int .u64 x.r, .int .u32 x.c, .int .u64 x.b, .int .u16 x.p], .int .u32 k] w
      fun e w' => e = .returned (.agg #[.int .u64 x.r, .int .u32 (farI x.c k), .int .u64 x.b, .int .u16 x.p]) ∧ Below w.heap.size w w' := by
  have HF := fun W => Lib.hid (far_is x.c k hb.2.1.1 hb.2.1.2 k0 k1 W)
  clear hb
  go_enter Tryz.func137, Tryz.ntmps137
  go_wp2_with fail
  (with_reducible refine (HF _).out.mono ?_); rintro e w5 ⟨rfl, rfl⟩
  go_wp2
  exact bodyPost_ret (v := .agg #[.int .u64 x.r, .int .u32 (farI x.c k), .int .u64 x.b, .int .u16 x.p]) (by simp [results, Tryz.results137, go_sem]) rfl ⟨rfl, ((Below.refl _ _).alloc (Nat.le_refl _) _).alloc (by simp) _⟩

theorem rfar_is (a b : Int) (a0 : 0 ≤ a) (a1 : a < 4294967296) (b0 : 0 ≤ b) (b1 : b < 4294967296) (w : World) :
    Calls Tryz.prog 97 #[.int .u32 a, .int .u32 b] w fun e w' => e = .returned (.int .u32 (farI a b)) ∧ w = w' := by
  by_cases h : 4294967295 < a + b
  · go_enter Tryz.func97, Tryz.ntmps97
    go_wp2
    go_ret
    exact ⟨ret_int (by unfold farI; omega), rfl⟩
  · go_enter Tryz.func97, Tryz.ntmps97
    go_wp2
    go_ret
    exact ⟨ret_int (by unfold farI; omega), rfl⟩

theorem less_is (x y : Vec) (r : Bool) (hr : Hid (lessB x y = r)) (w : World) :
    Calls Tryz.prog 93 #[.agg #[.int .u64 x.r, .int .u32 x.c, .int .u64 x.b, .int .u16 x.p], .agg #[.int .u64 y.r, .int .u32 y.c, .int .u64 y.b, .int .u16 y.p]] w fun e w' => e = .returned (.bool r) ∧ Below w.heap.size w w' := by
  by_cases h1 : x.r = y.r
  · by_cases h2 : x.c = y.c
    · by_cases h3 : x.b = y.b
      · have e := hr.out
        rw [lessB, if_pos h1, if_pos h2, if_pos h3] at e
        have e := Lib.hid e
        clear hr
        go_enter Tryz.func93, Tryz.ntmps93
        go_wp2
        go_ret
        exact ⟨ret_bool (by first | rfl | exact e.out), ((Below.refl _ _).alloc (Nat.le_refl _) _).alloc (by simp) _⟩
      · have e := hr.out
        rw [lessB, if_pos h1, if_pos h2, if_neg h3] at e
        have e := Lib.hid e
        clear hr
        go_enter Tryz.func93, Tryz.ntmps93
        go_wp2
        go_ret
        exact ⟨ret_bool (by first | rfl | exact e.out), ((Below.refl _ _).alloc (Nat.le_refl _) _).alloc (by simp) _⟩
    · have e := hr.out
      rw [lessB, if_pos h1, if_neg h2] at e
      have e := Lib.hid e
      clear hr
      go_enter Tryz.func93, Tryz.ntmps93
      go_wp2
      go_ret
      exact ⟨ret_bool (by first | rfl | exact e.out), ((Below.refl _ _).alloc (Nat.le_refl _) _).alloc (by simp) _⟩
  · have e := hr.out
    rw [lessB, if_neg h1] at e
    have e := Lib.hid e
    clear hr
    go_enter Tryz.func93, Tryz.ntmps93
    go_wp2
    go_ret
    exact ⟨ret_bool (by first | rfl | exact e.out), ((Below.refl _ _).alloc (Nat.le_refl _) _).alloc (by simp) _⟩

end Go.Proofs.YtnmnihlhcokjpaaGreatDoor

/- A telling that came in as an argument; '==' of tellings. -/
namespace Go.Proofs.YtnmnihlhcokjpaaGreatDoor
set_option maxRecDepth 100000
open Go.Joins Go.ChangeShapes Go.WideShapes Go.ChangeAt Go.RowKit Go.Deep
set_option linter.unusedVariables false

theorem Tryz.cellsVector : Tryz.prog.cellsOf 61 = 4 := by kernel_rfl

end Go.Proofs.YtnmnihlhcokjpaaGreatDoor

/- A port that came in as an argument. -/
namespace Go.Proofs.YtnmnihlhcokjpaaGreatDoor
set_option maxRecDepth 100000
open Go.Joins Go.ChangeShapes Go.WideShapes Go.ChangeAt Go.RowKit Go.Deep
set_option linter.unusedVariables false

/-- The numbers' bounds. -/
def PoB (p : Po) : Prop := (0 ≤ p.id ∧ p.id ≤ 65535) ∧ (-9223372036854775808 ≤ p.st ∧ p.st ≤ 9223372036854775807) ∧ (0 ≤ p.co ∧ p.co ≤ 4294967295) ∧
  ((0 ≤ p.hr ∧ p.hr ≤ 18446744073709551615) ∧ (0 ≤ p.hc ∧ p.hc ≤ 4294967295) ∧ (0 ≤ p.hb ∧ p.hb ≤ 18446744073709551615) ∧ (0 ≤ p.hp ∧ p.hp ≤ 65535)) ∧
  (-9223372036854775808 ≤ p.av ∧ p.av ≤ 9223372036854775807) ∧ (-9223372036854775808 ≤ p.yv ∧ p.yv ≤ 9223372036854775807) ∧ (-9223372036854775808 ≤ p.hv ∧ p.hv ≤ 9223372036854775807)

theorem Tryz.cellsPo : Tryz.prog.cellsOf 63 = 15 := by kernel_rfl
theorem Tryz.cellsTm : Tryz.prog.cellsOf 28 = 2 := by kernel_rfl
theorem Tryz.cells1_16 : Tryz.prog.cellsOf 44 = 1 := by kernel_rfl
theorem Tryz.cells1_64 : Tryz.prog.cellsOf 3 = 1 := by kernel_rfl
theorem Tryz.cells1_32 : Tryz.prog.cellsOf 24 = 1 := by kernel_rfl
theorem Tryz.cells1_b : Tryz.prog.cellsOf 4 = 1 := by kernel_rfl
theorem Tryz.cells1_id : Tryz.prog.cellsOf 23 = 1 := by kernel_rfl

section
variable {H : Type} {enc : TypeId × Value → H} {w : World} {base : Nat} {spare : Nat → Bool} {held : Bool}

theorem tm_trod {n : Nat} {c0 c1 : Value} {y : DataW H × List MemPlace} (h : DataW.trod enc Tryz.prog w base spare held n 28 [c0, c1] = some y) :
    ∃ (o : Bool) (v : Int), c0 = .bool o ∧ c1 = .int .i64 v ∧ -9223372036854775808 ≤ v ∧ v ≤ 9223372036854775807 := by
  obtain ⟨ys, n', _, _, hlen, hyl, hfl⟩ := DataW.trod_struct Tryz.underlying28 h
  have h0 : DataW.trod enc Tryz.prog w base spare held n' 4 (([c0, c1].drop 0).take (Tryz.prog.cellsOf 4)) = ys[0]? := hfl 0 _ rfl
  have h1 : DataW.trod enc Tryz.prog w base spare held n' 3 (([c0, c1].drop 1).take (Tryz.prog.cellsOf 3)) = ys[1]? := hfl 1 _ rfl
  rw [Tryz.cells1_b] at h0
  rw [Tryz.cells1_64] at h1
  have hy2 : ys.length = 2 := hyl
  have y0 : ys[0]? = some (ys[0]'(by omega)) := List.getElem?_eq_getElem (by omega)
  have y1 : ys[1]? = some (ys[1]'(by omega)) := List.getElem?_eq_getElem (by omega)
  rw [y0] at h0
  rw [y1] at h1
  obtain ⟨o, e0, _⟩ := DataW.trod_bool Tryz.underlying4 h0
  obtain ⟨v, e1, _, w1⟩ := DataW.trod_int Tryz.underlying3 h1
  simp at e0 e1
  subst e0 e1
  have := bounds_i64 w1
  exact ⟨o, v, rfl, rfl, by omega, by omega⟩

theorem vec_trod {n : Nat} {c0 c1 c2 c3 : Value} {y : DataW H × List MemPlace} (h : DataW.trod enc Tryz.prog w base spare held n 61 [c0, c1, c2, c3] = some y) :
    ∃ (r c b p : Int), c0 = .int .u64 r ∧ c1 = .int .u32 c ∧ c2 = .int .u64 b ∧ c3 = .int .u16 p ∧ (0 ≤ r ∧ r ≤ 18446744073709551615) ∧ (0 ≤ c ∧ c ≤ 4294967295) ∧ (0 ≤ b ∧ b ≤ 18446744073709551615) ∧ (0 ≤ p ∧ p ≤ 65535) := by
  obtain ⟨ys, n', _, _, hlen, hyl, hfl⟩ := DataW.trod_struct Tryz.underlying61 h
  have h0 : DataW.trod enc Tryz.prog w base spare held n' 23 (([c0, c1, c2, c3].drop 0).take (Tryz.prog.cellsOf 23)) = ys[0]? := hfl 0 _ rfl
  have h1 : DataW.trod enc Tryz.prog w base spare held n' 24 (([c0, c1, c2, c3].drop 1).take (Tryz.prog.cellsOf 24)) = ys[1]? := hfl 1 _ rfl
  have h2 : DataW.trod enc Tryz.prog w base spare held n' 23 (([c0, c1, c2, c3].drop 2).take (Tryz.prog.cellsOf 23)) = ys[2]? := hfl 2 _ rfl
  have h3 : DataW.trod enc Tryz.prog w base spare held n' 44 (([c0, c1, c2, c3].drop 3).take (Tryz.prog.cellsOf 44)) = ys[3]? := hfl 3 _ rfl
  rw [Tryz.cells1_id] at h0 h2
  rw [Tryz.cells1_32] at h1
  rw [Tryz.cells1_16] at h3
  have hy4 : ys.length = 4 := hyl
  have y0 : ys[0]? = some (ys[0]'(by omega)) := List.getElem?_eq_getElem (by omega)
  have y1 : ys[1]? = some (ys[1]'(by omega)) := List.getElem?_eq_getElem (by omega)
  have y2 : ys[2]? = some (ys[2]'(by omega)) := List.getElem?_eq_getElem (by omega)
  have y3 : ys[3]? = some (ys[3]'(by omega)) := List.getElem?_eq_getElem (by omega)
  rw [y0] at h0
  rw [y1] at h1
  rw [y2] at h2
  rw [y3] at h3
  obtain ⟨r, e0, _, w0⟩ := DataW.trod_int Tryz.underlying23 h0
  obtain ⟨c, e1, _, w1⟩ := DataW.trod_int Tryz.underlying24 h1
  obtain ⟨b, e2, _, w2⟩ := DataW.trod_int Tryz.underlying23 h2
  obtain ⟨p, e3, _, w3⟩ := DataW.trod_int Tryz.underlying44 h3
  simp at e0 e1 e2 e3
  subst e0 e1 e2 e3
  have := bounds_u64 w0
  have := bounds_u32 w1
  have := bounds_u64 w2
  have := bounds_u16 w3
  exact ⟨r, c, b, p, rfl, rfl, rfl, rfl, by omega, by omega, by omega, by omega⟩

/-- The cells of a port, read. -/
theorem po_trod {n : Nat} {c0 c1 c2 c3 c4 c5 c6 c7 c8 c9 c10 c11 c12 c13 c14 : Value} {y : DataW H × List MemPlace} (h : DataW.trod enc Tryz.prog w base spare held n 63 [c0, c1, c2, c3, c4, c5, c6, c7, c8, c9, c10, c11, c12, c13, c14] = some y) :
    ∃ x : Po, [c0, c1, c2, c3, c4, c5, c6, c7, c8, c9, c10, c11, c12, c13, c14] = [.int .u16 x.id, .int .i64 x.st, .int .u32 x.co, .int .u64 x.hr, .int .u32 x.hc, .int .u64 x.hb, .int .u16 x.hp, .bool x.ak, .bool x.pe, .bool x.ao, .int .i64 x.av, .bool x.yo, .int .i64 x.yv, .bool x.ho, .int .i64 x.hv] ∧ PoB x := by
  obtain ⟨ys, n', _, _, hlen, hyl, hfl⟩ := DataW.trod_struct Tryz.underlying63 h
  have h0 : DataW.trod enc Tryz.prog w base spare held n' 44 (([c0, c1, c2, c3, c4, c5, c6, c7, c8, c9, c10, c11, c12, c13, c14].drop 0).take (Tryz.prog.cellsOf 44)) = ys[0]? := hfl 0 _ rfl
  have h1 : DataW.trod enc Tryz.prog w base spare held n' 3 (([c0, c1, c2, c3, c4, c5, c6, c7, c8, c9, c10, c11, c12, c13, c14].drop 1).take (Tryz.prog.cellsOf 3)) = ys[1]? := hfl 1 _ rfl
  have h2 : DataW.trod enc Tryz.prog w base spare held n' 24 (([c0, c1, c2, c3, c4, c5, c6, c7, c8, c9, c10, c11, c12, c13, c14].drop 2).take (Tryz.prog.cellsOf 24)) = ys[2]? := hfl 2 _ rfl
  have h3 : DataW.trod enc Tryz.prog w base spare held n' 61 (([c0, c1, c2, c3, c4, c5, c6, c7, c8, c9, c10, c11, c12, c13, c14].drop 3).take (Tryz.prog.cellsOf 61)) = ys[3]? := hfl 3 _ rfl
  have h4 : DataW.trod enc Tryz.prog w base spare held n' 4 (([c0, c1, c2, c3, c4, c5, c6, c7, c8, c9, c10, c11, c12, c13, c14].drop 7).take (Tryz.prog.cellsOf 4)) = ys[4]? := hfl 4 _ rfl
  have h5 : DataW.trod enc Tryz.prog w base spare held n' 4 (([c0, c1, c2, c3, c4, c5, c6, c7, c8, c9, c10, c11, c12, c13, c14].drop 8).take (Tryz.prog.cellsOf 4)) = ys[5]? := hfl 5 _ rfl
  have h6 : DataW.trod enc Tryz.prog w base spare held n' 28 (([c0, c1, c2, c3, c4, c5, c6, c7, c8, c9, c10, c11, c12, c13, c14].drop 9).take (Tryz.prog.cellsOf 28)) = ys[6]? := hfl 6 _ rfl
  have h7 : DataW.trod enc Tryz.prog w base spare held n' 28 (([c0, c1, c2, c3, c4, c5, c6, c7, c8, c9, c10, c11, c12, c13, c14].drop 11).take (Tryz.prog.cellsOf 28)) = ys[7]? := hfl 7 _ rfl
  have h8 : DataW.trod enc Tryz.prog w base spare held n' 28 (([c0, c1, c2, c3, c4, c5, c6, c7, c8, c9, c10, c11, c12, c13, c14].drop 13).take (Tryz.prog.cellsOf 28)) = ys[8]? := hfl 8 _ rfl
  rw [Tryz.cells1_16] at h0
  rw [Tryz.cells1_64] at h1
  rw [Tryz.cells1_32] at h2
  rw [Tryz.cellsVector] at h3
  rw [Tryz.cells1_b] at h4 h5
  rw [Tryz.cellsTm] at h6 h7 h8
  have hy : ys.length = 9 := hyl
  have y0 : ys[0]? = some (ys[0]'(by omega)) := List.getElem?_eq_getElem (by omega)
  have y1 : ys[1]? = some (ys[1]'(by omega)) := List.getElem?_eq_getElem (by omega)
  have y2 : ys[2]? = some (ys[2]'(by omega)) := List.getElem?_eq_getElem (by omega)
  have y3 : ys[3]? = some (ys[3]'(by omega)) := List.getElem?_eq_getElem (by omega)
  have y4 : ys[4]? = some (ys[4]'(by omega)) := List.getElem?_eq_getElem (by omega)
  have y5 : ys[5]? = some (ys[5]'(by omega)) := List.getElem?_eq_getElem (by omega)
  have y6 : ys[6]? = some (ys[6]'(by omega)) := List.getElem?_eq_getElem (by omega)
  have y7 : ys[7]? = some (ys[7]'(by omega)) := List.getElem?_eq_getElem (by omega)
  have y8 : ys[8]? = some (ys[8]'(by omega)) := List.getElem?_eq_getElem (by omega)
  rw [y0] at h0
  rw [y1] at h1
  rw [y2] at h2
  rw [y3] at h3
  rw [y4] at h4
  rw [y5] at h5
  rw [y6] at h6
  rw [y7] at h7
  rw [y8] at h8
  obtain ⟨id, e0, _, w0⟩ := DataW.trod_int Tryz.underlying44 h0
  obtain ⟨st, e1, _, w1⟩ := DataW.trod_int Tryz.underlying3 h1
  obtain ⟨co, e2, _, w2⟩ := DataW.trod_int Tryz.underlying24 h2
  obtain ⟨hr, hc, hb, hp, e3, e3b, e3c, e3d, q0, q1, q2, q3⟩ := vec_trod h3
  obtain ⟨ak, e4, _⟩ := DataW.trod_bool Tryz.underlying4 h4
  obtain ⟨pe, e5, _⟩ := DataW.trod_bool Tryz.underlying4 h5
  obtain ⟨ao, av, e6, e6b, u0, u1⟩ := tm_trod h6
  obtain ⟨yo, yv, e7, e7b, u2, u3⟩ := tm_trod h7
  obtain ⟨ho, hv, e8, e8b, u4, u5⟩ := tm_trod h8
  simp at e0 e1 e2 e4 e5
  subst e0 e1 e2 e3 e3b e3c e3d e4 e5 e6 e6b e7 e7b e8 e8b
  have := bounds_u16 w0
  have := bounds_i64 w1
  have := bounds_u32 w2
  exact ⟨⟨id, st, co, hr, hc, hb, hp, ak, pe, ao, av, yo, yv, ho, hv⟩, rfl, by unfold PoB; dsimp only; omega⟩
end

end Go.Proofs.YtnmnihlhcokjpaaGreatDoor
