/- A bridge's view: its row under a name; its ports in memory, handed in, or of the call's own. -/
import Derived.Test.YtkdbhioneoknjaaPortCells
import Derived.Test.YtkdbhioneoknjaaOwnRows
import Derived.Deep.MidRow
import Derived.Laws.AppendOwnNone
namespace Go.Proofs.Ytkdbhioneoknjaa
open Go.ChangeShapes Go.WideShapes Go.ChangeAt Go.RowKit
set_option linter.unusedVariables false

/-- A view without its ports. -/
structure Th where
  ow : Int
  ro : Int
  co : Int
  rp : Int
  n1 : Int
  n2 : Int
  n3 : Int
  m1 : Int
  m2 : Int
  m3 : Int
  de : Bool
  ch : Bool
  ho : Bool
  hv : Int
  xo : Bool
  xv : Int
  zo : Bool
  zv : Int

/-- A view's cells. -/
def lT (t : Th) (A : Option Addr) (n cap : Nat) : List Value := [.int .u64 t.ow, .int .u64 t.ro, .int .u32 t.co, .int .i64 t.rp, .int .i64 t.n1, .int .i64 t.n2, .int .i64 t.n3, .int .i64 t.m1, .int .i64 t.m2, .int .i64 t.m3, .bool t.de, .bool t.ch, .bool t.ho, .int .i64 t.hv, .bool t.xo, .int .i64 t.xv, .bool t.zo, .int .i64 t.zv, .slice A n cap]
theorem lT_len (t : Th) (A : Option Addr) (n cap : Nat) : (lT t A n cap).length = 19 := rfl
theorem lT_one (t : Th) (A : Option Addr) (n cap : Nat) : (lT t A n cap).all (·.oneCell') = true := rfl
/-- The view's zero. -/
def tz : Th := ⟨0, 0, 0, 0, 0, 0, 0, 0, 0, 0, false, false, false, 0, false, 0, false, 0⟩

/-- The numbers' bounds. -/
def ThB (t : Th) : Prop := (0 ≤ t.ow ∧ t.ow ≤ 18446744073709551615) ∧ (0 ≤ t.ro ∧ t.ro ≤ 18446744073709551615) ∧ (0 ≤ t.co ∧ t.co ≤ 4294967295) ∧ (-9223372036854775808 ≤ t.rp ∧ t.rp ≤ 9223372036854775807)

theorem po_at {L : List Po} {k n : Nat} (hL : L.length = n) (h : k < n) : ∃ x, L[k]? = some x := ⟨L[k]'(by omega), List.getElem?_eq_getElem _⟩
theorem po_lt {L : List Po} {k : Nat} {x : Po} (h : L[k]? = some x) : k < L.length := (List.getElem?_eq_some_iff.1 h).1

/-- The slice at 'A' holds the ports L, in blocks below B. -/
def PoAt (w : World) (A : Option Addr) (B : Nat) (L : List Po) : Prop :=
  ∀ k x, L[k]? = some x → ∃ ad, A = some ad ∧ ad.block < B ∧ ∀ i v, (lP x)[i]? = some v → w.cell? ((ad.add (k * 15)).add i) = some v

theorem PoAt.below {w w' : World} {A : Option Addr} {B B' : Nat} {L : List Po} (h : PoAt w A B L) (hb : Below B' w w') (hB : B ≤ B') : PoAt w' A B L := fun k x e => by
  obtain ⟨ad, h1, h2, h3⟩ := h k x e
  exact ⟨ad, h1, h2, fun i v hv => (hb.cell (p := (ad.add (k * 15)).add i) (by rw [Go.Proofs.Ytkdbhioneoknjaa.add_block, Go.Proofs.Ytkdbhioneoknjaa.add_block]; omega)).trans (h3 i v hv)⟩
theorem PoAt.wide {w : World} {A : Option Addr} {B B' : Nat} {L : List Po} (h : PoAt w A B L) (hB : B ≤ B') : PoAt w A B' L := fun k x e => by
  obtain ⟨ad, h1, h2, h3⟩ := h k x e
  exact ⟨ad, h1, by omega, h3⟩
theorem PoAt.nil {w : World} {B : Nat} {L : List Po} (h : PoAt w none B L) : L = [] := by
  cases L with
  | nil => rfl
  | cons x r => obtain ⟨_, e, _⟩ := h 0 x rfl; cases e
theorem PoAt.src {w : World} {ad : Addr} {B : Nat} {L : List Po} (h : PoAt w (some ad) B L) : ∀ (j : Nat) u, (cellsOf lP L)[j]? = some u → w.cell? (ad.add j) = some u := by
  intro j u hu
  have hj : j < L.length * 15 := by
    rcases Nat.lt_or_ge j (L.length * 15) with k | k
    · exact k
    · rw [List.getElem?_eq_none (by rw [cellsOf_len lP_len]; exact k)] at hu; cases hu
  obtain ⟨k, c, hc, rfl⟩ : ∃ k c, c < 15 ∧ j = k * 15 + c := ⟨j / 15, j % 15, by omega, by omega⟩
  have hk : k < L.length := by omega
  have hx : L[k]? = some L[k] := List.getElem?_eq_getElem hk
  rw [cellsOf_get lP_len L k _ c hx hc] at hu
  obtain ⟨ad', e, _, h0⟩ := h k _ hx
  cases e
  rw [← Go.Proofs.Ytkdbhioneoknjaa.add_add]
  exact h0 c u hu
/-- A port's cells, as a walk meets them. -/
theorem PoAt.cells {w : World} {A : Option Addr} {B : Nat} {L : List Po} (h : PoAt w A B L) {k : Nat} {x : Po} (hx : L[k]? = some x) :
    ∃ ad, A = some ad ∧ ad.block < B ∧ (w.cell? (ad.add (k * 15)) = some (.int .u16 x.id) ∧ ∀ i v, (lP x)[i + 1]? = some v → w.cell? ⟨(ad.add (k * 15)).block, (ad.add (k * 15)).off + (i + 1), none⟩ = some v) := by
  obtain ⟨ad, h1, h2, h3⟩ := h k x hx
  refine ⟨ad, h1, h2, ?_, fun i v hv => ?_⟩
  · have := h3 0 _ rfl
    simpa [Addr.add] using this
  · have e := h3 (i + 1) v hv
    exact e

/-- A port in every later world. -/
theorem PoAt.atq {w : World} {A : Option Addr} {B : Nat} {L : List Po} (h : PoAt w A B L) (hB : B ≤ w.heap.size) {k : Nat} {x : Po} (hx : L[k]? = some x) {ad : Addr} (hA : A = some ad) (v : World) (hv : ∃ q : LaterW w, v = q.w') :
    ∀ i u, (lP x)[i]? = some u → v.cell? ((ad.add (k * 15)).add i) = some u := by
  obtain ⟨q, rfl⟩ := hv
  obtain ⟨ad', e, _, h3⟩ := (h.below q.h hB) k x hx
  rw [hA] at e
  cases e
  exact h3
theorem PoAt.at {w : World} {A : Option Addr} {B : Nat} {L : List Po} (h : PoAt w A B L) {k : Nat} {x : Po} (hx : L[k]? = some x) {ad : Addr} (hA : A = some ad) :
    ∀ i u, (lP x)[i]? = some u → w.cell? ((ad.add (k * 15)).add i) = some u := by
  obtain ⟨ad', e, _, h3⟩ := h k x hx
  rw [hA] at e
  cases e
  exact h3
theorem PoAt.some {w : World} {A : Option Addr} {B : Nat} {L : List Po} (h : PoAt w A B L) {k : Nat} {x : Po} (hx : L[k]? = Option.some x) : ∃ ad, A = Option.some ad := by
  obtain ⟨ad, e, _⟩ := h k x hx
  exact ⟨ad, e⟩

section
variable {P : Program}
/-- The variable of many cells that lies at an address. -/
theorem run_loadVar_at (w : World) (ad : Addr) (ty : TypeId) (cs : List Value) (d : TypeDesc) (hc : ∀ i v, cs[i]? = some v → w.cell? (ad.add i) = some v)
    (hu : P.underlying ty = some d) (hd : (match d with | .struct _ | .array _ _ => true | _ => false) = true) (hi : (P.info? ty).map (·.size) = some cs.length) :
    (loadVar ty ad).run P w = .ok (.agg cs.toArray) w := by
  have hl : (loadCells ad cs.length).run P w = .ok cs.toArray w := run_loadCells_list (P := P) w ad cs hc
  cases hq : P.info? ty with
  | none => simp [hq] at hi
  | some i =>
    have hs : i.size = cs.length := by simpa [hq] using hi
    have hagg : (isAgg ty).run P w = .ok true w := by
      unfold isAgg
      rw [Sem.run_bind, run_underlying hu w]
      cases d <;> simp_all
    simp [loadVar, Sem.run_bind, hagg, sizeOf, typeInfo, hq, hs, hl]
theorem wpList_load_at {ops : Array Oper} {rest : List Oper} {o : Oper} {a : Act} {w : World} {Q : Exit → Act → World → Prop} (hw : Region.wanted o (yielded ops a.tmps) = true) (ty : TypeId) (x : Operand) (ho : o.op = .load ty x)
    (ad : Addr) (hx : a.eval x = .pointer (some ad)) (cs : List Value) (d : TypeDesc) (hc : ∀ i v, cs[i]? = some v → w.cell? (ad.add i) = some v)
    (hu : P.underlying ty = some d) (hd : (match d with | .struct _ | .array _ _ => true | _ => false) = true) (hi : (P.info? ty).map (·.size) = some cs.length)
    (h : wpList P ops Q rest (a.put o.dst (.agg cs.toArray)) w) : wpList P ops Q (o :: rest) a w :=
  wpList_step fun _ hK => by
    rw [if_pos hw]
    unfold Oper.wp execOp
    simp only [ho, hx, Instr.loadAt, Instr.sureAddr, Sem.run_bind, Sem.run_pure, Result.andThen_ok, run_loadVar_at w ad ty cs d hc hu hd hi]
    exact hK _ _ h
theorem quiet_load_at {C : World → Prop} {o : Oper} {a : Act} {K : Act → Prop} (ty : TypeId) (x : Operand) (ho : o.op = .load ty x)
    (ad : Addr) (hx : a.eval x = .pointer (some ad)) (cs : List Value) (d : TypeDesc) (hc : ∀ w, C w → ∀ i v, cs[i]? = some v → w.cell? (ad.add i) = some v)
    (hu : P.underlying ty = some d) (hd : (match d with | .struct _ | .array _ _ => true | _ => false) = true) (hi : (P.info? ty).map (·.size) = some cs.length)
    (h : K (a.put o.dst (.agg cs.toArray))) : o.quiet P a C K := by
  refine ⟨.agg cs.toArray, fun w hw => ?_, h⟩
  unfold Oper.quietAt execOp
  simp only [ho, hx, Instr.loadAt, Instr.sureAddr, Sem.run_bind, Sem.run_pure, Result.andThen_ok, run_loadVar_at w ad ty cs d (hc w hw) hu hd hi]
  exact ⟨rfl, rfl⟩
end

/-- Cells set one by one, as a list. -/
def setL : List Value → Nat → List Value → List Value
  | cs, _, [] => cs
  | cs, o, v :: r => setL (cs.set o v) (o + 1) r
theorem setL_right (a : List Value) : ∀ (vs : List Value) (b : List Value) (o : Nat), setL (a ++ b) (a.length + o) vs = a ++ setL b o vs
  | [], b, o => rfl
  | v :: r, b, o => by
    simp only [setL]
    rw [List.set_append_right _ _ (by omega), show a.length + o - a.length = o by omega, show a.length + o + 1 = a.length + (o + 1) by omega, setL_right a r]
theorem setL_left (b : List Value) : ∀ (vs : List Value) (a : List Value) (o : Nat), o + vs.length ≤ a.length → setL (a ++ b) o vs = setL a o vs ++ b
  | [], a, o, _ => rfl
  | v :: r, a, o, h => by
    simp only [List.length_cons] at h
    simp only [setL]
    rw [List.set_append_left _ _ (by omega), setL_left b r _ _ (by rw [List.length_set]; omega)]
theorem setL_ports {i : Nat} {vs : List Value} {y : Po} (rest : List Value) (hi : i + vs.length ≤ 15) : ∀ (L : List Po) (k : Nat) (x : Po), L[k]? = some x → setL (lP x) i vs = lP y →
    setL (cellsOf lP L ++ rest) (k * 15 + i) vs = cellsOf lP (L.set k y) ++ rest
  | [], k, x, h, _ => by simp at h
  | q :: r, 0, x, h, hy => by
    simp at h; subst h
    simp only [cellsOf, Nat.zero_mul, Nat.zero_add, List.set_cons_zero, List.append_assoc]
    rw [setL_left _ _ _ _ (by rw [lP_len]; omega), hy]
  | q :: r, k + 1, x, h, hy => by
    simp only [cellsOf, List.set_cons_succ, List.append_assoc]
    rw [show (k + 1) * 15 + i = (lP q).length + (k * 15 + i) by rw [lP_len]; omega, setL_right, setL_ports rest hi r k x (by simpa using h) hy]
theorem Bk.setCells {g : Nat} {t : TypeId} : ∀ (vs : List Value) (o : Nat) (cs : List Value) (w : World), Bk w g t cs → Bk (w.setCells g o vs) g t (setL cs o vs)
  | [], o, cs, w, h => h
  | v :: r, o, cs, w, h => Bk.setCells r (o + 1) _ _ (h.set o v)
theorem setCells_other {g : Nat} : ∀ (vs : List Value) (o : Nat) (w : World) (k : Nat), k ≠ g → (w.setCells g o vs).heap[k]? = w.heap[k]?
  | [], o, w, k, h => rfl
  | v :: r, o, w, k, h => (setCells_other r (o + 1) _ k h).trans (Below.heap_setCell w ⟨g, o, none⟩ v k h)
theorem Below.setCells {B : Nat} {w0 : World} {g : Nat} (hg : B ≤ g) : ∀ (vs : List Value) (o : Nat) (w : World), Below B w0 w → Below B w0 (w.setCells g o vs)
  | [], o, w, h => h
  | v :: r, o, w, h => Below.setCells hg r (o + 1) _ (h.setCell (p := ⟨g, o, none⟩) hg v)

/-- Boxes of the call's own, and the ports L that the slice at D holds, in a row of the call's own. -/
def TS (w : World) (l : List (Nat × TypeId × List Value)) (D : Option Addr) (L : List Po) (wx : World) : Prop :=
  Hs w l wx ∧ (L = [] ∨ ∃ g rest, D = some ⟨g, 0, none⟩ ∧ Hs w (l ++ [(g, 49, cellsOf lP L ++ rest)]) wx)

section
variable {w wx wy : World} {l : List (Nat × TypeId × List Value)} {D : Option Addr} {L : List Po}
theorem TS.hs (h : TS w l D L wx) : Hs w l wx := h.1
theorem TS.old (h : TS w l D L wx) : Below w.heap.size w wx := h.1.old
theorem TS.below (h : TS w l D L wx) (b : Below wx.heap.size wx wy) : TS w l D L wy :=
  ⟨h.1.below b, h.2.imp id fun ⟨g, r, e, s⟩ => ⟨g, r, e, s.below b⟩⟩
theorem TS.al (h : TS w l D L wx) {g : Nat} (hg : wx.heap.size = g) (T : TypeId) (cs : List Value) : TS w ((g, T, cs) :: l) D L (wx.alloc (.cells cs.toArray T)) :=
  ⟨h.1.al hg T cs, h.2.imp id fun ⟨k, r, e, s⟩ => ⟨k, r, e, s.al hg T cs⟩⟩
theorem TS.set (h : TS w l D L wx) (i : Nat) {g : Nat} {T : TypeId} {cs : List Value} (hi : l[i]? = some (g, T, cs)) (j : Nat) (u : Value) : TS w (l.set i (g, T, cs.set j u)) D L (wx.setCell ⟨g, j, none⟩ u) := by
  have hl : i < l.length := (List.getElem?_eq_some_iff.1 hi).1
  refine ⟨h.1.set i hi j u, h.2.imp id fun ⟨k, r, e, s⟩ => ⟨k, r, e, ?_⟩⟩
  have := s.set i (show (l ++ _)[i]? = _ by rw [List.getElem?_append_left hl]; exact hi) j u
  rwa [List.set_append_left _ _ hl] at this
theorem TS.row (h : TS w l D L wx) (i : Nat) {g : Nat} {T : TypeId} {cs : List Value} (hi : l[i]? = some (g, T, cs)) (cs' : List Value) : TS w (l.set i (g, T, cs')) D L (wx.setRow g cs'.toArray) := by
  have hl : i < l.length := (List.getElem?_eq_some_iff.1 hi).1
  refine ⟨h.1.row i hi cs', h.2.imp id fun ⟨k, r, e, s⟩ => ⟨k, r, e, ?_⟩⟩
  have := s.row i (show (l ++ _)[i]? = _ by rw [List.getElem?_append_left hl]; exact hi) cs'
  rwa [List.set_append_left _ _ hl] at this
theorem TS.tail {e : Nat × TypeId × List Value} (h : TS w (e :: l) D L wx) : TS w l D L wx :=
  ⟨h.1.tail, h.2.imp id fun ⟨k, r, q, s⟩ => ⟨k, r, q, Hs.tail (l := l ++ _) s⟩⟩
theorem TS.nobox (h : TS w l D L wx) : TS w [] D L wx := by
  induction l with
  | nil => exact h
  | cons e r ih => exact ih h.tail
/-- The ports that a callee laid. -/
theorem TS.take (h : Hs w l wx) (k : TS wx [] D L wy) : TS w l D L wy := by
  refine ⟨h.below k.old, k.2.imp id fun ⟨g, r, e, s⟩ => ⟨g, r, e, ?_⟩⟩
  have hb := h.below k.old
  have hg := s.1 0 g _ _ rfl
  refine ⟨fun i b T cs hi => ?_, fun i j a b hn hi hj => ?_, hb.2.2⟩
  · rcases Nat.lt_or_ge i l.length with q | q
    · rw [List.getElem?_append_left q] at hi
      exact hb.1 i b T cs hi
    · rw [List.getElem?_append_right q] at hi
      have : i - l.length = 0 := by
        rcases Nat.eq_zero_or_pos (i - l.length) with z | z
        · exact z
        · rw [List.getElem?_eq_none (by simp; omega)] at hi; cases hi
      rw [this] at hi
      cases hi
      exact ⟨hg.1, Nat.le_trans h.2.2.size hg.2⟩
  · have lo : ∀ (i : Nat) (a : Nat × TypeId × List Value), l[i]? = some a → a.1 < wx.heap.size := fun i a hi => h.lt (g := a.1) (T := a.2.1) (cs := a.2.2) i hi
    rcases Nat.lt_or_ge i l.length with q | q <;> rcases Nat.lt_or_ge j l.length with q' | q'
    · rw [List.getElem?_append_left q] at hi
      rw [List.getElem?_append_left q'] at hj
      exact hb.2.1 i j a b hn hi hj
    · rw [List.getElem?_append_left q] at hi
      rw [List.getElem?_append_right q'] at hj
      have : j - l.length = 0 := by
        rcases Nat.eq_zero_or_pos (j - l.length) with z | z
        · exact z
        · rw [List.getElem?_eq_none (by simp; omega)] at hj; cases hj
      rw [this] at hj
      cases hj
      have := lo i a hi
      have := hg.2
      show a.1 ≠ g
      omega
    · rw [List.getElem?_append_left q'] at hj
      rw [List.getElem?_append_right q] at hi
      have : i - l.length = 0 := by
        rcases Nat.eq_zero_or_pos (i - l.length) with z | z
        · exact z
        · rw [List.getElem?_eq_none (by simp; omega)] at hi; cases hi
      rw [this] at hi
      cases hi
      have := lo j b hj
      have := hg.2
      show g ≠ b.1
      omega
    · rw [List.getElem?_append_right q] at hi
      rw [List.getElem?_append_right q'] at hj
      have e1 : i - l.length = 0 := by
        rcases Nat.eq_zero_or_pos (i - l.length) with z | z
        · exact z
        · rw [List.getElem?_eq_none (by simp; omega)] at hi; cases hi
      have e2 : j - l.length = 0 := by
        rcases Nat.eq_zero_or_pos (j - l.length) with z | z
        · exact z
        · rw [List.getElem?_eq_none (by simp; omega)] at hj; cases hj
      omega
/-- A port in the row. -/
theorem TS.at (h : TS w l D L wx) {k : Nat} {x : Po} (hx : L[k]? = some x) :
    ∃ g, D = some ⟨g, 0, none⟩ ∧ (w.heap.size ≤ g ∧ g < wx.heap.size) ∧ (∀ i v, (lP x)[i]? = some v → wx.cell? ⟨g, k * 15 + i, none⟩ = some v) ∧ (∀ i, wx.frozen? ⟨g, i, none⟩ = false) := by
  rcases h.2 with rfl | ⟨g, r, e, s⟩
  · simp at hx
  · have hk : (l ++ [(g, 49, cellsOf lP L ++ r)])[l.length]? = some (g, 49, cellsOf lP L ++ r) := by simp
    refine ⟨g, e, ⟨(s.1 _ _ _ _ hk).2, s.lt _ hk⟩, fun i v hv => ?_, fun i => s.thaw _ i hk⟩
    have hi : i < 15 := by
      rcases Nat.lt_or_ge i 15 with q | q
      · exact q
      · rw [List.getElem?_eq_none (by rw [lP_len]; exact q)] at hv; cases hv
    have hl : k < L.length := po_lt hx
    refine s.cell _ _ hk ?_
    rw [List.getElem?_append_left (by rw [cellsOf_len lP_len]; omega), cellsOf_get lP_len L k x i hx hi]
    exact hv
theorem TS.apart (h : TS w l D L wx) {k : Nat} {x : Po} (hx : L[k]? = some x) {ad : Addr} (hD : D = some ad) (i : Nat) {b : Nat} {T : TypeId} {cs : List Value} (hi : l[i]? = some (b, T, cs)) : b ≠ ad.block := by
  rcases h.2 with rfl | ⟨g, r, e, s⟩
  · simp at hx
  · rw [hD] at e
    cases e
    have hl : i < l.length := (List.getElem?_eq_some_iff.1 hi).1
    exact s.2.1 i l.length _ _ (by omega) (by rw [List.getElem?_append_left hl]; exact hi) (by simp; rfl)
theorem TS.there {g : Nat} (h : TS w l (some ⟨g, 0, none⟩) L wx) {k : Nat} {x : Po} (hx : L[k]? = some x) (y : Po) : wx.there g (k * 15) (lP y).toArray.size := fun j hj => by
  obtain ⟨g', e', -, hcl, hfz⟩ := h.at hx
  obtain rfl : g = g' := by injection Option.some.inj e'
  obtain ⟨v, hv⟩ : ∃ v, (lP x)[j]? = some v := ⟨_, List.getElem?_eq_getElem (by rw [lP_len]; exact hj)⟩
  exact ⟨by rw [hcl j v hv]; rfl, hfz _⟩
theorem TS.there4 {g : Nat} (h : TS w l (some ⟨g, 0, none⟩) L wx) {k : Nat} {x : Po} (hx : L[k]? = some x) : wx.there g (k * 15 + 3) 4 := fun j hj => by
  have := h.there hx x (3 + j) (by show 3 + j < 15; omega)
  rwa [← Nat.add_assoc] at this
theorem TS.at_lt {g : Nat} (h : TS w l (some ⟨g, 0, none⟩) L wx) {k : Nat} {x : Po} (hx : L[k]? = some x) : g < wx.heap.size := by
  obtain ⟨g', e', h1, _⟩ := h.at hx
  obtain rfl : g = g' := by injection Option.some.inj e'
  exact h1.2
theorem TS.port_cell {g : Nat} (h : TS w l (some ⟨g, 0, none⟩) L wx) {k : Nat} {x : Po} (hx : L[k]? = some x) (i : Nat) {v : Value} (hv : (lP x)[i]? = some v) : wx.cell? ⟨g, k * 15 + i, none⟩ = some v := by
  obtain ⟨g', e', _, h1, _⟩ := h.at hx
  obtain rfl : g = g' := by injection Option.some.inj e'
  exact h1 i v hv
/-- A port of the row changed. -/
theorem TS.put {g : Nat} (h : TS w l (some ⟨g, 0, none⟩) L wx) {k : Nat} {x y : Po} (hx : L[k]? = some x) (i : Nat) (vs : List Value) (hi : i + vs.length ≤ 15) (hy : setL (lP x) i vs = lP y) :
    TS w l (some ⟨g, 0, none⟩) (L.set k y) (wx.setCells g (k * 15 + i) vs) := by
  rcases h.2 with rfl | ⟨g', r, e, s⟩
  · simp at hx
  cases e
  have hk : (l ++ [(g, 49, cellsOf lP L ++ r)])[l.length]? = some (g, 49, cellsOf lP L ++ r) := by simp
  have hb : Bk wx g 49 (cellsOf lP L ++ r) := (s.1 _ _ _ _ hk).1
  have hw := (s.1 _ _ _ _ hk).2
  have b' := Bk.setCells vs (k * 15 + i) _ _ hb
  rw [setL_ports r hi L k x hx hy] at b'
  have s' := s.put _ hk _ b' (fun j hj => setCells_other vs _ wx j hj) (Below.setCells hw vs _ _ s.2.2)
  rw [List.set_append_right _ _ (Nat.le_refl _), Nat.sub_self, List.set_cons_zero] at s'
  refine ⟨⟨fun j b T cs hj => ?_, h.1.2.1, s'.2.2⟩, .inr ⟨g, r, rfl, s'⟩⟩
  refine s'.1 j b T cs ?_
  rw [List.getElem?_append_left (List.getElem?_eq_some_iff.1 hj).1]
  exact hj
theorem TS.whole {g : Nat} (h : TS w l (some ⟨g, 0, none⟩) L wx) {k : Nat} {x : Po} (hx : L[k]? = some x) (y : Po) : TS w l (some ⟨g, 0, none⟩) (L.set k y) (wx.setCells g (k * 15) (lP y)) :=
  h.put hx 0 (lP y) (by rw [lP_len]; decide) rfl
theorem TS.ports (h : TS w l D L wx) : PoAt wx D wx.heap.size L := fun k x hx => by
  obtain ⟨g, rfl, ⟨_, h2⟩, h3, _⟩ := h.at hx
  refine ⟨_, rfl, h2, fun i v hv => ?_⟩
  rw [addr_add, addr_add, Nat.zero_add]
  exact h3 i v hv
end

/-- What a function hands out that lays ports of its own. -/
def TOut (w : World) (t : Th) (n : Nat) (L : List Po) (e : Ending) (w' : World) : Prop :=
  ∃ D cap, e = .returned (.agg (lT t D n cap).toArray) ∧ (D = none → cap = 0) ∧ TS w [] D L w'

theorem own_ts {w wx : World} {base cap n : Nat} {D : Option Addr} {L : List Po} (b : Below w.heap.size w wx) (hb : w.heap.size ≤ base) (h : OwnL lP 15 49 wx base (.slice D n cap) L) : TS w [] D L wx := by
  refine ⟨⟨fun k g T cs hk => by simp at hk, fun j k a b _ hj => by simp at hj, b⟩, ?_⟩
  rcases h.2 with ⟨_, hn⟩ | ⟨g, cap', cur, hv, hg, hh, _, _, _, hc⟩
  · exact .inl (List.length_eq_zero_iff.1 hn)
  · cases hv
    refine .inr ⟨g, cur.toList.drop (L.length * 15), rfl, fun k g' T cs hk => ?_, fun j k a b hn hj hk => ?_, b⟩
    · cases k with
      | zero =>
        cases hk
        refine ⟨?_, by omega⟩
        unfold Bk
        rw [hh, ← hc, List.take_append_drop]
      | succ k => simp at hk
    · cases j <;> cases k <;> simp_all

theorem Try.infoPo : (Try.prog.info? 49).map (fun i => (i.zero, i.size, i.bytes)) = some (some (.agg (lP ⟨0, 0, 0, 0, 0, 0, 0, false, false, false, 0, false, 0, false, 0⟩).toArray), 15, 112) := by kernel_rfl

end Go.Proofs.Ytkdbhioneoknjaa
