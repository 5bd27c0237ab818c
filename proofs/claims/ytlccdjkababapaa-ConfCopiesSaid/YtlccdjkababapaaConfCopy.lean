/- Copy: one like it, its ports in memory of the call's own. -/
import Derived.Test.YtlccdjkababapaaConfMem
import Derived.Test.YtlccdjkababapaaOwnRows
import Derived.Laws.AppendOwnNone
import Derived.Deep.DeepCutAuto
import Derived.LoopTactic
namespace Go.Proofs.Ytlccdjkababapaa
open Go.ChangeShapes Go.WideShapes Go.ChangeAt Go.RowKit
set_option linter.unusedVariables false

def encP (p : PV) : List Value := [.int .u8 p.pr, .int .u32 p.co, .bool p.on]
theorem encP_len (p : PV) : (encP p).length = 3 := rfl
theorem encP_one (p : PV) : ∀ u ∈ encP p, u.oneCell' = true := by intro u hu; simp only [encP, List.mem_cons, List.not_mem_nil, or_false] at hu; rcases hu with rfl | rfl | rfl <;> rfl
theorem cells_one : ∀ (L : List PV), ∀ u ∈ cellsOf encP L, u.oneCell' = true
  | [], u, hu => by simp [cellsOf] at hu
  | p :: r, u, hu => by
    simp only [cellsOf, List.mem_append] at hu
    rcases hu with h | h
    · exact encP_one p u h
    · exact cells_one r u h

theorem Try.infoPort : (Try.prog.info? 30).map (fun i => (i.zero, i.size, i.bytes)) = some (some (.agg #[.int .u8 0, .int .u32 0, .bool false]), 3, 12) := by kernel_rfl

theorem PortsIn.nil {w : World} {B : Nat} {L : List PV} (h : PortsIn w none B L) : L = [] := by
  cases L with
  | nil => rfl
  | cons x r => obtain ⟨_, e, _⟩ := h 0 x rfl; cases e

theorem PortsIn.src {w : World} {ad : Addr} {B : Nat} {L : List PV} (h : PortsIn w (some ad) B L) : ∀ (j : Nat) u, (cellsOf encP L)[j]? = some u → w.cell? (ad.add j) = some u := by
  intro j u hu
  have hj : j < L.length * 3 := by
    rcases Nat.lt_or_ge j (L.length * 3) with k | k
    · exact k
    · rw [List.getElem?_eq_none (by rw [cellsOf_len encP_len]; exact k)] at hu; cases hu
  obtain ⟨k, c, hc, rfl⟩ : ∃ k c, c < 3 ∧ j = k * 3 + c := ⟨j / 3, j % 3, by omega, by omega⟩
  have hk : k < L.length := by omega
  have hx : L[k]? = some L[k] := List.getElem?_eq_getElem hk
  rw [cellsOf_get encP_len L k _ c hx hc] at hu
  obtain ⟨ad', e, _, h0, h1, h2, _⟩ := h k _ hx
  cases e
  have hc' : c = 0 ∨ c = 1 ∨ c = 2 := by omega
  rcases hc' with rfl | rfl | rfl
  · rw [Nat.add_zero, h0]; exact hu
  · rw [h1]; exact hu
  · rw [h2]; exact hu

theorem append_ports (w : World) {ops : Array Oper} {rest : List Oper} {o : Oper} {a : Act} {Q : Exit → Act → World → Prop} (hgd : o.guard = none) (s x : Operand)
    (ho : o.op = .call { callee := .builtin .append, args := #[s, x], argTypes := #[25, 25] })
    (hs : a.eval s = .slice none 0 0) (A : Option Addr) (m c : Nat) (L : List PV) (hx : a.eval x = .slice A m c) (K : Nat) (hp : PortsIn w A K L) (hl : Hid (L.length = m)) (hc : Hid (A = none → c = 0)) (hm : m ≤ 200)
    (base : Nat) (hbase : base ≤ w.heap.size) (B : Nat) (w0 : World) (hb : Below B w0 w) (hB : B ≤ base)
    (h : ∀ D cap w', OwnL encP 3 30 w' base (.slice D m cap) L → Below B w0 w' → w.grownBy w' none → (D = none → cap = 0) → wpList Try.prog ops Q rest (a.put o.dst (.slice D m cap)) w') :
    wpList Try.prog ops Q (o :: rest) a w := by
  obtain ⟨i0, hi0, hz0, hz1, hz2⟩ := info_parts Try.infoPort
  have hnil : w.ownsRow base 30 3 (.slice none 0 0) 0 [] := World.ownsRow_nil w base _ 3
  cases A with
  | none =>
    have h0 := hp.nil
    subst h0
    have hm0 := hl.out
    subst hm0
    have hc0 := hc.out rfl
    subst hc0
    refine wpList_append_own_none hgd s x 25 ho base 30 i0 3 Try.underlying25 hi0 _ 0 [] hs hnil hx ?_
    exact h none 0 w hnil hb ⟨rfl, rfl, rfl, Nat.le_refl _, fun _ _ _ => rfl⟩ (fun _ => rfl)
  | some ad =>
    have hm0 := hl.out
    subst hm0
    refine wpList_append_own w hgd s x 25 ho base 30 i0 _ 3 12 Try.underlying25 hi0 hz0 hz1 hz2 rfl (by decide) _ 0 [] hs hnil ad L.length c (cellsOf encP L) hx (cellsOf_len encP_len L) hp.src (cells_one L) (by unfold maxLen; omega) (by omega) hbase ?_
    intro v' w' hown hgrow hv
    rw [Nat.zero_add, List.nil_append] at hown
    have hown' : OwnL encP 3 30 w' base v' L := hown
    obtain ⟨D, cap, rfl⟩ := hown'.shape
    have hbw : Below B w0 w' := hb.grown hgrow (Nat.le_trans hB hbase) (fun k hk => by cases hk)
    refine h D cap w' hown' hbw hgrow fun e => ?_
    subst e
    rcases hown'.2 with ⟨h2, _⟩ | ⟨g, cap', cur, h2, _⟩
    · injection h2
    · injection h2 with e1
      cases e1

/-- What a copy hands out. -/
def CopyEnd (c : Cf) (L : List PV) (w : World) (e : Ending) (w' : World) : Prop :=
  ∃ D cap, e = .returned (.agg #[.int .u64 c.ad, .int .u16 c.pr, .int .i64 c.ma, .int .i64 c.he, .int .i64 c.de, .int .i64 c.ag, .int .i64 c.tb, .slice D c.n cap]) ∧ OwnL encP 3 30 w' w.heap.size (.slice D c.n cap) L ∧ Below w.heap.size w w' ∧ (D = none → cap = 0)

theorem grown_set (w : World) (p : Addr) (u : Value) : w.grownBy (w.setCell p u) (some p.block) :=
  ⟨rfl, rfl, rfl, by simp [World.setCell], fun i hi hn => Below.heap_setCell w p u i (fun e => hn (by rw [e]))⟩

theorem OwnL.set {α : Type} {enc : α → List Value} {s : Nat} {e : TypeId} {w : World} {base : Nat} {v : Value} {l : List α} (h : OwnL enc s e w base v l) {p : Addr} (hp : p.block < base) (u : Value) : OwnL enc s e (w.setCell p u) base v l :=
  h.but (grown_set w p u) hp

theorem CX.grown {w w' : World} {g : Nat} {c : Cf} (h : CX w g c) (hb : w.grownBy w' none) : CX w' g c := (hb.block g h.lt (by simp)).trans h

set_option maxHeartbeats 1000000 in
theorem copy_is (c : Cf) (L : List PV) (hL : Hid (L.length = c.n)) (hf : c.n ≤ 200) (hc : Hid (c.A = none → c.cap = 0)) (w : World) (hp : Hid (PortsIn w c.A w.heap.size L)) :
    Calls Try.prog 19 #[.agg #[.int .u64 c.ad, .int .u16 c.pr, .int .i64 c.ma, .int .i64 c.he, .int .i64 c.de, .int .i64 c.ag, .int .i64 c.tb, .slice c.A c.n c.cap]] w (CopyEnd c L w) := by
  obtain ⟨wb, hwb, hx, B⟩ := cf_box w c
  obtain ⟨wz, hwz, hy, Bz⟩ := cf_box wb ⟨0, 0, 0, 0, 0, 0, 0, none, 0, 0⟩
  have hs1 : wb.heap.size = w.heap.size + 1 := by rw [← hwb]; simp
  have hs2 : wz.heap.size = w.heap.size + 2 := by rw [← hwz]; simp [hs1]
  rw [hs1] at hy Bz
  dsimp only at hwz
  have hx2 := hx.below Bz (Nat.lt_succ_self _)
  have B2 := B.trans (Bz.mono (Nat.le_succ _))
  go_enter Try.func19, Try.ntmps19
  go_upto_region 1 with fail
  clear hwb
  clear hwz
  obtain ⟨x0, x1, x2, x3, x4, x5, x6, x7⟩ := hx2.cells
  have HS := Lib.hid hs2
  have HX := Lib.hid hx2
  have HY := Lib.hid hy
  clear hs2 hs1 hx hy hx2 B Bz
  obtain ⟨X, hX⟩ : ∃ X, w.heap.size = X := ⟨_, rfl⟩
  rw [hX] at x0 x1 x2 x3 x4 x5 x6 x7 ⊢
  obtain ⟨Y, hY⟩ : ∃ Y, X + 1 = Y := ⟨_, rfl⟩
  rw [hY]
  have hXY : X < Y := by omega
  have HXY := Lib.hid (And.intro hX hY)
  clear hX hY
  have H3 : ∀ w3, wz.grownBy w3 none → Hid ((CC w3 X c ∧ CC w3 Y ⟨0, 0, 0, 0, 0, 0, 0, none, 0, 0⟩) ∧ ∀ i, w3.frozen? ⟨X, i, none⟩ = false ∧ w3.frozen? ⟨Y, i, none⟩ = false) := fun w3 hgr => by
    have a : CX w3 X c := by rw [← HXY.out.1]; exact HX.out.grown hgr
    have b : CX w3 Y ⟨0, 0, 0, 0, 0, 0, 0, none, 0, 0⟩ := by rw [← HXY.out.2, ← HXY.out.1]; exact HY.out.grown hgr
    exact Lib.hid ⟨⟨a.cells, b.cells⟩, fun i => ⟨a.thaw i, b.thaw i⟩⟩
  have hsX : w.heap.size = X := HXY.out.1
  go_wp2_with (at_builtin; refine append_ports _ rfl (.const (.slice none 0 0)) (.tmp 4) rfl rfl c.A c.n c.cap L rfl w.heap.size (hp.out.below B2 (Nat.le_refl _)) hL hc hf wz.heap.size (Nat.le_refl _) w.heap.size w B2 B2.size ?_; intro D cap w3 hown hb3 hgr hz; have HO := Lib.hid hown; have HZ := Lib.hid hz; have h3 := H3 w3 hgr; clear hown hz hgr H3 x0 x1 x2 x3 x4 x5 x6 x7; obtain ⟨⟨⟨x0, x1, x2, x3, x4, x5, x6, x7⟩, ⟨y0, y1, y2, y3, y4, y5, y6, y7⟩⟩, fz⟩ := h3.out; have f0 := (fz 7).1; obtain ⟨-, g0⟩ := fz 0; obtain ⟨-, g1⟩ := fz 1; obtain ⟨-, g2⟩ := fz 2; obtain ⟨-, g3⟩ := fz 3; obtain ⟨-, g4⟩ := fz 4; obtain ⟨-, g5⟩ := fz 5; obtain ⟨-, g6⟩ := fz 6; obtain ⟨-, g7⟩ := fz 7; clear fz)
  have q : w.heap.size ≤ X := by omega
  have qY : w.heap.size ≤ Y := by omega
  have r : X < wz.heap.size := by have := HS.out; omega
  have rY : Y < wz.heap.size := by have := HS.out; have := HXY.out; omega
  refine bodyPost_ret (v := .agg #[.int .u64 c.ad, .int .u16 c.pr, .int .i64 c.ma, .int .i64 c.he, .int .i64 c.de, .int .i64 c.ag, .int .i64 c.tb, .slice D c.n cap]) (by simp [results, Try.results19, go_sem, y0, y1, y2, y3, y4, y5, y6, y7]) rfl ⟨D, cap, rfl, ?_, ?_, HZ.out⟩
  · exact (((((((((HO.out.set (p := ⟨X, 7, none⟩) r _).set (p := ⟨Y, 0, none⟩) rY _).set (p := ⟨Y, 1, none⟩) rY _).set (p := ⟨Y, 2, none⟩) rY _).set (p := ⟨Y, 3, none⟩) rY _).set (p := ⟨Y, 4, none⟩) rY _).set (p := ⟨Y, 5, none⟩) rY _).set (p := ⟨Y, 6, none⟩) rY _).set (p := ⟨Y, 7, none⟩) rY _).mono (by have := HS.out; omega)
  · exact ((((((((hb3.setCell (p := ⟨X, 7, none⟩) q _).setCell (p := ⟨Y, 0, none⟩) qY _).setCell (p := ⟨Y, 1, none⟩) qY _).setCell (p := ⟨Y, 2, none⟩) qY _).setCell (p := ⟨Y, 3, none⟩) qY _).setCell (p := ⟨Y, 4, none⟩) qY _).setCell (p := ⟨Y, 5, none⟩) qY _).setCell (p := ⟨Y, 6, none⟩) qY _).setCell (p := ⟨Y, 7, none⟩) qY _

end Go.Proofs.Ytlccdjkababapaa
