/- Several texts in one, one behind the other: TreeJoin, IdsPlain, IdsBase, ConfMem, ConfFew, IdsTwo, ConfIds, IdsRefRight, ConfPure, SpanOf, TreeNew. -/
import Derived.Test.YtnmnihlhcokjpaaGreatDoorPk05
import Derived.Test.YtnmnihlhcokjpaaGreatDoorPk04
import Derived.Test.YtnmnihlhcokjpaaGreatDoorPk01
import Derived.WalkKit
import Derived.Test.YtnmnihlhcokjpaaGreatDoorRows
import Derived.Lib.Hide
import Derived.Deep.RegionHeld3
import Derived.Deep.DeepCutAuto
import Derived.Lib.MinMax

/- Boxes of a call's own beside elder ones; ports made anew. -/
namespace Go.Proofs.YtnmnihlhcokjpaaGreatDoor
set_option maxRecDepth 100000
open Go.ChangeShapes Go.WideShapes Go.ChangeAt Go.RowKit
set_option linter.unusedVariables false

/-- As sets. -/
theorem hs_iff {w wx : World} {l : List (Nat × TypeId × List Value)} : Hs w l wx ↔ (∀ x ∈ l, Bk wx x.1 x.2.1 x.2.2 ∧ w.heap.size ≤ x.1) ∧ l.Pairwise (fun a b => a.1 ≠ b.1) ∧ Below w.heap.size w wx := by
  constructor
  · intro h
    refine ⟨fun x hx => ?_, ?_, h.2.2⟩
    · obtain ⟨k, hk, e⟩ := List.getElem_of_mem hx
      exact h.1 k x.1 x.2.1 x.2.2 (by rw [List.getElem?_eq_getElem hk, e])
    · rw [List.pairwise_iff_getElem]
      intro i j hi hj hij
      exact h.2.1 i j _ _ (by omega) (List.getElem?_eq_getElem hi) (List.getElem?_eq_getElem hj)
  · intro h
    refine ⟨fun k g T cs hk => h.1 (g, T, cs) (List.mem_of_getElem? hk), fun j k a b hn hj hk => ?_, h.2.2⟩
    obtain ⟨hj', ej⟩ := List.getElem?_eq_some_iff.1 hj
    obtain ⟨hk', ek⟩ := List.getElem?_eq_some_iff.1 hk
    have hp := List.pairwise_iff_getElem.1 h.2.1
    rw [← ej, ← ek]
    rcases Nat.lt_or_ge j k with q | q
    · exact hp j k hj' hk' q
    · exact (hp k j hk' hj' (by omega)).symm
theorem Hs.perm {w wx : World} {l l' : List (Nat × TypeId × List Value)} (h : Hs w l wx) (p : l.Perm l') : Hs w l' wx := by
  rw [hs_iff] at h ⊢
  exact ⟨fun x hx => h.1 x (p.mem_iff.2 hx), p.pairwise h.2.1 (fun q e => q e.symm), h.2.2⟩
/-- Blocks that were made later. -/
theorem Hs.join {w wx wy : World} {l m : List (Nat × TypeId × List Value)} (h : Hs w l wx) (k : Hs wx m wy) : Hs w (m ++ l) wy := by
  have hb := hs_iff.1 (h.below k.old)
  have h' := hs_iff.1 h
  have k' := hs_iff.1 k
  rw [hs_iff]
  refine ⟨fun x hx => ?_, ?_, hb.2.2⟩
  · rcases List.mem_append.1 hx with q | q
    · exact ⟨(k'.1 x q).1, Nat.le_trans h.old.size (k'.1 x q).2⟩
    · exact hb.1 x q
  · rw [List.pairwise_append]
    refine ⟨k'.2.1, h'.2.1, fun a ha b hbm => ?_⟩
    have e1 := (k'.1 a ha).2
    have e2 := (h'.1 b hbm).1.lt
    omega
theorem TS.join {w wx wy : World} {l m : List (Nat × TypeId × List Value)} {D : Option Addr} {L : List Po} (h : Hs w l wx) (k : TS wx m D L wy) : TS w (m ++ l) D L wy := by
  refine ⟨h.join k.1, k.2.imp id fun ⟨g, r, e, s⟩ => ⟨g, r, e, ?_⟩⟩
  refine (h.join s).perm ?_
  rw [List.append_assoc, List.append_assoc]
  exact List.Perm.append_left m List.perm_append_comm
/-- One box, and a row. -/
theorem hs_box {w wy : World} {g : Nat} {T : TypeId} {cs : List Value} (b : Below w.heap.size w wy) (hk : Bk wy g T cs) (hg : w.heap.size ≤ g) : Hs w [(g, T, cs)] wy :=
  hs_iff.2 ⟨fun x hx => by obtain rfl := List.mem_singleton.1 hx; exact ⟨hk, hg⟩, List.pairwise_singleton _ _, b⟩
theorem hs_box2 {w wy : World} {g g' : Nat} {T T' : TypeId} {cs cs' : List Value} (b : Below w.heap.size w wy) (hk : Bk wy g T cs) (hg : w.heap.size ≤ g) (hk' : Bk wy g' T' cs') (hg' : w.heap.size ≤ g') (hne : g ≠ g') : Hs w [(g, T, cs), (g', T', cs')] wy :=
  hs_iff.2 ⟨fun x hx => by rcases List.mem_cons.1 hx with rfl | q; exact ⟨hk, hg⟩; obtain rfl := List.mem_singleton.1 q; exact ⟨hk', hg'⟩, List.pairwise_cons.2 ⟨fun x hx => by obtain rfl := List.mem_singleton.1 hx; exact hne, List.pairwise_singleton _ _⟩, b⟩
theorem bk_ne {w : World} {g g' : Nat} {T T' : TypeId} {cs cs' : List Value} (h : Bk w g T cs) (h' : Bk w g' T' cs') (hT : T ≠ T') : g ≠ g' := by
  rintro rfl
  unfold Bk at h h'
  rw [h] at h'
  injection h' with e
  injection e with _ e
  exact hT e

def zeroP : Po := ⟨0, 0, 0, 0, 0, 0, 0, false, false, false, 0, false, 0, false, 0⟩
theorem made_at (z : Array Value) (m i : Nat) (h : i < (madeCells z m).size) : (madeCells z m)[i] = z[i % z.size]! := by simp [madeCells]
theorem made_ports (n : Nat) : madeCells (Value.agg (lP zeroP).toArray).cells (n * 15) = (cellsOf lP (List.replicate n zeroP)).toArray := by
  apply Array.ext
  · rw [size_madeCells, List.size_toArray, cellsOf_len lP_len, List.length_replicate]
  · intro i h1 h2
    have h3 : i < n * 15 := by rwa [size_madeCells] at h1
    have e := cellsOf_get lP_len (List.replicate n zeroP) (i / 15) zeroP (i % 15) (by rw [List.getElem?_replicate, if_pos (by omega)]) (by omega)
    rw [show i / 15 * 15 + i % 15 = i by omega] at e
    have hq : i % 15 < (lP zeroP).length := by rw [lP_len]; omega
    rw [List.getElem?_eq_getElem hq] at e
    have e2 : (cellsOf lP (List.replicate n zeroP)).toArray[i] = (lP zeroP)[i % 15] := by
      have := List.getElem?_eq_some_iff.1 e
      simpa using this.2
    rw [e2]
    rw [made_at]
    show (lP zeroP).toArray[i % (lP zeroP).toArray.size]! = _
    rw [List.size_toArray, lP_len, getElem!_pos (lP zeroP).toArray (i % 15) (by rw [List.size_toArray]; exact hq)]
    rfl
theorem make_ports (n : Nat) (h : n ≤ 1000) (w : World) :
    (Instr.makeSlice 29 (.int .i64 (n : Int)) (.int .i64 (n : Int))).run Tryz.prog w = .ok (.slice (some ⟨w.heap.size, 0, none⟩) n n) (w.alloc (.cells (cellsOf lP (List.replicate n zeroP)).toArray 63)) := by
  obtain ⟨i0, hi, hz0, hz1, hz2⟩ := info_parts Tryz.infoPo
  have hr := run_make (P := Tryz.prog) w 29 63 i0 _ Tryz.underlying29 hi hz0 .i64 .i64 (n : Int) (n : Int) (by omega) (by omega) (by rw [hz2]; omega) (by omega)
  rw [hz1] at hr
  simp only [Int.toNat_natCast] at hr
  rw [hr]
  exact congrArg (fun c => Result.ok (Value.slice (some ⟨w.heap.size, 0, none⟩) n n) (w.alloc (.cells c 63))) (made_ports n)

/-- A row that operation j made. -/
def MkF (f : Nat → Bool) (j B n : Nat) (cs : List Value) (w : World) (v : Value) : Prop := f j = true → ∃ g, v = .slice (some ⟨g, 0, none⟩) n n ∧ B ≤ g ∧ Bk w g 63 cs
section
variable {f : Nat → Bool} {i j B n : Nat} {cs : List Value} {w w' : World} {v : Value}
theorem MkF.below (h : MkF f j B n cs w v) (b : Below w.heap.size w w') : MkF f j B n cs w' v := fun hj => by
  obtain ⟨g, h1, h2, h3⟩ := h hj
  exact ⟨g, h1, h2, h3.below b h3.lt⟩
theorem MkF.up (h : MkF f j B n cs w v) (hi : i ≠ j) : MkF (upB f i) j B n cs w v := fun hj => h (by rwa [upB_ne _ (fun e => hi e.symm)] at hj)
theorem MkF.off (h : f j = false) : MkF f j B n cs w v := fun e => by rw [h] at e; cases e
theorem MkF.new (hB : B ≤ w.heap.size) : MkF (upB f j) j B n cs (w.alloc (.cells cs.toArray 63)) (.slice (some ⟨w.heap.size, 0, none⟩) n n) := fun _ => ⟨_, rfl, hB, heap_alloc_new w _⟩
theorem MkF.row {g : Nat} {ds es : List Value} (h : MkF f j B n cs w v) (hb : Bk w g 31 es) : MkF f j B n cs (w.setRow g ds.toArray) v := fun hj => by
  obtain ⟨g', h1, h2, h3⟩ := h hj
  exact ⟨g', h1, h2, (setRow_other w g g' _ (bk_ne h3 hb (by decide))).trans h3⟩
end

/-- A store into a row's midst that comes up. -/
theorem exec_if_store_mid {P : Program} {ops : Array Oper} {o : Oper} {a : Act} {w : World} {K : Act → World → Prop} {Q : Exit → Act → World → Prop} (hw : Region.wanted o (yielded ops a.tmps) = true) (ty : TypeId) (x y : Operand) (ho : o.op = .store ty x y)
    (b off : Nat) (cells : Array Value) (hx : a.eval x = .pointer (some ⟨b, off, none⟩)) (hy : a.eval y = .agg cells)
    (ht : w.there b off cells.size) (hi : (P.info? ty).map (·.size) = some cells.size) (h1 : cells.all (·.oneCell') = true)
    (h : K (a.put o.dst undef) (w.setCells b off cells.toList)) : if Region.wanted o (yielded ops a.tmps) = true then Oper.wp P o a w K Q else K (a.put o.dst undef) w := by
  rw [if_pos hw]
  exact wp_store_mid ty x y ho b off cells hx hy ht hi h1 h

/-- Boxes, while a row grows. -/
theorem Hs.grow {w wx wy : World} {l : List (Nat × TypeId × List Value)} {row : Option Nat} {base : Nat} (h : Hs w l wx) (gr : wx.grownBy wy row) (hr : ∀ k, row = some k → base ≤ k) (hl : ∀ x ∈ l, x.1 < base) (hb : w.heap.size ≤ base) : Hs w l wy := by
  have hB : Below w.heap.size w wy := h.old.grown gr h.old.size (fun k hk => Nat.le_trans hb (hr k hk))
  have h' := hs_iff.1 h
  refine hs_iff.2 ⟨fun x hx => ⟨?_, (h'.1 x hx).2⟩, h'.2.1, hB⟩
  have e := (h'.1 x hx).1
  unfold Bk at e ⊢
  rw [gr.block x.1 (Bk.lt e) (fun q => by have := hr x.1 q.symm; have := hl x hx; omega)]
  exact e

end Go.Proofs.YtnmnihlhcokjpaaGreatDoor

/- The text of an address, its bytes, and what is read of a text: as lists. No program in sight. -/
namespace Go.Proofs.YtnmnihlhcokjpaaGreatDoor
set_option maxRecDepth 100000
open Go

def hexU (d : Nat) : UInt8 := if d < 10 then UInt8.ofNat (48 + d) else UInt8.ofNat (87 + d)
def hx (q : Int) : UInt8 := hexU (q % 16).toNat
def txt (a : Int) : List UInt8 :=
  [hx (a / 17592186044416), hx (a / 1099511627776), 58, hx (a / 68719476736), hx (a / 4294967296), 58, hx (a / 268435456), hx (a / 16777216), 58,
   hx (a / 1048576), hx (a / 65536), 58, hx (a / 4096), hx (a / 256), 58, hx (a / 16), hx a]

end Go.Proofs.YtnmnihlhcokjpaaGreatDoor

/- Facts on this seat's program that several texts use. -/
namespace Go.Proofs.YtnmnihlhcokjpaaGreatDoor
set_option maxRecDepth 100000
end Go.Proofs.YtnmnihlhcokjpaaGreatDoor

/- A configuration in a block of its own, and its ports in memory. -/
namespace Go.Proofs.YtnmnihlhcokjpaaGreatDoor
set_option maxRecDepth 100000
open Go.ChangeShapes Go.WideShapes Go.ChangeAt Go.RowKit
set_option linter.unusedVariables false

/-- A configuration: its numbers, and where its ports lie. -/
structure Cf where
  ad : Int
  pr : Int
  ma : Int
  he : Int
  de : Int
  ag : Int
  tb : Int
  A : Option Addr
  n : Nat
  cap : Nat

/-- A port's configuration. -/
structure PV where
  pr : Int
  co : Int
  on : Bool

/-- The numbers' bounds. -/
def CB (c : Cf) : Prop := (0 ≤ c.ad ∧ c.ad ≤ 18446744073709551615) ∧ (0 ≤ c.pr ∧ c.pr ≤ 65535) ∧ (-9223372036854775808 ≤ c.ma ∧ c.ma ≤ 9223372036854775807) ∧ (-9223372036854775808 ≤ c.he ∧ c.he ≤ 9223372036854775807) ∧
  (-9223372036854775808 ≤ c.de ∧ c.de ≤ 9223372036854775807) ∧ (-9223372036854775808 ≤ c.ag ∧ c.ag ≤ 9223372036854775807) ∧ (-9223372036854775808 ≤ c.tb ∧ c.tb ≤ 9223372036854775807) ∧ c.n ≤ 9223372036854775807
def PB (p : PV) : Prop := (0 ≤ p.pr ∧ p.pr ≤ 255) ∧ 0 ≤ p.co ∧ p.co ≤ 4294967295

/-- The slice at 'a' holds the ports L, in blocks below B. -/
def PortsIn (w : World) (a : Option Addr) (B : Nat) (L : List PV) : Prop :=
  ∀ k x, L[k]? = some x → ∃ ad, a = some ad ∧ ad.block < B ∧ w.cell? (ad.add (k * 3)) = some (.int .u8 x.pr) ∧ w.cell? (ad.add (k * 3 + 1)) = some (.int .u32 x.co) ∧ w.cell? (ad.add (k * 3 + 2)) = some (.bool x.on) ∧ PB x

theorem PortsIn.below {w w' : World} {a : Option Addr} {B B' : Nat} {L : List PV} (h : PortsIn w a B L) (hb : Below B' w w') (hB : B ≤ B') : PortsIn w' a B L := fun k x e => by
  obtain ⟨ad, h1, h2, h3, h4, h5, h6⟩ := h k x e
  have kp : ∀ j, w'.cell? (ad.add j) = w.cell? (ad.add j) := fun j => hb.cell (p := ad.add j) (by rw [add_block]; omega)
  exact ⟨ad, h1, h2, (kp _).trans h3, (kp _).trans h4, (kp _).trans h5, h6⟩
theorem PortsIn.wide {w : World} {a : Option Addr} {B B' : Nat} {L : List PV} (h : PortsIn w a B L) (hB : B ≤ B') : PortsIn w a B' L := fun k x e => by
  obtain ⟨ad, h1, h2, h3⟩ := h k x e
  exact ⟨ad, h1, by omega, h3⟩
theorem PortsIn.drew {w : World} {a : Option Addr} {B : Nat} {L : List PV} (h : PortsIn w a B L) : PortsIn w.drew a B L := h

/-- A configuration in a block of its own. -/
def CX (w : World) (g : Nat) (c : Cf) : Prop := Bk w g 58 [.int .u64 c.ad, .int .u16 c.pr, .int .i64 c.ma, .int .i64 c.he, .int .i64 c.de, .int .i64 c.ag, .int .i64 c.tb, .slice c.A c.n c.cap]
/-- What the block's cells are. -/
def CC (w : World) (g : Nat) (c : Cf) : Prop :=
  w.cell? ⟨g, 0, none⟩ = some (.int .u64 c.ad) ∧ w.cell? ⟨g, 1, none⟩ = some (.int .u16 c.pr) ∧ w.cell? ⟨g, 2, none⟩ = some (.int .i64 c.ma) ∧ w.cell? ⟨g, 3, none⟩ = some (.int .i64 c.he) ∧
  w.cell? ⟨g, 4, none⟩ = some (.int .i64 c.de) ∧ w.cell? ⟨g, 5, none⟩ = some (.int .i64 c.ag) ∧ w.cell? ⟨g, 6, none⟩ = some (.int .i64 c.tb) ∧ w.cell? ⟨g, 7, none⟩ = some (.slice c.A c.n c.cap)

theorem CX.new (w : World) (c : Cf) : CX (w.alloc (.cells #[.int .u64 c.ad, .int .u16 c.pr, .int .i64 c.ma, .int .i64 c.he, .int .i64 c.de, .int .i64 c.ag, .int .i64 c.tb, .slice c.A c.n c.cap] 58)) w.heap.size c := heap_alloc_new w _
theorem CX.lt {w : World} {g : Nat} {c : Cf} (h : CX w g c) : g < w.heap.size := Bk.lt h
theorem CX.below {w w' : World} {g B : Nat} {c : Cf} (h : CX w g c) (hb : Below B w w') (hg : g < B) : CX w' g c := Bk.below h hb hg
theorem CX.alloc {w : World} {g : Nat} {c : Cf} (h : CX w g c) (o : Obj) : CX (w.alloc o) g c := h.below ((Below.refl w.heap.size w).alloc (Nat.le_refl _) o) h.lt
theorem CX.drew {w : World} {g : Nat} {c : Cf} (h : CX w g c) : CX w.drew g c := h
theorem CX.cells {w : World} {g : Nat} {c : Cf} (h : CX w g c) : CC w g c := ⟨Bk.cell h 0, Bk.cell h 1, Bk.cell h 2, Bk.cell h 3, Bk.cell h 4, Bk.cell h 5, Bk.cell h 6, Bk.cell h 7⟩
theorem CX.thaw {w : World} {g : Nat} {c : Cf} (h : CX w g c) (i : Nat) : w.frozen? ⟨g, i, none⟩ = false := Bk.thaw h i

/-- One that was boxed. -/
theorem cf_box (w : World) (c : Cf) : ∃ w', w.alloc (.cells #[.int .u64 c.ad, .int .u16 c.pr, .int .i64 c.ma, .int .i64 c.he, .int .i64 c.de, .int .i64 c.ag, .int .i64 c.tb, .slice c.A c.n c.cap] 58) = w' ∧ CX w' w.heap.size c ∧ Below w.heap.size w w' :=
  ⟨_, rfl, CX.new w c, (Below.refl _ _).alloc (Nat.le_refl _) _⟩

theorem CX.far {w : World} {g : Nat} {c : Cf} (h : CX w g c) {p : Addr} (hp : p.block ≠ g) (u : Value) : CX (w.setCell p u) g c := Bk.far h hp u

/-- A port in a block of its own. -/
def PX (w : World) (g : Nat) (p : PV) : Prop := Bk w g 55 [.int .u8 p.pr, .int .u32 p.co, .bool p.on]
theorem PX.new (w : World) (p : PV) : PX (w.alloc (.cells #[.int .u8 p.pr, .int .u32 p.co, .bool p.on] 55)) w.heap.size p := heap_alloc_new w _
theorem PX.lt {w : World} {g : Nat} {p : PV} (h : PX w g p) : g < w.heap.size := Bk.lt h
theorem PX.below {w w' : World} {g B : Nat} {p : PV} (h : PX w g p) (hb : Below B w w') (hg : g < B) : PX w' g p := Bk.below h hb hg
theorem PX.alloc {w : World} {g : Nat} {p : PV} (h : PX w g p) (o : Obj) : PX (w.alloc o) g p := h.below ((Below.refl w.heap.size w).alloc (Nat.le_refl _) o) h.lt
theorem PX.drew {w : World} {g : Nat} {p : PV} (h : PX w g p) : PX w.drew g p := h
theorem PX.cells {w : World} {g : Nat} {p : PV} (h : PX w g p) : w.cell? ⟨g, 0, none⟩ = some (.int .u8 p.pr) ∧ w.cell? ⟨g, 1, none⟩ = some (.int .u32 p.co) ∧ w.cell? ⟨g, 2, none⟩ = some (.bool p.on) := ⟨Bk.cell h 0, Bk.cell h 1, Bk.cell h 2⟩
theorem PX.thaw {w : World} {g : Nat} {p : PV} (h : PX w g p) (i : Nat) : w.frozen? ⟨g, i, none⟩ = false := Bk.thaw h i

end Go.Proofs.YtnmnihlhcokjpaaGreatDoor

/- Few ports, and times that may be, of the document. -/
namespace Go.Proofs.YtnmnihlhcokjpaaGreatDoor
set_option maxRecDepth 100000
open Go.ChangeShapes Go.WideShapes Go.ChangeAt Go.RowKit
set_option linter.unusedVariables false

/-- Is a number one from the least to the most? -/
def inI (n l m : Int) : Bool := decide (l ≤ n) && decide (n ≤ m)
def timesB (c : Cf) : Bool := inI c.ma 6 40 && (inI c.he 1 10 && (inI c.de 4 30 && inI c.ma (2 * (c.he + 1)) (2 * (c.de - 1))))

end Go.Proofs.YtnmnihlhcokjpaaGreatDoor

/- The numbers of bridges and ports, and the document's lowest 48 bits: contracts, for every argument. -/
namespace Go.Proofs.YtnmnihlhcokjpaaGreatDoor
set_option maxRecDepth 100000
open Go.ChangeShapes Go.WideShapes Go.ChangeAt Go.RowKit
set_option linter.unusedVariables false

theorem bridge_any (p a : Int) (hp0 : 0 ≤ p) (hp1 : p ≤ 65535) (ha0 : 0 ≤ a) (ha1 : a ≤ 18446744073709551615) (w : World) :
    Calls Tryz.prog 78 #[.int .u16 p, .int .u64 a] w fun e w' => e = .returned (.int .u64 (p * 281474976710656 + a % 281474976710656)) ∧ w = w' := by
  go_enter Tryz.func78, Tryz.ntmps78
  go_wp2
  go_ret
  exact ⟨ret_int (by rw [and48 a ha0 ha1, or48 p _ hp0 hp1 (by omega) (by omega)]), rfl⟩

theorem port_any (p i : Int) (hp0 : 0 ≤ p) (hp1 : p ≤ 255) (hi0 : 0 ≤ i) (hi1 : i ≤ 254) (w : World) :
    Calls Tryz.prog 81 #[.int .u8 p, .int .i64 i] w fun e w' => e = .returned (.int .u16 (p * 256 + (i + 1))) ∧ w = w' := by
  go_enter Tryz.func81, Tryz.ntmps81
  go_wp2
  go_ret
  exact ⟨ret_int (or8_16 p _ hp0 hp1 (by omega) (by omega)), rfl⟩

end Go.Proofs.YtnmnihlhcokjpaaGreatDoor

/- The numbers of a bridge and of its ports: Id, PortId, and the document's. -/
namespace Go.Proofs.YtnmnihlhcokjpaaGreatDoor
set_option maxRecDepth 100000
open Go.ChangeShapes Go.WideShapes Go.ChangeAt Go.RowKit
set_option linter.unusedVariables false

def idI (c : Cf) : Int := c.pr * 281474976710656 + c.ad % 281474976710656
def pidI (L : List PV) (i : Int) : Int := if 0 ≤ i then (match L[i.toNat]? with | some p => p.pr * 256 + (i + 1) | none => 0) else 0

theorem pid_neg (L : List PV) {i : Int} (h : i < 0) : pidI L i = 0 := by unfold pidI; rw [if_neg (by omega)]
theorem pid_out (L : List PV) {i : Int} (h : L.length ≤ i) : pidI L i = 0 := by
  unfold pidI
  split
  · rw [List.getElem?_eq_none (by omega)]
  · rfl
theorem pid_at {L : List PV} {k : Nat} {p : PV} (h : L[k]? = some p) : pidI L k = p.pr * 256 + ((k : Int) + 1) := by
  unfold pidI
  rw [if_pos (by omega), Int.toNat_natCast, h]

theorem id_is (c : Cf) (hb : CB c) (w : World) :
    Calls Tryz.prog 39 #[.agg #[.int .u64 c.ad, .int .u16 c.pr, .int .i64 c.ma, .int .i64 c.he, .int .i64 c.de, .int .i64 c.ag, .int .i64 c.tb, .slice c.A c.n c.cap]] w fun e w' => e = .returned (.int .u64 (idI c)) ∧ Below w.heap.size w w' := by
  have HI := fun W => Lib.hid (bridge_any c.pr c.ad hb.2.1.1 hb.2.1.2 hb.1.1 hb.1.2 W)
  clear hb
  go_enter Tryz.func39, Tryz.ntmps39
  go_wp2_with fail
  (with_reducible refine (HI _).out.mono ?_); rintro e w1 ⟨rfl, rfl⟩
  go_wp2
  go_ret
  exact ⟨rfl, (Below.refl _ _).alloc (Nat.le_refl _) _⟩

theorem portid_is (c : Cf) (L : List PV) (hL : L.length = c.n) (hf : c.n ≤ 200) (i : Int) (i0 : -9223372036854775808 ≤ i) (i1 : i ≤ 9223372036854775807) (w : World) (hp : PortsIn w c.A w.heap.size L) :
    Calls Tryz.prog 43 #[.agg #[.int .u64 c.ad, .int .u16 c.pr, .int .i64 c.ma, .int .i64 c.he, .int .i64 c.de, .int .i64 c.ag, .int .i64 c.tb, .slice c.A c.n c.cap], .int .i64 i] w fun e w' => e = .returned (.int .u16 (pidI L i)) ∧ Below w.heap.size w w' := by
  obtain ⟨wb, hwb, hx, B⟩ := cf_box w c
  obtain ⟨-, -, -, -, -, -, -, x7⟩ := hx.cells
  by_cases hn : i < 0
  · rw [pid_neg L hn]
    clear hp hL hf
    go_enter Tryz.func43, Tryz.ntmps43
    go_wp2
    go_ret
    exact ⟨rfl, B⟩
  · by_cases hk : (c.n : Int) ≤ i
    · rw [pid_out L (by rw [hL]; exact hk)]
      clear hp hL
      have hn' : 0 ≤ i := by omega
      clear hn
      go_enter Tryz.func43, Tryz.ntmps43
      go_wp2
      go_ret
      exact ⟨rfl, B⟩
    · obtain ⟨k, rfl⟩ : ∃ k : Nat, i = k := ⟨i.toNat, by omega⟩
      have hkn : k < c.n := by omega
      obtain ⟨p, hpk⟩ : ∃ p, L[k]? = some p := ⟨L[k]'(by omega), List.getElem?_eq_getElem _⟩
      rw [pid_at hpk]
      obtain ⟨ad, hA, -, y0, -, -, ⟨⟨q0, q1⟩, -⟩⟩ := (hp.below B (Nat.le_refl _)) k p hpk
      have HP := fun W => Lib.hid (port_any p.pr k q0 q1 (by omega) (by omega) W)
      rw [hA] at hwb x7 ⊢
      clear hp hL hpk hn hk i0 i1 hx
      go_enter Tryz.func43, Tryz.ntmps43
      go_wp2_with fail
      (with_reducible refine (HP _).out.mono ?_); rintro e w1 ⟨rfl, rfl⟩
      go_wp2
      go_ret
      exact ⟨rfl, B⟩

end Go.Proofs.YtnmnihlhcokjpaaGreatDoor

/- The document's Right: contract. -/
namespace Go.Proofs.YtnmnihlhcokjpaaGreatDoor
set_option maxRecDepth 100000
open Go.ChangeShapes Go.WideShapes Go.ChangeAt Go.RowKit
set_option linter.unusedVariables false

def rightB (a : Int) : Bool := decide (0 < a ∧ a < 281474976710656 ∧ a / 1099511627776 % 2 = 0)

end Go.Proofs.YtnmnihlhcokjpaaGreatDoor

/- What is wrong with a configuration first: no program. -/
namespace Go.Proofs.YtnmnihlhcokjpaaGreatDoor
set_option maxRecDepth 100000
open Go.ChangeShapes Go.WideShapes Go.ChangeAt Go.RowKit
set_option linter.unusedVariables false

/-- A port that may not be. -/
def badB (p : PV) : Bool := !inI p.co 1 65535
def ccheckI (c : Cf) (L : List PV) : Int :=
  if rightB c.ad = false then 1 else if timesB c = false then 3 else if inI c.ag 10 1000000 = false then 3 else if inI c.tb 0 64 = false then 3 else if c.n = 0 then 8 else if 4 < c.n then 4 else if L.any badB = true then 3 else 0

theorem port_cells {w : World} {a : Option Addr} {B : Nat} {L : List PV} (h : PortsIn w a B L) {k : Nat} {x : PV} (hx : L[k]? = some x) :
    ∃ ad, a = some ad ∧ ad.block < B ∧ (w.cell? (ad.add (k * 3)) = some (.int .u8 x.pr) ∧ w.cell? ⟨(ad.add (k * 3)).block, (ad.add (k * 3)).off + 1, none⟩ = some (.int .u32 x.co) ∧ w.cell? ⟨(ad.add (k * 3)).block, (ad.add (k * 3)).off + 2, none⟩ = some (.bool x.on)) ∧ PB x := by
  obtain ⟨ad, h1, h2, h3, h4, h5, h6⟩ := h k x hx
  refine ⟨ad, h1, h2, ⟨h3, ?_, ?_⟩, h6⟩
  · have e := Go.Proofs.YtnmnihlhcokjpaaGreatDoor.add_add ad (k * 3) 1
    rw [← e] at h4
    exact h4
  · have e := Go.Proofs.YtnmnihlhcokjpaaGreatDoor.add_add ad (k * 3) 2
    rw [← e] at h5
    exact h5

theorem pv_at {L : List PV} {k n : Nat} (hL : L.length = n) (h : k < n) : ∃ x, L[k]? = some x := ⟨L[k]'(by omega), List.getElem?_eq_getElem _⟩

end Go.Proofs.YtnmnihlhcokjpaaGreatDoor

/- Times of seconds: contract. -/
namespace Go.Proofs.YtnmnihlhcokjpaaGreatDoor
set_option maxRecDepth 100000
open Go.ChangeShapes Go.WideShapes Go.ChangeAt Go.RowKit
set_option linter.unusedVariables false

/-- A number, cut to what a field tells. -/
def cutI (t : Int) : Int := min (max t 0) 65535
def ofI (s : Int) : Int := cutI (cutI s * 256)
theorem cutI_bd (t : Int) : 0 ≤ cutI t ∧ cutI t ≤ 65535 := by unfold cutI; omega
theorem cut_any (t : Int) (h0 : -9223372036854775808 ≤ t) (h1 : t ≤ 9223372036854775807) (w : World) :
    Calls Tryz.prog 79 #[.int .i64 t] w fun e w' => e = .returned (.int .i64 (cutI t)) ∧ w = w' := by
  go_enter Tryz.func79, Tryz.ntmps79
  go_wp2
  go_ret
  exact ⟨rfl, rfl⟩

theorem of_any (s : Int) (h0 : -9223372036854775808 ≤ s) (h1 : s ≤ 9223372036854775807) (w : World) :
    Calls Tryz.prog 40 #[.int .i64 s] w fun e w' => e = .returned (.int .i64 (ofI s)) ∧ w = w' := by
  obtain ⟨b0, b1⟩ := cutI_bd s
  go_enter Tryz.func40, Tryz.ntmps40
  go_wp2_with (go_at_call 79; (with_reducible refine (cut_any _ (by omega) (by omega) _).mono ?_); rintro e w' ⟨rfl, rfl⟩)
  go_ret
  exact ⟨rfl, rfl⟩

end Go.Proofs.YtnmnihlhcokjpaaGreatDoor

/- New: contract. -/
namespace Go.Proofs.YtnmnihlhcokjpaaGreatDoor
set_option maxRecDepth 100000
open Go.ChangeShapes Go.WideShapes Go.ChangeAt Go.RowKit
set_option linter.unusedVariables false
set_option linter.unusedSimpArgs false

/-- A configuration's cells. -/
def lC (c : Cf) : List Value := [.int .u64 c.ad, .int .u16 c.pr, .int .i64 c.ma, .int .i64 c.he, .int .i64 c.de, .int .i64 c.ag, .int .i64 c.tb, .slice c.A c.n c.cap]
/-- The view that a bridge begins with. -/
def newT (c : Cf) : Th := ⟨idI c, idI c, 0, -1, ofI c.ma, ofI c.he, ofI c.de, ofI c.ma, ofI c.he, ofI c.de, false, false, false, 0, false, 0, false, 0⟩
def newP (c : Cf) (L : List PV) (k : Nat) (x : PV) : Po := ⟨pidI L k, if x.on then 1 else 0, x.co, idI c, 0, idI c, pidI L k, false, false, false, 0, false, 0, false, 0⟩
/-- What the loop puts. -/
def newAt (c : Cf) (L : List PV) (j : Nat) (p : Po) : Po := match L[j]? with | some x => newP c L j x | none => p
def newL (c : Cf) (L : List PV) : List Po := L.mapIdx fun k x => newP c L k x

theorem id_row (c : Cf) (hb : CB c) (w : World) : Calls Tryz.prog 39 #[.agg (lC c).toArray] w fun e w' => e = .returned (.int .u64 (idI c)) ∧ Below w.heap.size w w' := id_is c hb w
theorem portid_row (c : Cf) (L : List PV) (hL : L.length = c.n) (hf : c.n ≤ 200) (k : Nat) (hk : k ≤ 200) (w : World) (hp : PortsIn w c.A w.heap.size L) :
    Calls Tryz.prog 43 #[.agg (lC c).toArray, .int .i64 k] w fun e w' => e = .returned (.int .u16 (pidI L k)) ∧ Below w.heap.size w w' := portid_is c L hL hf k (by omega) (by omega) w hp
theorem telling_new (c : Cf) (A : Option Addr) (n cap : Nat) (w : World) :
    Calls Tryz.prog 44 #[.agg (lT (newT c) A n cap).toArray] w fun e w' => e = .returned (.agg #[.int .u64 (idI c), .int .u32 0, .int .u64 (idI c), .int .u16 0]) ∧ Below w.heap.size w w' := telling_is (newT c) A n cap w
theorem pnew_row (i k : Int) (on : Bool) (o : Int) (w : World) :
    Calls Tryz.prog 42 #[.int .u16 i, .int .u32 k, .bool on, .agg #[.int .u64 o, .int .u32 0, .int .u64 o, .int .u16 0]] w fun e w' => e = .returned (.agg (lP ⟨i, if on then 1 else 0, k, o, 0, o, i, false, false, false, 0, false, 0, false, 0⟩).toArray) ∧ Below w.heap.size w w' := new_is i k on ⟨o, 0, o, 0⟩ (if on then 1 else 0) (Lib.hid rfl) w

set_option maxRecDepth 100000 in
set_option maxHeartbeats 1000000 in
theorem tnew_is (c : Cf) (L : List PV) (hL : Hid (L.length = c.n)) (hf : Hid (c.n ≤ 4)) (hb : Hid (CB c)) (w : World) (hp : Hid (PortsIn w c.A w.heap.size L)) :
    Calls Tryz.prog 14 #[.agg (lC c).toArray] w (TOut w (newT c) c.n (newL c L)) := by
  obtain ⟨wb, hwb, S⟩ := hs_two w 58 31 (lC c) [.int .u64 0, .int .u64 0, .int .u32 0, .int .i64 0, .int .i64 0, .int .i64 0, .int .i64 0, .int .i64 0, .int .i64 0, .int .i64 0, .bool false, .bool false, .bool false, .int .i64 0, .bool false, .int .i64 0, .bool false, .int .i64 0, .slice none 0 0]
  go_enter Tryz.func14, Tryz.ntmps14
  go_upto_region 1 with fail
  clear hwb
  obtain ⟨X, hX⟩ : ∃ X, w.heap.size = X := ⟨_, rfl⟩
  rw [hX] at S
  obtain ⟨Y, hY⟩ : ∃ Y, X + 1 = Y := ⟨_, rfl⟩
  rw [hY] at S
  rw [hX]
  rw [hY]
  clear hX hY
  have HI := fun W => Lib.hid (id_row c hb.out W)
  have hx := S.bk 1 rfl
  go_wp2_with (with_reducible refine wpList_load_row rfl 58 (.tmp 1) rfl X (by kernel_rfl) _ _ (0, 0) _ hx Tryz.underlying58 rfl (by kernel_rfl) ?_)
  (with_reducible refine (HI _).out.mono ?_); rintro e w1 ⟨rfl, b1⟩
  have S1 := S.below b1
  clear S hx HI b1
  go_upto_region 2 with fail
  have c2 := S1.cell 1 2 rfl rfl
  have c3 := S1.cell 1 3 rfl rfl
  have c4 := S1.cell 1 4 rfl rfl
  have HO : ∀ s W, -9223372036854775808 ≤ s ∧ s ≤ 9223372036854775807 → Hid (Calls Tryz.prog 40 #[.int .i64 s] W fun e w' => e = .returned (.int .i64 (ofI s)) ∧ W = w') := fun s W h => Lib.hid (of_any s h.1 h.2 W)
  have H1 := fun W => HO c.ma W hb.out.2.2.1
  have H2 := fun W => HO c.he W hb.out.2.2.2.1
  have H3 := fun W => HO c.de W hb.out.2.2.2.2.1
  clear HO
  have K1 := fun o => Lib.hid (And.intro ((S1.below (new_below w1 o)).drew.cell 1 2 rfl rfl) (And.intro ((S1.below (new_below w1 o)).drew.cell 1 3 rfl rfl) ((S1.below (new_below w1 o)).drew.cell 1 4 rfl rfl)))
  go_cut [4] (fun q wx => ∃ V, q = .pointer (some ⟨V, 0, none⟩) ∧ Hs w [(V, 26, [.int .i64 (ofI c.ma), .int .i64 (ofI c.he), .int .i64 (ofI c.de)]), (Y, 31, [.int .u64 0, .int .u64 0, .int .u32 0, .int .i64 0, .int .i64 0, .int .i64 0, .int .i64 0, .int .i64 0, .int .i64 0, .int .i64 0, .bool false, .bool false, .bool false, .int .i64 0, .bool false, .int .i64 0, .bool false, .int .i64 0, .slice none 0 0]), (X, 58, lC c)] wx)
  case first =>
    go_region_held3 (fun w' => w'.cell? ⟨X, 2, none⟩ = some (.int .i64 c.ma) ∧ w'.cell? ⟨X, 3, none⟩ = some (.int .i64 c.he) ∧ w'.cell? ⟨X, 4, none⟩ = some (.int .i64 c.de)) (first | exact ⟨c2, c3, c4⟩ | with_reducible exact (K1 _).out | assumption) (first | (go_at_call 40; (with_reducible refine (H1 _).out.mono ?_); rintro e w5 ⟨rfl, rfl⟩) | (go_at_call 40; (with_reducible refine (H2 _).out.mono ?_); rintro e w5 ⟨rfl, rfl⟩) | (go_at_call 40; (with_reducible refine (H3 _).out.mono ?_); rintro e w5 ⟨rfl, rfl⟩))
    all_goals go_wp2_with fail
    all_goals go_meet
    all_goals exact ⟨_, rfl, (S1.al rfl 26 [.int .i64 (ofI c.ma), .int .i64 (ofI c.he), .int .i64 (ofI c.de)]).drew⟩
  case rest =>
    clear S1 c2 c3 c4 H1 H2 H3 K1
    obtain ⟨V, rfl, S2⟩ := hcut
    go_upto_region 3 with fail
    have HS := fun W => Lib.hid (stop_is W)
    have hn4 := hf.out
    have HMK := fun W => Lib.hid (make_ports c.n (by omega) W)
    refine wp_region_held_drew (S := (fun w' => Below wc.heap.size wc w')) (by kernel_rfl) ((Below.refl _ _).drew) (fun hHeld => ?_)
    refine wpAnyH_take (i := 0) (v := ?_) rfl (by kernel_rfl) (by kernel_rfl) (by kernel_rfl) (fun _ _ _ h => h) (Or.inl ⟨by kernel_rfl, ?_⟩) (by assumption) ?_
    rotate_left
    · intro w' hSw; (try dsimp only at hSw); go_simp; with_reducible rfl
    try simp only [Act.put, List.setIfInBounds_toArray, List.set_cons_succ]
    refine wpAnyH_take (i := 1) (v := ?_) rfl (by kernel_rfl) (by kernel_rfl) (by kernel_rfl) (fun _ _ _ h => h) (Or.inl ⟨by kernel_rfl, ?_⟩) (by assumption) ?_
    rotate_left
    · intro w' hSw; (try dsimp only at hSw); go_simp; with_reducible rfl
    try simp only [Act.put, List.setIfInBounds_toArray, List.set_cons_succ]
    refine wpAnyH_take (i := 2) (v := _) rfl (by kernel_rfl) (by kernel_rfl) (by kernel_rfl) (fun _ _ _ h => h) (Or.inl ⟨by kernel_rfl, fun w' hSw => exec_load_row 26 _ rfl V (by kernel_rfl) _ _ (0, 0) _ (((S2.below hSw).bk 0 rfl)) Tryz.underlying26 rfl (by kernel_rfl)⟩) (by assumption) ?_
    try simp only [Act.put, List.setIfInBounds_toArray, List.set_cons_succ]
    refine wpAnyH_take (i := 3) (v := _) rfl (by kernel_rfl) (by kernel_rfl) (by kernel_rfl) (fun _ _ _ h => h) (Or.inl ⟨by kernel_rfl, fun w' hSw => exec_load_row 26 _ rfl V (by kernel_rfl) _ _ (0, 0) _ (((S2.below hSw).bk 0 rfl)) Tryz.underlying26 rfl (by kernel_rfl)⟩) (by assumption) ?_
    try simp only [Act.put, List.setIfInBounds_toArray, List.set_cons_succ]
    refine wpAnyH_take (i := 7) (v := ?_) rfl (by kernel_rfl) (by kernel_rfl) (by kernel_rfl) (fun _ _ _ h => h) (Or.inl ⟨by kernel_rfl, ?_⟩) (by assumption) ?_
    rotate_left
    · intro w' hSw; (try dsimp only at hSw); go_simp; with_reducible rfl
    try simp only [Act.put, List.setIfInBounds_toArray, List.set_cons_succ]
    refine wpAnyH_take (i := 8) (v := ?_) rfl (by kernel_rfl) (by kernel_rfl) (by kernel_rfl) (fun _ _ _ h => h) (Or.inl ⟨by kernel_rfl, ?_⟩) (by assumption) ?_
    rotate_left
    · intro w' hSw; (try dsimp only at hSw); have c0 := (S2.below hSw).cell 2 7 rfl rfl; go_simp; with_reducible rfl
    try simp only [Act.put, List.setIfInBounds_toArray, List.set_cons_succ]
    refine wpAnyH_take (i := 9) (v := ?_) rfl (by kernel_rfl) (by kernel_rfl) (by kernel_rfl) (fun _ _ _ h => h) (Or.inl ⟨by kernel_rfl, ?_⟩) (by assumption) ?_
    rotate_left
    · intro w' hSw; (try dsimp only at hSw); go_simp; with_reducible rfl
    try simp only [Act.put, List.setIfInBounds_toArray, List.set_cons_succ]
    refine wpAnyH_by6 24 25 26 30 31 5 (fun f z1 z2 z3 z4 z5 z6 w' => ValF f 4 (.agg ([.bool false, .int .i64 0] : List Value).toArray) z1 ∧ ValF f 5 (.agg ([.bool false, .int .i64 0] : List Value).toArray) z2 ∧ ValF f 6 (.agg ([.bool false, .int .i64 0] : List Value).toArray) z3 ∧ MkF f 10 wc.heap.size c.n (cellsOf lP (List.replicate c.n zeroP)) w' z4 ∧ (f 11 = true → ∃ g, z4 = .slice (some ⟨g, 0, none⟩) c.n c.n ∧ z5 = .agg (lT (newT c) (some ⟨g, 0, none⟩) c.n c.n).toArray) ∧ BoxF f 12 13 31 19 wc.heap.size w' z6 z5 ∧ (∀ s ∈ ([13] : List Nat), f s = true → ∀ c ∈ ([4, 5, 6, 10, 11, 12] : List Nat), f c = true) ∧ (f 11 = true → f 10 = true)) (by kernel_rfl) [4, 5, 6, 10, 11, 12, 13] (by kernel_rfl) (by kernel_rfl) (by kernel_rfl) (by kernel_rfl) hHeld ⟨off_imp rfl, off_imp rfl, off_imp rfl, MkF.off rfl, off_imp rfl, BoxF.off rfl, by (intro s hs e; simp only [List.mem_cons, List.not_mem_nil, or_false] at hs; rcases hs with rfl; cases e), off_imp rfl⟩ ?_ ?_
    rotate_left
    refine StepsI.cons6 rfl (fun f z1 z2 z3 z4 z5 z6 w5 h1 h2 hS hJ => ?_) ?_
    · obtain ⟨k1, k2, k3, m, e11, b, hn, r⟩ := hJ
      intro K hK
      try simp only [puts6]
      try simp only [Act.put, List.getElem_toArray, List.getElem_cons_succ, List.getElem_cons_zero, List.setIfInBounds_toArray, List.set_cons_succ, List.set_cons_zero]
      go_simp
      (with_reducible refine (HS _).out.mono ?_); rintro e w6 ⟨rfl, b6⟩
      refine hK.out (.agg ([.bool false, .int .i64 0] : List Value).toArray) z2 z3 z4 z5 z6 _ w6 (hS.trans (b6.mono hS.size)) (by kernel_rfl) ⟨fun _ => rfl, k2.up (by decide), k3.up (by decide), (m.up (by decide)).below b6, upB_imp e11 (by decide), (b.up (by decide) (by decide)).below b6, store_up hn (by decide) h1 (by decide), fun e => by rw [upB_ne _ (by decide)] at e ⊢; exact r e⟩
    refine StepsI.cons6 rfl (fun f z1 z2 z3 z4 z5 z6 w5 h1 h2 hS hJ => ?_) ?_
    · obtain ⟨k1, k2, k3, m, e11, b, hn, r⟩ := hJ
      intro K hK
      try simp only [puts6]
      try simp only [Act.put, List.getElem_toArray, List.getElem_cons_succ, List.getElem_cons_zero, List.setIfInBounds_toArray, List.set_cons_succ, List.set_cons_zero]
      go_simp
      (with_reducible refine (HS _).out.mono ?_); rintro e w6 ⟨rfl, b6⟩
      refine hK.out z1 (.agg ([.bool false, .int .i64 0] : List Value).toArray) z3 z4 z5 z6 _ w6 (hS.trans (b6.mono hS.size)) (by kernel_rfl) ⟨k1.up (by decide), fun _ => rfl, k3.up (by decide), (m.up (by decide)).below b6, upB_imp e11 (by decide), (b.up (by decide) (by decide)).below b6, store_up hn (by decide) h1 (by decide), fun e => by rw [upB_ne _ (by decide)] at e ⊢; exact r e⟩
    refine StepsI.cons6 rfl (fun f z1 z2 z3 z4 z5 z6 w5 h1 h2 hS hJ => ?_) ?_
    · obtain ⟨k1, k2, k3, m, e11, b, hn, r⟩ := hJ
      intro K hK
      try simp only [puts6]
      try simp only [Act.put, List.getElem_toArray, List.getElem_cons_succ, List.getElem_cons_zero, List.setIfInBounds_toArray, List.set_cons_succ, List.set_cons_zero]
      go_simp
      (with_reducible refine (HS _).out.mono ?_); rintro e w6 ⟨rfl, b6⟩
      refine hK.out z1 z2 (.agg ([.bool false, .int .i64 0] : List Value).toArray) z4 z5 z6 _ w6 (hS.trans (b6.mono hS.size)) (by kernel_rfl) ⟨k1.up (by decide), k2.up (by decide), fun _ => rfl, (m.up (by decide)).below b6, upB_imp e11 (by decide), (b.up (by decide) (by decide)).below b6, store_up hn (by decide) h1 (by decide), fun e => by rw [upB_ne _ (by decide)] at e ⊢; exact r e⟩
    refine StepsI.cons6 rfl (fun f z1 z2 z3 z4 z5 z6 w5 h1 h2 hS hJ => ?_) ?_
    · obtain ⟨k1, k2, k3, m, e11, b, hn, r⟩ := hJ
      intro K hK
      have hmk := (HMK w5).out
      try simp only [puts6]
      try simp only [Act.put, List.getElem_toArray, List.getElem_cons_succ, List.getElem_cons_zero, List.setIfInBounds_toArray, List.set_cons_succ, List.set_cons_zero]
      go_simp
      have b6 := new_below w5 (.cells (cellsOf lP (List.replicate c.n zeroP)).toArray 63)
      have h11 : f 11 = false := by
        cases q : f 11 with
        | false => rfl
        | true => rw [r q] at h1; cases h1
      refine hK.out z1 z2 z3 (.slice (some ⟨w5.heap.size, 0, none⟩) c.n c.n) z5 z6 _ _ (hS.trans (b6.mono hS.size)) (by kernel_rfl) ⟨k1.up (by decide), k2.up (by decide), k3.up (by decide), MkF.new hS.size, fun e => by (rw [upB_ne _ (by decide), h11] at e; cases e), (b.up (by decide) (by decide)).below b6, store_up hn (by decide) h1 (by decide), fun e => upB_self _ _⟩
    refine StepsI.cons6 rfl (fun f z1 z2 z3 z4 z5 z6 w5 h1 h2 hS hJ => ?_) ?_
    · obtain ⟨k1, k2, k3, m, e11, b, hn, r⟩ := hJ
      have i1 := k1 (after_at h2 4 (by kernel_rfl))
      have i2 := k2 (after_at h2 5 (by kernel_rfl))
      have i3 := k3 (after_at h2 6 (by kernel_rfl))
      have i10 := after_at h2 10 (by kernel_rfl)
      obtain ⟨g, hg, -⟩ := m i10
      subst i1 i2 i3 hg
      intro K hK
      try simp only [puts6]
      try simp only [Act.put, List.getElem_toArray, List.getElem_cons_succ, List.getElem_cons_zero, List.setIfInBounds_toArray, List.set_cons_succ, List.set_cons_zero]
      go_simp
      refine hK.out (.agg ([.bool false, .int .i64 0] : List Value).toArray) (.agg ([.bool false, .int .i64 0] : List Value).toArray) (.agg ([.bool false, .int .i64 0] : List Value).toArray) (.slice (some ⟨g, 0, none⟩) c.n c.n) (.agg (lT (newT c) (some ⟨g, 0, none⟩) c.n c.n).toArray) z6 _ w5 hS (by kernel_rfl) ⟨fun _ => rfl, fun _ => rfl, fun _ => rfl, m.up (by decide), fun _ => ⟨g, rfl, rfl⟩, BoxF.val (b.up (by decide) (by decide)) (by rw [upB_ne _ (by decide)]; exact no_store hn (by decide) h1 13 (by decide)), store_up hn (by decide) h1 (by decide), fun _ => by rw [upB_ne _ (by decide)]; exact i10⟩
    refine StepsI.cons6 rfl (fun f z1 z2 z3 z4 z5 z6 w5 h1 h2 hS hJ => ?_) ?_
    · obtain ⟨k1, k2, k3, m, e11, b, hn, r⟩ := hJ
      intro K hK
      try simp only [puts6]
      try simp only [Act.put, List.getElem_toArray, List.getElem_cons_succ, List.getElem_cons_zero, List.setIfInBounds_toArray, List.set_cons_succ, List.set_cons_zero]
      go_simp
      have b6 := new_below w5 (.cells ([.int .u64 0, .int .u64 0, .int .u32 0, .int .i64 0, .int .i64 0, .int .i64 0, .int .i64 0, .int .i64 0, .int .i64 0, .int .i64 0, .bool false, .bool false, .bool false, .int .i64 0, .bool false, .int .i64 0, .bool false, .int .i64 0, .slice none 0 0] : List Value).toArray 31)
      refine hK.out z1 z2 z3 z4 z5 (.pointer (some ⟨w5.heap.size, 0, none⟩)) _ (w5.alloc (.cells ([.int .u64 0, .int .u64 0, .int .u32 0, .int .i64 0, .int .i64 0, .int .i64 0, .int .i64 0, .int .i64 0, .int .i64 0, .int .i64 0, .bool false, .bool false, .bool false, .int .i64 0, .bool false, .int .i64 0, .bool false, .int .i64 0, .slice none 0 0] : List Value).toArray 31)) (hS.trans (b6.mono hS.size)) (by kernel_rfl) ⟨k1.up (by decide), k2.up (by decide), k3.up (by decide), (m.up (by decide)).below b6, upB_imp e11 (by decide), BoxF.new (j := 12) (s := 13) (no_store hn (by decide) h1 13 (by decide)) (by decide) hS.size [.int .u64 0, .int .u64 0, .int .u32 0, .int .i64 0, .int .i64 0, .int .i64 0, .int .i64 0, .int .i64 0, .int .i64 0, .int .i64 0, .bool false, .bool false, .bool false, .int .i64 0, .bool false, .int .i64 0, .bool false, .int .i64 0, .slice none 0 0] rfl, store_up hn (by decide) h1 (by decide), fun e => by rw [upB_ne _ (by decide)] at e ⊢; exact r e⟩
    refine StepsI.store6 rfl 31 (.tmp 5) (.tmp 31) (by kernel_rfl) (by kernel_rfl) (by kernel_rfl) (fun f z1 z2 z3 z4 z5 z6 w5 h1 h2 hS hJ => ?_) ?_
    · obtain ⟨k1, k2, k3, m, e11, b, hn, r⟩ := hJ
      have i11 := after_at h2 11 (by kernel_rfl)
      have i12 := after_at h2 12 (by kernel_rfl)
      obtain ⟨g, hg, hz⟩ := e11 i11
      obtain ⟨G, cs, hG, hG1, hG2, hG3, -⟩ := b i12
      subst hg hz hG
      have hall : ∀ c ∈ ([4, 5, 6, 10, 11, 12] : List Nat), f c = true := by
        intro c hc
        simp only [List.mem_cons, List.not_mem_nil, or_false] at hc
        rcases hc with rfl | rfl | rfl | rfl | rfl | rfl
        · exact after_at h2 4 (by kernel_rfl)
        · exact after_at h2 5 (by kernel_rfl)
        · exact after_at h2 6 (by kernel_rfl)
        · exact after_at h2 10 (by kernel_rfl)
        · exact i11
        · exact i12
      refine ⟨G, lT (newT c) (some ⟨g, 0, none⟩) c.n c.n, cs, by kernel_rfl, by kernel_rfl, hG2, hG3.trans rfl, by kernel_rfl, by kernel_rfl, below_setRow hS hG1 _, ?_⟩
      exact ⟨k1.up (by decide), k2.up (by decide), k3.up (by decide), (m.up (by decide)).row hG2, upB_imp e11 (by decide), BoxF.fill hG1 hG2 rfl rfl, store_at hall (by decide), fun e => by rw [upB_ne _ (by decide)] at e ⊢; exact r e⟩
    exact StepsI.nil
    intro f z1 z2 z3 z4 z5 z6 w5 hall hS hJ
    obtain ⟨k1, k2, k3, m, e11, b, -, -⟩ := hJ
    have i1 := k1 (hall 4 (Nat.le_of_ble_eq_true (by kernel_rfl)))
    have i2 := k2 (hall 5 (Nat.le_of_ble_eq_true (by kernel_rfl)))
    have i3 := k3 (hall 6 (Nat.le_of_ble_eq_true (by kernel_rfl)))
    obtain ⟨g, hg, hz⟩ := e11 (hall 11 (Nat.le_of_ble_eq_true (by kernel_rfl)))
    obtain ⟨g', hg', hgB, hgk⟩ := m (hall 10 (Nat.le_of_ble_eq_true (by kernel_rfl)))
    obtain ⟨G, cs, hG, hG1, hG2, hG3, hG4⟩ := b (hall 12 (Nat.le_of_ble_eq_true (by kernel_rfl)))
    have hG4 := hG4 (hall 13 (Nat.le_of_ble_eq_true (by kernel_rfl)))
    rw [hz] at hG4
    have hcs : cs = lT (newT c) (some ⟨g, 0, none⟩) c.n c.n := by injection hG4 with q; injection q with q; exact q.symm
    obtain rfl : g = g' := by rw [hg] at hg'; injection hg' with q; injection q with q; injection q
    subst i1 i2 i3 hcs hG hz hg
    have T1 : TS w ([(G, 31, lT (newT c) (some ⟨g, 0, none⟩) c.n c.n)] ++ _) (some ⟨g, 0, none⟩) (List.replicate c.n zeroP) w5 := TS.join S2 ⟨hs_box hS hG2 hG1, .inr ⟨g, [], rfl, hs_box2 hS hG2 hG1 (by rw [List.append_nil]; exact hgk) hgB (bk_ne hG2 hgk (by decide))⟩⟩
    clear k1 k2 k3 m e11 b hall hS hg' hgB hgk hG1 hG2 hG3 hG4 hHeld S2 HS HMK
    simp only [puts6, Act.put, List.getElem_toArray, List.getElem_cons_succ, List.getElem_cons_zero, List.setIfInBounds_toArray, List.set_cons_succ, List.set_cons_zero]
    simp only [List.cons_append, List.nil_append] at T1
    have x7 := T1.hs.cell 3 7 rfl rfl
    go_wp2
    clear x7
    go_loopw [35] (fun i wr => ∃ k : Nat, k ≤ c.n ∧ i = .int .i64 k ∧ TS w [(G, 31, lT (newT c) (some ⟨g, 0, none⟩) c.n c.n), (V, 26, [.int .i64 (ofI c.ma), .int .i64 (ofI c.he), .int .i64 (ofI c.de)]), (Y, 31, [.int .u64 0, .int .u64 0, .int .u32 0, .int .i64 0, .int .i64 0, .int .i64 0, .int .i64 0, .int .i64 0, .int .i64 0, .int .i64 0, .bool false, .bool false, .bool false, .int .i64 0, .bool false, .int .i64 0, .bool false, .int .i64 0, .slice none 0 0]), (X, 58, lC c)] (some ⟨g, 0, none⟩) (mixL (newAt c L) k (List.replicate c.n zeroP)) wr) (fun i _ => c.n - (intOf i).toNat)
    case atStart => exact ⟨0, Nat.zero_le _, rfl, by rw [mixL_zero]; exact T1⟩
    case round =>
      clear T1
      obtain ⟨k, hk, rfl, S⟩ := hrel
      by_cases hkn : k < c.n
      · obtain ⟨x, hx⟩ := pv_at hL.out hkn
        have hki : (k : Int) < (c.n : Int) := by omega
        have hkz : ¬ (c.n : Int) ≤ (k : Int) := by omega
        have HX := Lib.hid hx
        have HM := Lib.hid (mixL_at (f := newAt c L) (show (List.replicate c.n zeroP)[k]? = some zeroP by rw [List.getElem?_replicate, if_pos hkn]))
        obtain ⟨ad, hA, -, ⟨y0, y1, y2⟩, -⟩ := port_cells (hp.out.below S.old (Nat.le_refl _)) hx
        have hat : ∀ i v, ([.int .u8 x.pr, .int .u32 x.co, .bool x.on] : List Value)[i]? = some v → wr.cell? ((ad.add (k * 3)).add i) = some v := by
          intro i v hv
          match i, hv with
          | 0, hv => cases hv; simpa [Addr.add] using y0
          | 1, hv => cases hv; exact y1
          | 2, hv => cases hv; exact y2
        have hidx : ∀ W : World, (Instr.indexAt 56 (.slice c.A c.n c.cap) (.int .i64 (k : Int))).run Tryz.prog W = .ok (.pointer (some (ad.add (k * 3)))) W := by
          intro W
          rw [hA]
          go_simp
        clear hx y0 y1 y2 hA
        go_upto_region 7 with (first | (with_reducible refine wpList_load_at rfl 55 (.tmp 38) rfl (ad.add (k * 3)) (by kernel_rfl) _ _ hat Tryz.underlying55 rfl (by kernel_rfl) ?_) | (refine wpList_store_row rfl 55 _ _ rfl _ _ rfl rfl _ _ (heap_alloc_new _ _) (by kernel_rfl) (by kernel_rfl) (by kernel_rfl) ?_))
        rw [alloc_row]
        have T1 := S.al rfl 55 [.int .u8 x.pr, .int .u32 x.co, .bool x.on]
        obtain ⟨Z, hZ⟩ : ∃ Z, wr.heap.size = Z := ⟨_, rfl⟩
        rw [hZ] at T1 ⊢
        generalize wr.alloc (.cells ([.int .u8 x.pr, .int .u32 x.co, .bool x.on] : List Value).toArray 55) = v1 at T1 ⊢
        clear S hat hZ hidx
        have hPB : PB x := by
          obtain ⟨_, _, _, _, h⟩ := port_cells hp.out HX.out
          exact h
        have hn4 := hf.out
        have HPI := fun W (h : Below w.heap.size w W) => Lib.hid (portid_row c L hL.out (by omega) k (by omega) W ((hp.out.below h (Nat.le_refl _)).wide h.size))
        have HTL := fun W => Lib.hid (telling_new c (some ⟨g, 0, none⟩) c.n c.n W)
        have HNW := fun W => Lib.hid (pnew_row (pidI L k) x.co x.on (idI c) W)
        clear hn4
        refine wp_region_held_drew (S := (fun w' => ∃ M, M.length = c.n ∧ TS w [(Z, 55, [.int .u8 x.pr, .int .u32 x.co, .bool x.on]), (G, 31, lT (newT c) (some ⟨g, 0, none⟩) c.n c.n), (V, 26, [.int .i64 (ofI c.ma), .int .i64 (ofI c.he), .int .i64 (ofI c.de)]), (Y, 31, [.int .u64 0, .int .u64 0, .int .u32 0, .int .i64 0, .int .i64 0, .int .i64 0, .int .i64 0, .int .i64 0, .int .i64 0, .int .i64 0, .bool false, .bool false, .bool false, .int .i64 0, .bool false, .int .i64 0, .bool false, .int .i64 0, .slice none 0 0]), (X, 58, lC c)] (some ⟨g, 0, none⟩) M w')) (by kernel_rfl) ⟨_, (mixL_len _ _ _).trans List.length_replicate, T1.below (wy := World.drew _) ((Below.refl _ _).drew)⟩ (fun hHeld => ?_)
        refine wpAnyH_take (i := 0) (v := ?_) rfl (by kernel_rfl) (by kernel_rfl) (by kernel_rfl) (fun _ _ _ h => h) (Or.inl ⟨by kernel_rfl, ?_⟩) (by assumption) ?_
        rotate_left
        · intro w' hSw; (try dsimp only at hSw); go_simp; with_reducible rfl
        try simp only [Act.put, List.setIfInBounds_toArray, List.set_cons_succ]
        refine wpAnyH_take (i := 1) (v := ?_) rfl (by kernel_rfl) (by kernel_rfl) (by kernel_rfl) (fun _ _ _ h => h) (Or.inl ⟨by kernel_rfl, ?_⟩) (by assumption) ?_
        rotate_left
        · intro w' hSw; (try dsimp only at hSw); have c0 := hSw.choose_spec.2.hs.cell 1 18 rfl rfl; go_simp; with_reducible rfl
        try simp only [Act.put, List.setIfInBounds_toArray, List.set_cons_succ]
        refine wpAnyH_take (i := 2) (v := ?_) rfl (by kernel_rfl) (by kernel_rfl) (by kernel_rfl) (fun _ _ _ h => h) (Or.inl ⟨by kernel_rfl, ?_⟩) (by assumption) ?_
        rotate_left
        · intro w' hSw; (try dsimp only at hSw); go_simp; with_reducible rfl
        try simp only [Act.put, List.setIfInBounds_toArray, List.set_cons_succ]
        refine wpAnyH_take (i := 3) (v := _) rfl (by kernel_rfl) (by kernel_rfl) (by kernel_rfl) (fun _ _ _ h => h) (Or.inl ⟨by kernel_rfl, fun w' hSw => exec_load_row 58 _ rfl X (by kernel_rfl) _ _ (0, 0) _ ((hSw.choose_spec.2.hs.bk 4 rfl)) Tryz.underlying58 rfl (by kernel_rfl)⟩) (by assumption) ?_
        try simp only [Act.put, List.setIfInBounds_toArray, List.set_cons_succ]
        refine wpAnyH_take (i := 4) (v := ?_) rfl (by kernel_rfl) (by kernel_rfl) (by kernel_rfl) (fun _ _ _ h => h) (Or.inl ⟨by kernel_rfl, ?_⟩) (by assumption) ?_
        rotate_left
        · intro w' hSw; (try dsimp only at hSw); go_simp; with_reducible rfl
        try simp only [Act.put, List.setIfInBounds_toArray, List.set_cons_succ]
        refine wpAnyH_take (i := 6) (v := ?_) rfl (by kernel_rfl) (by kernel_rfl) (by kernel_rfl) (fun _ _ _ h => h) (Or.inl ⟨by kernel_rfl, ?_⟩) (by assumption) ?_
        rotate_left
        · intro w' hSw; (try dsimp only at hSw); go_simp; with_reducible rfl
        try simp only [Act.put, List.setIfInBounds_toArray, List.set_cons_succ]
        refine wpAnyH_take (i := 7) (v := ?_) rfl (by kernel_rfl) (by kernel_rfl) (by kernel_rfl) (fun _ _ _ h => h) (Or.inl ⟨by kernel_rfl, ?_⟩) (by assumption) ?_
        rotate_left
        · intro w' hSw; (try dsimp only at hSw); have c0 := hSw.choose_spec.2.hs.cell 0 1 rfl rfl; go_simp; with_reducible rfl
        try simp only [Act.put, List.setIfInBounds_toArray, List.set_cons_succ]
        refine wpAnyH_take (i := 8) (v := ?_) rfl (by kernel_rfl) (by kernel_rfl) (by kernel_rfl) (fun _ _ _ h => h) (Or.inl ⟨by kernel_rfl, ?_⟩) (by assumption) ?_
        rotate_left
        · intro w' hSw; (try dsimp only at hSw); go_simp; with_reducible rfl
        try simp only [Act.put, List.setIfInBounds_toArray, List.set_cons_succ]
        refine wpAnyH_take (i := 9) (v := ?_) rfl (by kernel_rfl) (by kernel_rfl) (by kernel_rfl) (fun _ _ _ h => h) (Or.inl ⟨by kernel_rfl, ?_⟩) (by assumption) ?_
        rotate_left
        · intro w' hSw; (try dsimp only at hSw); have c0 := hSw.choose_spec.2.hs.cell 0 2 rfl rfl; go_simp; with_reducible rfl
        try simp only [Act.put, List.setIfInBounds_toArray, List.set_cons_succ]
        refine wpAnyH_take (i := 10) (v := _) rfl (by kernel_rfl) (by kernel_rfl) (by kernel_rfl) (fun _ _ _ h => h) (Or.inl ⟨by kernel_rfl, fun w' hSw => exec_load_row 31 _ rfl G (by kernel_rfl) _ _ (0, 0) _ ((hSw.choose_spec.2.hs.bk 1 rfl)) Tryz.underlying31 rfl (by kernel_rfl)⟩) (by assumption) ?_
        try simp only [Act.put, List.getElem_toArray, List.getElem_cons_succ, List.getElem_cons_zero, List.setIfInBounds_toArray, List.set_cons_succ]
        refine wpAnyH_ready (rs := [5]) (by kernel_rfl) (by simp) ?_
        refine AllReadyH.cons rfl (fun K hK => ?_) AllReadyH.nil
        go_simp
        (with_reducible refine (HPI _ T1.old.drew).out.mono ?_); rintro e v2 ⟨rfl, b2⟩
        have T2 := (T1.below (wy := World.drew _) ((Below.refl _ _).drew)).below b2
        refine hK.out _ _ (⟨_, (mixL_len _ _ _).trans List.length_replicate, T2⟩) (fun hHeld => ?_)
        clear hK K
        try simp only [Act.put, List.setIfInBounds_toArray, List.set_cons_succ]
        refine wpAnyH_ready (rs := [11]) (by kernel_rfl) (by simp) ?_
        refine AllReadyH.cons rfl (fun K hK => ?_) AllReadyH.nil
        go_simp
        (with_reducible refine (HTL _).out.mono ?_); rintro e v3 ⟨rfl, b3⟩
        have T3 := T2.below b3
        refine hK.out _ _ (⟨_, (mixL_len _ _ _).trans List.length_replicate, T3⟩) (fun hHeld => ?_)
        clear hK K
        try simp only [Act.put, List.getElem_toArray, List.getElem_cons_succ, List.getElem_cons_zero, List.setIfInBounds_toArray, List.set_cons_succ]
        refine wpAnyH_ready (rs := [12]) (by kernel_rfl) (by simp) ?_
        refine AllReadyH.cons rfl (fun K hK => ?_) AllReadyH.nil
        go_simp
        (with_reducible refine (HNW _).out.mono ?_); rintro e v4 ⟨rfl, b4⟩
        have T4 := T3.below b4
        refine hK.out _ _ (⟨_, (mixL_len _ _ _).trans List.length_replicate, T4⟩) (fun hHeld => ?_)
        clear hK K
        try simp only [Act.put, List.getElem_toArray, List.getElem_cons_succ, List.getElem_cons_zero, List.setIfInBounds_toArray, List.set_cons_succ]
        refine wpAnyH_take (i := 13) (v := ?_) rfl (by kernel_rfl) (by kernel_rfl) (by kernel_rfl) (fun _ _ _ h => h) (Or.inl ⟨by kernel_rfl, ?_⟩) (by assumption) ?_
        rotate_left
        · intro w' hSw; (try dsimp only at hSw); go_simp; with_reducible rfl
        try simp only [Act.put, List.getElem_toArray, List.getElem_cons_succ, List.getElem_cons_zero, List.setIfInBounds_toArray, List.set_cons_succ]
        refine wpAnyH_ready (rs := [14]) (by kernel_rfl) (by simp) ?_
        refine AllReadyH.cons rfl (fun K hK => ?_) AllReadyH.nil
        have hth := T4.there HM.out (newP c L k x)
        refine exec_if_store_mid (by kernel_rfl) 63 (.tmp 53) (.tmp 52) rfl g (k * 15) (lP (newP c L k x)).toArray (by kernel_rfl) (by kernel_rfl) hth (by kernel_rfl) (by kernel_rfl) ?_
        have T5 := T4.whole HM.out (newP c L k x)
        refine hK.out _ _ ⟨_, by rw [List.length_set]; exact (mixL_len _ _ _).trans List.length_replicate, T5⟩ (fun hHeld => ?_)
        clear hK K
        try simp only [Act.put, List.getElem_toArray, List.getElem_cons_succ, List.getElem_cons_zero, List.setIfInBounds_toArray, List.set_cons_succ, List.set_cons_zero]
        refine wpAnyH_done (by kernel_rfl) ?_ _
        have q := mixL_set (f := newAt c L) (show (List.replicate c.n zeroP)[k]? = some zeroP by rw [List.getElem?_replicate, if_pos hkn])
        have hna : newAt c L k zeroP = newP c L k x := by unfold newAt; rw [HX.out]
        rw [hna] at q
        rw [q] at T5
        have T6 := T5.tail
        generalize v4.setCells g (k * 15) (lP (newP c L k x)).toArray.toList = v5 at T6 ⊢
        clear T1 T2 T3 T4 T5 b2 b3 b4 hth q hna hHeld HPI HTL HNW
        go_wp2
        go_roundw
        case rel => exact ⟨k + 1, by omega, by go_num, T6⟩
        case measure => simp [intOf]; omega
      · have hki : ¬ (k : Int) < (c.n : Int) := by omega
        have hke : k = c.n := by omega
        have e3 : mixL (newAt c L) k (List.replicate c.n zeroP) = newL c L := by
          rw [mixL_all (by rw [List.length_replicate]; omega)]
          apply List.ext_getElem?
          intro j
          rw [allL_get, newL, List.getElem?_mapIdx, List.getElem?_replicate]
          by_cases hj : j < c.n
          · obtain ⟨y, hy⟩ := pv_at hL.out hj
            rw [if_pos hj, hy]
            simp only [Option.map_some, newAt, hy]
          · rw [if_neg hj, List.getElem?_eq_none (by rw [hL.out]; omega)]
            rfl
        rw [e3] at S
        have hx := S.hs.bk 0 rfl
        have hy := S.hs.bk 2 rfl
        go_wp2_with (first | (refine wpList_load_row rfl 31 _ rfl G rfl _ _ (0, 0) _ hx Tryz.underlying31 rfl (by kernel_rfl) ?_) | (refine wpList_store_row rfl 31 _ _ rfl Y _ rfl rfl _ _ hy (by kernel_rfl) (by kernel_rfl) (by kernel_rfl) ?_))
        exact bodyPost_ret (v := .agg (lT (newT c) (some ⟨g, 0, none⟩) c.n c.n).toArray) (results_cell_row rfl _ _ Y _ _ _ _ rfl (setRow_heap _ _ _ _ _ _ hy) Tryz.underlying31 rfl (by kernel_rfl)) rfl ⟨some ⟨g, 0, none⟩, c.n, rfl, (fun e => by cases e), (S.row 2 rfl (lT (newT c) (some ⟨g, 0, none⟩) c.n c.n)).nobox⟩

end Go.Proofs.YtnmnihlhcokjpaaGreatDoor
