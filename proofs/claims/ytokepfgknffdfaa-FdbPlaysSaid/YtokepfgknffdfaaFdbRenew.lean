/- renew of a bridge's table: each entry becomes what the closure says, or goes. -/
import Derived.Test.YtokepfgknffdfaaFdbSeq
import Derived.Test.YtokepfgknffdfaaFdbNext
import Derived.Deep.DeepCutAuto
import Derived.Sort.CutIn
import Derived.IntWalk
import Derived.Deep.RegionHeld3
namespace Go.Proofs.Ytokepfgknffdfaa
open Go.ChangeShapes Go.WideShapes Go.ChangeAt Go.RowKit Go.Shelf
set_option linter.unusedVariables false
attribute [local go_sem] Oper.semAt_some

/-- What stays of an entry. -/
def keepF (nx : Int × Int → (Int × Int) × Bool) (x : Int × (Int × Int)) : Option (Int × (Int × Int)) := if (nx x.2).2 = true then some (x.1, (nx x.2).1) else none

/-- What a table of n places holds when all of a list have been put, one behind the other. -/
def fillC (n : Nat) (l : List (Int × (Int × Int))) : List (Int × (Int × Int)) := l.foldl (fun d x => putEnd d x.1 x.2 (inC d x.1 || decide (d.length < n))) []

theorem fillC_snoc (n : Nat) (l : List (Int × (Int × Int))) (x : Int × (Int × Int)) : fillC n (l ++ [x]) = putEnd (fillC n l) x.1 x.2 (inC (fillC n l) x.1 || decide ((fillC n l).length < n)) := by
  unfold fillC; rw [List.foldl_append]; rfl

theorem fillC_perm (n : Nat) : ∀ r l : List (Int × (Int × Int)), (fillC n l).Perm l → Ap (l ++ r) → (l ++ r).length ≤ n → (fillC n (l ++ r)).Perm (l ++ r)
  | [], l, h, _, _ => by rw [List.append_nil]; exact h
  | x :: r, l, h, ha, hn => by
    have e : l ++ x :: r = (l ++ [x]) ++ r := by simp
    rw [e] at ha hn ⊢
    refine fillC_perm n r (l ++ [x]) ?_ ha hn
    have ha1 : Ap (l ++ [x]) := (List.pairwise_append.1 ha).1
    have hni : inC l x.1 = false := inC_false.2 fun v hv => (List.pairwise_append.1 ha1).2.2 _ hv x (by simp) rfl
    have hl : (fillC n l).length < n := by rw [h.length_eq]; simp at hn; omega
    rw [fillC_snoc, inC_perm h, hni, Bool.false_or, decide_eq_true hl]
    unfold putEnd putC
    rw [if_pos rfl, delC_none (by rw [inC_perm h]; exact hni)]
    exact (h.cons _).trans (List.perm_append_comm (l₁ := [x]))

theorem fillC_all (n : Nat) (l : List (Int × (Int × Int))) (ha : Ap l) (hn : l.length ≤ n) : (fillC n l).Perm l := fillC_perm n l [] (List.Perm.refl _) ha hn

theorem But.grow {f r : Nat} {w W W' : World} (h : But f w W) (hg : W.grownBy W' (some r)) (hr : w.heap.size ≤ r) : But f w W' :=
  ⟨hg.os.trans h.os, hg.tape.trans h.tape, hg.output.trans h.output, Nat.le_trans h.size hg.size, fun i hi hn => (hg.block i (Nat.lt_of_lt_of_le hi h.size) (fun e => by cases e; omega)).trans (h.block hi (fun e => hn (by rw [e])))⟩

theorem But.none {f : Nat} {w W W' : World} (h : But f w W) (hg : W.grownBy W' none) : But f w W' :=
  ⟨hg.os.trans h.os, hg.tape.trans h.tape, hg.output.trans h.output, Nat.le_trans h.size hg.size, fun i hi hn => (hg.block i (Nat.lt_of_lt_of_le hi h.size) (fun e => by cases e)).trans (h.block hi (fun e => hn (by rw [e])))⟩

theorem grown_none {W W' : World} (h : Below W.heap.size W W') : W.grownBy W' none := ⟨h.os, h.tape, h.output, h.size, fun i hi _ => h.block i hi⟩

/-- What lies there while renew goes through the old table. -/
structure Rn (w : World) (f n gN : Nat) (cb : Array Value) (h g : Nat) (d : List (Int × (Int × Int))) (W : World) : Prop where
  fd : Bk W f 55 [.pointer (some ⟨h, 0, none⟩)]
  tab : HTE W h g n d
  b2 : Bk W w.heap.size 25 [.pointer (some ⟨f, 0, none⟩)]
  b3 : Bk W (w.heap.size + 1) 59 [.func (.func gN) #[] cb]
  old : But f w W
  low : f < w.heap.size ∧ w.heap.size + 2 ≤ h ∧ w.heap.size + 2 ≤ g

theorem Rn.grow {w W W' : World} {f n gN h g : Nat} {cb : Array Value} {d : List (Int × (Int × Int))} (r : Rn w f n gN cb h g d W) {row : Option Nat} (hg : W.grownBy W' row)
    (hr : ∀ x, row = some x → w.heap.size ≤ x ∧ x ≠ w.heap.size ∧ x ≠ w.heap.size + 1 ∧ x ≠ h ∧ x ≠ g) : Rn w f n gN cb h g d W' := by
  obtain ⟨l1, l2, l3⟩ := r.low
  have hlt := r.tab.lt
  have ne : ∀ b, (b = f ∨ b = h ∨ b = g ∨ b = w.heap.size ∨ b = w.heap.size + 1) → some b ≠ row := fun b hb e => by
    obtain ⟨q1, q2, q3, q4, q5⟩ := hr b e.symm
    omega
  refine ⟨(hg.block f r.fd.lt (ne f (by simp))).trans r.fd, r.tab.keep fun b hb => hg.block b (by rcases hb with rfl | rfl <;> omega) (ne b (by rcases hb with rfl | rfl <;> simp)),
    (hg.block _ r.b2.lt (ne _ (by simp))).trans r.b2, (hg.block _ r.b3.lt (ne _ (by simp))).trans r.b3, ?_, r.low⟩
  cases row with
  | none => exact r.old.none hg
  | some x => exact r.old.grow hg (hr x rfl).1

theorem Rn.below {w W W' : World} {f n gN h g : Nat} {cb : Array Value} {d : List (Int × (Int × Int))} (r : Rn w f n gN cb h g d W) (hb : Below W.heap.size W W') : Rn w f n gN cb h g d W' :=
  r.grow (grown_none hb) (fun x e => by cases e)

theorem Rn.drew {w W : World} {f n gN h g : Nat} {cb : Array Value} {d : List (Int × (Int × Int))} (r : Rn w f n gN cb h g d W) : Rn w f n gN cb h g d W.drew :=
  r.below ((Below.refl _ _).drew)

/-- A block that is no cells may turn. -/
theorem Rn.turn {w W W' : World} {f n gN h g : Nat} {cb : Array Value} {d : List (Int × (Int × Int))} (r : Rn w f n gN cb h g d W) {row : Option Nat} (hg : W.grownBy W' row)
    (hr : ∀ x, row = some x → w.heap.size ≤ x ∧ ∃ o : Obj, W.heap[x]? = some o ∧ o.isCells = false) : Rn w f n gN cb h g d W' := by
  refine r.grow hg fun x e => ?_
  obtain ⟨h1, o, ho, hc⟩ := hr x e
  obtain ⟨l, ⟨t1, t2, _⟩, _⟩ := r.tab
  have k : ∀ b T cs, Bk W b T cs → x ≠ b := fun b T cs hb e => by
    subst e
    unfold Bk at hb
    rw [hb] at ho
    cases ho
    cases hc
  exact ⟨h1, k _ _ _ r.b2, k _ _ _ r.b3, k _ _ _ t1, k _ _ _ t2⟩

theorem Rn.put {w W W' : World} {f n gN h g : Nat} {cb : Array Value} {d d' : List (Int × (Int × Int))} (r : Rn w f n gN cb h g d W) (t : HTE W' h g n d') (hb : But g W W') : Rn w f n gN cb h g d' W' := by
  obtain ⟨l1, l2, l3⟩ := r.low
  exact ⟨(hb.block r.fd.lt (by omega)).trans r.fd, t, (hb.block r.b2.lt (by omega)).trans r.b2, (hb.block r.b3.lt (by omega)).trans r.b3, r.old.grow hb (by omega), r.low⟩

theorem keep_ap {nx : Int × Int → (Int × Int) × Bool} {c : List (Int × (Int × Int))} (h : Ap c) : Ap (c.filterMap (keepF nx)) := by
  unfold Ap at h ⊢
  rw [List.pairwise_filterMap]
  refine h.imp fun {x y} hxy b hb b' hb' => ?_
  unfold keepF at hb hb'
  split at hb
  · split at hb'
    · cases hb; cases hb'; exact hxy
    · cases hb'
  · cases hb

theorem keep_some {nx : Int × Int → (Int × Int) × Bool} {x : Int × (Int × Int)} {r : Int × Int} (h : nx x.2 = (r, true)) : keepF nx x = some (x.1, r) := by unfold keepF; rw [h]; rfl
theorem keep_none {nx : Int × Int → (Int × Int) × Bool} {x : Int × (Int × Int)} {r : Int × Int} (h : nx x.2 = (r, false)) : keepF nx x = none := by unfold keepF; rw [h]; rfl

theorem HTE.bd {w : World} {h g n : Nat} {c : List (Int × (Int × Int))} (t : HTE w h g n c) : ∀ x ∈ c, 0 ≤ x.1 ∧ x.1 ≤ 18446744073709551615 := fun x hx => by
  obtain ⟨l, _, o, _, p⟩ := t
  obtain ⟨a, v⟩ := x
  obtain ⟨i, hi⟩ := mem_conts.1 (p.mem_iff.2 hx)
  exact o.2 _ (List.mem_of_getElem? hi)

/-- What has come so far, and stays. -/
def kept {c : List (Int × (Int × Int))} (nx : Int × Int → (Int × Int) × Bool) (pre : List (In c)) : List (Int × (Int × Int)) := (pre.map (·.1)).filterMap (keepF nx)

theorem kept_snoc {c : List (Int × (Int × Int))} (nx : Int × Int → (Int × Int) × Bool) (pre : List (In c)) (x : In c) : kept nx (pre ++ [x]) = kept nx pre ++ (keepF nx x.1).toList := by
  unfold kept
  rw [List.map_append, List.filterMap_append]
  show _ ++ [x.1].filterMap (keepF nx) = _
  rw [List.filterMap_cons]
  cases keepF nx x.1 <;> rfl

theorem keepsFrom_of {B g : Nat} {W W' : World} (h : W.grownBy W' (some g)) (hg : g < B) : KeepsFrom B W W' := KeepsFrom.of_grownBy h (fun j e => by cases e; exact hg)
theorem keepsFrom_below {B : Nat} {W W' : World} (h : Below W.heap.size W W') : KeepsFrom B W W' := KeepsFrom.of_grownBy (grown_none h) (fun j e => by cases e)

/-- What the variable of the loop lies in. -/
def BoxX (B w0 : Nat) (x : Int × (Int × Int)) (a0 : Act) (F : Nat → Array Value) (a' : Act) (W : World) : Prop :=
  ∃ Bx, B ≤ Bx ∧ Bk W Bx w0 [.int .i64 x.2.1, .int .i64 x.2.2] ∧ a' = { tmps := F Bx, defers := [] }

theorem rn_round {w W W2 W3 : World} {f n gN h g B : Nat} {cb : Array Value} {d d' : List (Int × (Int × Int))} (hI : Rn w f n gN cb h g d W2) (hb : Below W.heap.size W W2) (t : HTE W3 h g n d') (b : But g W2.drew W3) (hg : g < B) :
    KeepsFrom B W W3 ∧ KeepC B W W3 ∧ Rn w f n gN cb h g d' W3 := by
  have b' : But g W2 W3 := ⟨b.os, b.tape, b.output, b.size, fun i hi hn => World.grownBy.block b i hi hn⟩
  exact ⟨(keepsFrom_below hb).trans (keepsFrom_of b' hg), keepC_t (keepC_below hb) (keepC_of b' hg), hI.put t b'⟩

/-- What renew leaves. -/
def RenewEnd (w : World) (f n : Nat) (c : List (Int × (Int × Int))) (nx : Int × Int → (Int × Int) × Bool) (e : Ending) (w' : World) : Prop :=
  ∃ h g, e = .returned (.int .i64 ((c.length : Int) - ((c.filterMap (keepF nx)).length : Nat))) ∧ FT w' f h g n (c.filterMap (keepF nx)) ∧ (w.heap.size ≤ h ∧ w.heap.size ≤ g) ∧ But f w w'

/-- .. as it begins. -/
def RnS (w : World) (f n gN : Nat) (cb : Array Value) (W : World) : Prop := ∃ h g, Rn w f n gN cb h g [] W

theorem renew_end {w W : World} {f n gN h g D m mc : Nat} {cb : Array Value} {c d : List (Int × (Int × Int))} {nx : Int × Int → (Int × Int) × Bool} (A : Act) (r : Rn w f n gN cb h g d W) (hp : d.Perm (c.filterMap (keepF nx))) (hD : w.heap.size ≤ D)
    (hK : W.heap[D]? = some (.deferred (some []))) (hdef : A.defers = [{ target := .collected D, args := #[] }]) (hv : A.tmps.getD 4 undef = .int .i64 (IntKind.i64.wrap ((mc : Int) - (m : Int)))) (hm : (c.filterMap (keepF nx)).length = m) (hmc : c.length = mc) (h64 : mc ≤ 64) (hle : m ≤ mc) :
    bodyPostM Fence.wide 4 Try.prog Try.f24 (RenewEnd w f n c nx) Exit.ret A W := by
  show LeavesInM _ _ _ _ _ _ A.defers _ _
  rw [hdef]
  refine ⟨by simp, .inl ⟨_, _, rfl, run_takeDeferred hK, ?_⟩⟩
  refine ⟨_, results_tmp rfl _ _ _, ?_⟩
  rw [hv]
  have hg := grownBy_putObj' W D (.deferred none)
  have r2 := r.turn hg (fun x e => by cases e; exact ⟨hD, _, hK, rfl⟩)
  refine ⟨h, g, ?_, ⟨r2.fd, r2.tab.perm hp, by have := r.low; omega, by have := r.low; omega⟩, ⟨by have := r.low; omega, by have := r.low; omega⟩, r2.old⟩
  rw [hm, hmc, IntWalk.i64_in _ (by omega)]

theorem rn_begin {w w1 w2 : World} {f h g n gN : Nat} {cb : Array Value} {c : List (Int × (Int × Int))} (T : FT w1 f h g n c) (hsz : w1.heap.size = w.heap.size + 2) (hf : f < w.heap.size) (bb : Below w.heap.size w w1)
    (k2 : Bk w1 w.heap.size 25 [.pointer (some ⟨f, 0, none⟩)]) (k3 : Bk w1 (w.heap.size + 1) 59 [.func (.func gN) #[] cb])
    (t2 : HTE w2 (w1.heap.size + 1) w1.heap.size n []) (b2 : Below w1.heap.size w1.drew w2) : RnS w f n gN cb (w2.setCell ⟨f, 0, none⟩ (.pointer (some ⟨w1.heap.size + 1, 0, none⟩))) := by
  have b1 : Below w1.heap.size w1 w2 := ⟨b2.os, b2.tape, b2.output, b2.size, b2.block⟩
  have hlt := t2.lt
  refine ⟨_, _, ⟨(T.1.below b1 T.1.lt).set 0 _, t2.keep fun b hb => Below.heap_setCell _ _ _ b ?_, (k2.below b1 k2.lt).far (p := ⟨f, 0, none⟩) ?_ _, (k3.below b1 k3.lt).far (p := ⟨f, 0, none⟩) ?_ _, ?_, hf, by omega, by omega⟩⟩
  · show b ≠ f
    rcases hb with rfl | rfl <;> omega
  · show f ≠ _
    omega
  · show f ≠ _
    omega
  · exact (But.of_below (bb.trans (b1.mono bb.size))).set 0 _

theorem wp_then_false {P : Program} {c : Code} {next : Act → World → Prop} {Q : Exit → Act → World → Prop} {a : Act} {w : World} (h : c.wp P (Exit.then next (fun _ _ _ => False)) a w) : c.wp P (Exit.then next Q) a w :=
  wp_mono h (fun e a w he => by cases e <;> first | exact he | exact he.elim)

set_option maxRecDepth 100000 in
set_option maxHeartbeats 8000000 in
theorem renew_is {w : World} {f h g n : Nat} {c : List (Int × (Int × Int))} (t : FT w f h g n c) (gN : Nat) (cb : Array Value) (nx : Int × Int → (Int × Int) × Bool)
    (eg : ∀ args w, (callFunc gN args).run Try.prog w = .ok (.enter gN args) w)
    (hnx : ∀ W x, But f w W → x ∈ c → Calls Try.prog gN (#[.agg #[.int .i64 x.2.1, .int .i64 x.2.2]] ++ cb) W (NextEnd W (nx x.2))) :
    Calls Try.prog 24 #[.pointer (some ⟨f, 0, none⟩), .func (.func gN) #[] cb] w (RenewEnd w f n c nx) := by
  have HN := Lib.hid hnx
  have HT := Lib.hid t
  have c0 := t.cell0
  have hlt := t.lt
  have n64 := t.2.1.lt.2.2.2
  clear t hnx
  refine (callsIn_wide (n := 4)).1 ?_
  refine callsIn_of_wp_marks Try.func24 rfl trivial ?_ rfl
  simp only [Try.ntmps24, List.size_toArray, List.length_cons, List.length_nil, Nat.reduceAdd, Nat.reduceSub, Array.replicate_succ, Array.replicate_zero, List.push_toArray, List.append_toArray, List.nil_append, List.cons_append]
  refine wpIn_wide.2 ?_
  go_upto_region 2 with fail
  have hs2 : ((w.alloc (.cells #[.pointer (some ⟨f, 0, none⟩)] 25)).alloc (.cells #[.func (.func gN) #[] cb] 59)).heap.size = w.heap.size + 2 := by simp
  have bb : Below w.heap.size w ((w.alloc (.cells #[.pointer (some ⟨f, 0, none⟩)] 25)).alloc (.cells #[.func (.func gN) #[] cb] 59)) := ((Below.refl _ _).alloc (Nat.le_refl _) _).alloc (by simp) _
  have k2 : Bk ((w.alloc (.cells #[.pointer (some ⟨f, 0, none⟩)] 25)).alloc (.cells #[.func (.func gN) #[] cb] 59)) w.heap.size 25 [.pointer (some ⟨f, 0, none⟩)] := Bk.below (heap_alloc_new w _) ((Below.refl _ _).alloc (Nat.le_refl _) _) (by simp)
  have k3 : Bk ((w.alloc (.cells #[.pointer (some ⟨f, 0, none⟩)] 25)).alloc (.cells #[.func (.func gN) #[] cb] 59)) (w.heap.size + 1) 59 [.func (.func gN) #[] cb] := by
    have := heap_alloc_new (w.alloc (.cells #[.pointer (some ⟨f, 0, none⟩)] 25)) (.cells #[.func (.func gN) #[] cb] 59)
    rw [World.size_alloc] at this; exact this
  generalize ((w.alloc (.cells #[.pointer (some ⟨f, 0, none⟩)] 25)).alloc (.cells #[.func (.func gN) #[] cb] 59)) = w1 at hs2 bb k2 k3 ⊢
  have HK2 := Lib.hid k2
  have HK3 := Lib.hid k3
  have T1 := Lib.hid (HT.out.below bb)
  have HSZ := Lib.hid hs2
  clear k2 k3 c0 hs2
  have hmm : Hid (min (max (n : Int) 0) 64 = n) := by rw [Hid]; omega
  go_cut [] from 10 to 45 (fun wx => RnS w f n gN cb wx)
  case first =>
    have q2 := HK2.out.cell 0
    have q2' : w1.cell? ⟨w.heap.size, 0, none⟩ = some (.pointer (some ⟨f, 0, none⟩)) := q2
    have hp2 := HK2.out.lt
    have TT : Hid (HTE w1 h g n c) := T1.out.2.1
    clear q2
    have hfw : f < w1.heap.size := T1.out.1.lt
    refine wp_then_false ?_
    go_region_with (first
      | (go_at_call 33; (with_reducible refine (sizeE_api TT.out.drew).mono ?_); rintro e w' ⟨rfl, rfl⟩)
      | (go_at_call 21; (with_reducible refine (newE_api n n hmm.out _).mono ?_); rintro e w2 ⟨rfl, t2, b2⟩; have q3 := (b2.cell (p := ⟨w.heap.size, 0, none⟩) hp2).trans q2'; have fk := (b2.block f hfw).trans T1.out.1; have HFK := Lib.hid fk; have HT2 := Lib.hid t2; have HB2 := Lib.hid b2; clear t2 fk b2; have y0 := Bk.cell HFK.out 0; have z0 := Bk.thaw HFK.out 0))
    all_goals go_wp2_with fail
    all_goals go_meet
    all_goals exact rn_begin T1.out HSZ.out hlt.1 bb HK2.out HK3.out HT2.out HB2.out
  case rest =>
    obtain ⟨h', g', hR⟩ := hcut
    have HRr := Lib.hid hR
    -- the old table lies as it lay
    have hO : HTE _ h g n c := HT.out.2.1.keep fun b hb => hR.old.block (by rcases hb with rfl | rfl <;> omega) (by rcases hb with rfl | rfl <;> first | exact fun e => HT.out.2.2.1 e.symm | exact fun e => HT.out.2.2.2 e.symm)
    have HO := Lib.hid hO
    clear HK2 HK3 T1 HSZ bb hmm hR hO
    rename World => wr
    go_wp2_with fail
    (with_reducible refine (allE_is _ _).mono ?_); rintro e w6 ⟨rfl, rfl⟩
    go_wp2_with fail
    have nb := new_below wr (.cells #[.pointer (some ⟨h, 0, none⟩)] 50)
    have nk : Bk (wr.alloc (.cells #[.pointer (some ⟨h, 0, none⟩)] 50)) wr.heap.size 50 [.pointer (some ⟨h, 0, none⟩)] := heap_alloc_new wr _
    have nz : (wr.alloc (.cells #[.pointer (some ⟨h, 0, none⟩)] 50)).heap.size = wr.heap.size + 1 := by simp
    generalize wr.alloc (.cells #[.pointer (some ⟨h, 0, none⟩)] 50) = wl at nb nk nz ⊢
    have Rl := Lib.hid (HRr.out.below nb)
    have Ol := Lib.hid (HO.out.below nb)
    have hwl : w.heap.size ≤ wl.heap.size := Nat.le_trans HRr.out.old.size nb.size
    have hg'l : g' < wl.heap.size := Rl.out.tab.lt.2.1
    have hh'l : h' < wl.heap.size := Rl.out.tab.lt.1
    refine (wpIn_wide (n := 4)).1 ?_
    refine wpIn_rangeFunc_ownH rfl (by omega) (gf := 38) (lb := #[.pointer (some ⟨wr.heap.size, 0, none⟩)]) rfl trivial (enters_of Try.func38 (by kernel_rfl) rfl)
      (stopsE Ol.out wr.heap.size (nk.cell 0) 3 (by omega)) keepC_t (fun W l o o' h1 h2 h3 h4 => keepC_b W l o o' h1 h2 h3 h4) (Below.refl _ _) (fun _ => rfl)
      (fun pre W => Rn w f n gN cb h' g' (fillC n (kept nx pre)) W) (fun _ _ _ => False)
      (fun pre W W' row hs hg hr => hs.turn hg (fun x e => ⟨Nat.le_trans hwl (hr x e).1, (hr x e).2⟩)) (fun _ _ _ _ _ hs _ _ => hs) Rl.out
      (fun x a' W => ∃ Bx, Bk W Bx 53 [.int .i64 x.1.2.1, .int .i64 x.1.2.2] ∧
        a' = { tmps := #[.pointer (some ⟨f, 0, none⟩), .func (.func gN) #[] cb, .pointer (some ⟨w.heap.size, 0, none⟩), .pointer (some ⟨w.heap.size + 1, 0, none⟩), .int .i64 0, .pointer (some ⟨h, 0, none⟩), .int .u64 x.1.1, .pointer (some ⟨Bx, 0, none⟩), undef, undef, u10, u11, u12, u13, u14, u15, u16, u17, u18, u19,
          .pointer (some ⟨h, 0, none⟩), .func (.func 38) #[] #[.pointer (some ⟨wr.heap.size, 0, none⟩)], .int .u64 x.1.1, .agg #[.int .i64 x.1.2.1, .int .i64 x.1.2.2], u24, u25, u26, u27, u28, u29, u30, u31, u32, u33, u34, u35, u36, u37, u38, u39, u40, u41, u42, u43, u44, u45], defers := [] })
      (fun x a' _ W W' row hs hg hr => by
        obtain ⟨Bx, h2, h3⟩ := hs
        refine ⟨Bx, (hg.block Bx h2.lt (fun e => ?_)).trans h2, h3⟩
        obtain ⟨_, o, ho, hc⟩ := hr Bx e.symm
        unfold Bk at h2
        rw [h2] at ho
        cases ho
        cases hc) ?assign ?body ?done ?stop
    case assign =>
      intro l pre ⟨⟨xa, xp, xg⟩, hxc⟩ W K hi hK
      have ab := new_below W (.cells #[.int .i64 xp, .int .i64 xg] 53)
      have ak : Bk (W.alloc (.cells #[.int .i64 xp, .int .i64 xg] 53)) W.heap.size 53 [.int .i64 xp, .int .i64 xg] := heap_alloc_new W _
      unfold encIn
      gi_wp2
      exact hK _ _ ((KeepsOthers.alloc _ _).from _) (keepC_below ab) (hi.below ab) ⟨W.heap.size, ak, rfl⟩
    case body =>
      rintro l pre ⟨⟨xa, xp, xg⟩, hxc⟩ a' W hl ⟨rr, hrr⟩ hi ⟨Bx, bX, rfl⟩ hlen
      have hd : 1 ≤ 4 - 1 - 1 := by omega
      have hmx : Try.prog.follows .mixedOrders = true := by kernel_rfl
      have y2 := hi.b2.cell 0
      have y3 := hi.b3.cell 0
      have x0 := bX.cell 0
      have x1 := bX.cell 1
      clear hrr hlen
      have hbd := HO.out.bd _ hxc
      obtain ⟨⟨⟨np, ng⟩, nb'⟩, hnr⟩ : ∃ r, nx (xp, xg) = r := ⟨_, rfl⟩
      have hcall := HN.out W (xa, xp, xg) hi.old hxc
      dsimp only at hcall hbd
      rw [hnr] at hcall
      have HC := Lib.hid hcall
      have HNR := Lib.hid hnr
      have HI := Lib.hid hi
      clear hi hnr hcall
      gi_wp2_with fail
      refine ⟨trivial, ?_⟩
      (with_reducible refine (CallsIn.inRound l (callsIn_wide.2 HC.out)).mono ?_); rintro e W1 ⟨rfl, b1⟩
      have I1 := Lib.hid (HI.out.below b1)
      obtain ⟨W2, hW2⟩ : ∃ W2, W1.alloc (.cells #[.int .i64 np, .int .i64 ng] 53) = W2 := ⟨_, rfl⟩
      have b2 : Below W1.heap.size W1 W2 := by rw [← hW2]; exact new_below _ _
      have k8 : Bk W2 W1.heap.size 53 [.int .i64 np, .int .i64 ng] := by rw [← hW2]; exact heap_alloc_new W1 _
      have HW2 := Lib.hid hW2
      have I2 := Lib.hid (I1.out.below b2)
      have b12 : Below W.heap.size W W2 := b1.trans (b2.mono b1.size)
      clear hW2 x0 x1 y2 y3 HC
      cases nb' with
      | false =>
        gi_wp2
        rw [HW2.out]
        have hks : kept nx (pre ++ [⟨(xa, xp, xg), hxc⟩]) = kept nx pre := by rw [kept_snoc, keep_none HNR.out]; exact List.append_nil _
        exact ⟨keepsFrom_below b12, keepC_below b12, by show Rn w f n gN cb h' g' (fillC n (kept nx (pre ++ [⟨(xa, xp, xg), hxc⟩]))) W2; rw [hks]; exact I2.out⟩
      | true =>
        have hks : kept nx (pre ++ [⟨(xa, xp, xg), hxc⟩]) = kept nx pre ++ [(xa, np, ng)] := by rw [kept_snoc, keep_some HNR.out]; rfl
        have HKS := Lib.hid hks
        have p2 := I2.out.b2.cell 0
        have pf := I2.out.fd.cell 0
        have e0 := k8.cell 0
        have e1 := k8.cell 1
        obtain ⟨ob, hob⟩ : ∃ ob, (inC (fillC n (kept nx pre)) xa || decide ((fillC n (kept nx pre)).length < n)) = ob := ⟨_, rfl⟩
        have HPU := Lib.hid (putE_api I2.out.tab.drew xa hbd.1 hbd.2 (np, ng) ob hob)
        have HOB := Lib.hid hob
        clear hks hob k8
        gi_upto_region 8 with (fail)
        rw [HW2.out]
        gi_region_with_o ((refine ⟨trivial, ?_⟩); (with_reducible refine (CallsIn.inRound l (callsIn_wide.2 HPU.out)).mono ?_); rintro e W3 ⟨rfl, t3, b3⟩)
        all_goals gi_wp2
        all_goals exact rn_round I2.out b12 (d' := fillC n (kept nx (pre ++ [⟨(xa, xp, xg), hxc⟩]))) (by rw [HKS.out, fillC_snoc]; dsimp only; rw [HOB.out]; exact t3) b3 hg'l
    case done =>
      rintro D xs W hD hS hi hK
      have HI := Lib.hid hi
      have HS := Lib.hid hS
      have HKD := Lib.hid hK
      clear hS hK
      go_wp2
      have y2 := HI.out.b2.cell 0
      have yf := HI.out.fd.cell 0
      have p2 := HI.out.b2.lt
      have pf := HI.out.fd.lt
      have hOW : HTE W h g n c := HT.out.2.1.keep fun b hb => HI.out.old.block (by rcases hb with rfl | rfl <;> omega) (by rcases hb with rfl | rfl <;> first | exact fun e => HT.out.2.2.1 e.symm | exact fun e => HT.out.2.2.2 e.symm)
      have HOW := Lib.hid hOW
      have hperm := (fillC_all n (kept nx xs) (keep_ap (HT.out.2.1.ap.perm HS.out.1.symm)) (Nat.le_trans (List.length_filterMap_le _ _) (by rw [HS.out.1.length_eq]; exact HT.out.2.1.le))).trans (HS.out.1.filterMap (keepF nx))
      have HP := Lib.hid hperm
      have hlen : (fillC n (kept nx xs)).length = (c.filterMap (keepF nx)).length := hperm.length_eq
      obtain ⟨m, hm⟩ : ∃ m, (c.filterMap (keepF nx)).length = m := ⟨_, rfl⟩
      obtain ⟨mc, hmc⟩ : ∃ mc, c.length = mc := ⟨_, rfl⟩
      have hm64 : m ≤ mc := by rw [← hm, ← hmc]; exact List.length_filterMap_le _ _
      have hmc64 : mc ≤ 64 := by rw [← hmc]; exact Nat.le_trans HT.out.2.1.le n64
      rw [hm] at hlen
      have HL1 := fun W' (t : HTE W' h g n c) => Lib.hid (lenE_api t)
      have HL2 := fun W' (t : HTE W' h' g' n (fillC n (kept nx xs))) => Lib.hid (lenE_api t)
      rw [hlen] at HL2
      rw [hmc] at HL1
      have HM := Lib.hid hm
      have HMC := Lib.hid hmc
      clear hi hOW hperm hlen hm hmc
      refine wp_then_false ?_
      go_region_with (first
        | (go_at_call 30; (with_reducible refine (HL1 _ HOW.out.drew).out.mono ?_); rintro e w7 ⟨rfl, b7⟩; have T7 := Lib.hid (HI.out.drew.below b7); have c2 := (b7.cell (p := ⟨w.heap.size, 0, none⟩) p2).trans y2; have cf := (b7.cell (p := ⟨f, 0, none⟩) pf).trans yf)
        | (go_at_call 30; (with_reducible refine (HL2 _ T7.out.tab).out.mono ?_); rintro e w8 ⟨rfl, b8⟩; have T8 := Lib.hid (T7.out.below b8)))
      all_goals go_wp2_with fail
      all_goals exact renew_end _ T8.out HP.out (Nat.le_trans hwl hD) ((b8.block D (by have := b7.size; have := (Array.getElem?_eq_some_iff.1 HKD.out).1; simp at *; omega)).trans ((b7.block D (Array.getElem?_eq_some_iff.1 HKD.out).1).trans HKD.out)) rfl rfl HM.out HMC.out hmc64 hm64
    case stop =>
      rintro D co pre W _ _ hx _
      exact hx.elim

end Go.Proofs.Ytokepfgknffdfaa
