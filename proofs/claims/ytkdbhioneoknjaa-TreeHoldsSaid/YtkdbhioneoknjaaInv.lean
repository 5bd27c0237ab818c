/- A region that draws its order, by an invariant: what holds of each state, by which operations have come up, is kept by each operation that may come next. So many steps as operations, however many orders. Over any program. -/
import Derived.Test.YtkdbhioneoknjaaTreeMem
import Derived.Deep.RegionHeld3
namespace Go.Proofs.Ytkdbhioneoknjaa
open Go.ChangeShapes Go.WideShapes Go.ChangeAt Go.RowKit
set_option linter.unusedVariables false

section
variable {P : Program} {ops : Array Oper} {Q : Exit → Act → World → Prop} {md : Region.Mode} {S : World → Prop}

theorem put_none (a : Act) (v : Value) : a.put none v = a := rfl
/-- What has come up, and i too. -/
def upB (f : Nat → Bool) (i : Nat) : Nat → Bool := fun j => if j = i then true else f j
theorem upB_self (f : Nat → Bool) (i : Nat) : upB f i i = true := by simp [upB]
theorem upB_ne (f : Nat → Bool) {i j : Nat} (h : j ≠ i) : upB f i j = f j := by simp [upB, h]

/-- Each of the operations 'rs' keeps the invariant. -/
def StepsI (P : Program) (md : Region.Mode) (ops : Array Oper) (Q : Exit → Act → World → Prop) (S : World → Prop) (I : (Nat → Bool) → Act → World → Prop) (rs : List Nat) : Prop :=
  ∀ i ∈ rs, ∀ f a w, f i = false → (∀ o, ops[i]? = some o → ∀ e ∈ o.after, Region.binds md e = true → f e.on = true) → S w → I f a w → wpOp P ops Q i (fun a' w' => S w' ∧ I (upB f i) a' w') a w

theorem StepsI.nil {I : (Nat → Bool) → Act → World → Prop} : StepsI P md ops Q S I [] := fun _ h => by cases h
theorem StepsI.cons {I : (Nat → Bool) → Act → World → Prop} {i : Nat} {o : Oper} {rs : List Nat} (ho : ops[i]? = some o)
    (h : ∀ f a w, f i = false → (∀ e ∈ o.after, Region.binds md e = true → f e.on = true) → S w → I f a w → ∀ K' : Act → World → Prop, Shut (∀ a' w', S w' → I (upB f i) a' w' → K' a' w') →
      if Region.wanted o (yielded ops a.tmps) = true then Oper.wp P o a w K' Q else K' (a.put o.dst undef) w)
    (hs : StepsI P md ops Q S I rs) : StepsI P md ops Q S I (i :: rs) := fun j hj => by
  rcases List.mem_cons.1 hj with rfl | hj
  · exact fun f a w h1 h2 h3 h4 => wpOp_step ho (fun K' hK => h f a w h1 (h2 o ho) h3 h4 K' (fun a' w' hS hI => hK a' w' ⟨hS, hI⟩))
  · exact hs j hj

theorem all_listed (hord : ∀ i o, ops[i]? = some o → ∀ e ∈ o.after, Region.binds md e = true → e.on < i) {listed : Array Bool} (hsz : listed.size = ops.size) (hr : Region.ready md ops listed = []) :
    ∀ n i, i < n → i < ops.size → listed.getD i false = true := by
  intro n
  induction n with
  | zero => intro i h; omega
  | succ n ih =>
    intro i hi hlt
    cases e : listed.getD i false with
    | true => rfl
    | false =>
      exfalso
      have hd : listed.getD i true = false := by
        have hl : i < listed.size := by omega
        simp [hl] at e ⊢
        exact e
      have : i ∈ Region.ready md ops listed := mem_ready.2 ⟨hd, ops[i], Array.getElem?_eq_getElem hlt, fun q hq hb => by
        have h1 := hord i ops[i] (Array.getElem?_eq_getElem hlt) q hq hb
        exact ih q.on (by omega) (by omega)⟩
      rw [hr] at this
      cases this

theorem wpAnyH_inv {I : (Nat → Bool) → Act → World → Prop} (hord : ∀ i o, ops[i]? = some o → ∀ e ∈ o.after, Region.binds md e = true → e.on < i)
    (rs : List Nat) (hs : StepsI P md ops Q S I rs) (hd : ∀ f a w, (∀ i, i < ops.size → f i = true) → S w → I f a w → Q .normal a w) :
    ∀ (fuel : Nat) (l : List Nat) (listed : Array Bool) (a : Act) (w : World), l.length ≤ fuel → (∀ i, i < ops.size → listed.getD i false = false → i ∈ l) → (∀ i ∈ l, i ∈ rs) → listed.size = ops.size → S w → I (fun j => listed.getD j false) a w →
      wpAnyH P md ops Q S fuel listed a w := by
  intro fuel
  induction fuel with
  | zero =>
    intro l listed a w hl hin _ hsz hS hI
    have h0 : l = [] := List.length_eq_zero_iff.1 (by omega)
    subst h0
    have hall : ∀ i, i < ops.size → listed.getD i false = true := fun i hi => by
      cases e : listed.getD i false with
      | true => rfl
      | false => exact absurd (hin i hi e) (by simp)
    refine ⟨?_, hd _ a w hall hS hI⟩
    cases e : Region.ready md ops listed with
    | nil => rfl
    | cons j r =>
      have hj : j ∈ Region.ready md ops listed := by rw [e]; simp
      obtain ⟨h1, o, h2, _⟩ := mem_ready.1 hj
      have hlt : j < ops.size := (Array.getElem?_eq_some_iff.1 h2).1
      have := hall j hlt
      have hl : j < listed.size := by omega
      simp [hl] at h1 this
      rw [h1] at this
      cases this
  | succ fuel ih =>
    intro l listed a w hl hin hrs hsz hS hI
    refine ⟨fun hr => hd _ a w (fun i hi => all_listed hord hsz hr _ i (Nat.lt_succ_self i) hi) hS hI, fun i hi => ?_⟩
    obtain ⟨h1, o, h2, h3⟩ := mem_ready.1 hi
    have hlt : i < ops.size := (Array.getElem?_eq_some_iff.1 h2).1
    have hll : i < listed.size := by omega
    have h1' : listed.getD i false = false := by
      simp [hll] at h1 ⊢
      exact h1
    have hil := hin i hlt h1'
    have hst := hs i (hrs i hil) (fun j => listed.getD j false) a w h1' (fun o' ho' e he hb => by rw [h2] at ho'; cases ho'; exact h3 e he hb) hS hI
    refine wpOp_mono (fun a' w' ⟨hS', hI'⟩ => ⟨hS', ?_⟩) hst
    have hf : upB (fun j => listed.getD j false) i = fun j => (listed.setIfInBounds i true).getD j false := by
      funext j
      by_cases e : j = i
      · subst e
        rw [upB_self]
        simp [hll]
      · rw [upB_ne _ e, getD_set_ne false (fun q => e q.symm)]
    rw [hf] at hI'
    refine ih (l.erase i) _ a' w' ?_ ?_ ?_ (by simp [hsz]) hS' hI'
    · rw [List.length_erase_of_mem hil]
      have : 0 < l.length := List.length_pos_of_mem hil
      omega
    · intro j hj hu
      by_cases e : j = i
      · subst e
        simp [hll] at hu
      · rw [getD_set_ne false (fun q => e q.symm)] at hu
        exact (List.mem_erase_of_ne e).2 (hin j hj hu)
    · exact fun j hj => hrs j (List.mem_of_mem_erase hj)

/-- The order of a region's operations, as a Bool. -/
def ordB (md : Region.Mode) (ops : Array Oper) : Bool := (List.range ops.size).all fun i => match ops[i]? with | none => true | some o => o.after.all fun e => !Region.binds md e || decide (e.on < i)
theorem ordB_spec (h : ordB md ops = true) : ∀ i o, ops[i]? = some o → ∀ e ∈ o.after, Region.binds md e = true → e.on < i := by
  intro i o ho e he hb
  have hlt : i < ops.size := (Array.getElem?_eq_some_iff.1 ho).1
  have := (List.all_eq_true.1 h) i (List.mem_range.2 hlt)
  rw [ho] at this
  have := (Array.all_eq_true_iff_forall_mem.1 this) e he
  simpa [hb] using this
/-- What is left, as a Bool. -/
def leftB (ops : Array Oper) (listed : Array Bool) (rs : List Nat) : Bool := (List.range ops.size).all fun i => listed.getD i false || rs.contains i
theorem leftB_spec {listed : Array Bool} {rs : List Nat} (h : leftB ops listed rs = true) : ∀ i, i < ops.size → listed.getD i false = false → i ∈ rs := by
  intro i hi hu
  have := (List.all_eq_true.1 h) i (List.mem_range.2 hi)
  rw [hu] at this
  simpa using this

/-- The law, its side conditions as Bools. -/
theorem wpAnyH_by {I : (Nat → Bool) → Act → World → Prop} {fuel : Nat} {listed : Array Bool} {a : Act} {w : World} (rs : List Nat) (ho : ordB md ops = true) (hl : leftB ops listed rs = true) (hz : (listed.size == ops.size) = true) (hf : Nat.ble rs.length fuel = true)
    (hS : S w) (hI : I (fun j => listed.getD j false) a w) (hd : ∀ f a w, (∀ i, i < ops.size → f i = true) → S w → I f a w → Q .normal a w) (hs : StepsI P md ops Q S I rs) : wpAnyH P md ops Q S fuel listed a w :=
  wpAnyH_inv (ordB_spec ho) rs hs hd fuel rs listed a w (Nat.le_of_ble_eq_true hf) (leftB_spec hl) (fun _ h => h) (by simpa using hz) hS hI


/-- The slots that change, 4 of them. -/
def puts4 (a : Act) (d1 d2 d3 d4 : Tmp) (v1 v2 v3 v4 : Value) : Act := (((a.put (some d1) v1).put (some d2) v2).put (some d3) v3).put (some d4) v4
def IX4 (a : Act) (d1 d2 d3 d4 : Tmp) (J : (Nat → Bool) → Value → Value → Value → Value → World → Prop) (f : Nat → Bool) (b : Act) (w : World) : Prop := ∃ v1 v2 v3 v4, b = puts4 a d1 d2 d3 d4 v1 v2 v3 v4 ∧ J f v1 v2 v3 v4 w
/-- The law, where but 4 slots change. -/
theorem wpAnyH_by4 {fuel : Nat} {listed : Array Bool} {a : Act} {w : World} (d1 d2 d3 d4 : Tmp) (J : (Nat → Bool) → Value → Value → Value → Value → World → Prop) (h0 : puts4 a d1 d2 d3 d4 (a.tmps.getD d1 undef) (a.tmps.getD d2 undef) (a.tmps.getD d3 undef) (a.tmps.getD d4 undef) = a) (rs : List Nat) (ho : ordB md ops = true) (hl : leftB ops listed rs = true) (hz : (listed.size == ops.size) = true) (hf : Nat.ble rs.length fuel = true)
    (hS : S w) (hJ : J (fun j => listed.getD j false) (a.tmps.getD d1 undef) (a.tmps.getD d2 undef) (a.tmps.getD d3 undef) (a.tmps.getD d4 undef) w) (hd : ∀ f v1 v2 v3 v4 w, (∀ i, i < ops.size → f i = true) → S w → J f v1 v2 v3 v4 w → Q .normal (puts4 a d1 d2 d3 d4 v1 v2 v3 v4) w)
    (hs : StepsI P md ops Q S (IX4 a d1 d2 d3 d4 J) rs) : wpAnyH P md ops Q S fuel listed a w :=
  wpAnyH_by rs ho hl hz hf hS ⟨_, _, _, _, h0.symm, hJ⟩ (fun f b w hall hS ⟨v1, v2, v3, v4, hb, hJ⟩ => by rw [hb]; exact hd f v1 v2 v3 v4 w hall hS hJ) hs
theorem StepsI.cons4 {a : Act} {d1 d2 d3 d4 : Tmp} {J : (Nat → Bool) → Value → Value → Value → Value → World → Prop} {i : Nat} {o : Oper} {rs : List Nat} (ho : ops[i]? = some o)
    (h : ∀ f v1 v2 v3 v4 w, f i = false → (∀ e ∈ o.after, Region.binds md e = true → f e.on = true) → S w → J f v1 v2 v3 v4 w → ∀ K' : Act → World → Prop, Shut (∀ u1 u2 u3 u4 b w', S w' → b = puts4 a d1 d2 d3 d4 u1 u2 u3 u4 → J (upB f i) u1 u2 u3 u4 w' → K' b w') →
      if Region.wanted o (yielded ops (puts4 a d1 d2 d3 d4 v1 v2 v3 v4).tmps) = true then Oper.wp P o (puts4 a d1 d2 d3 d4 v1 v2 v3 v4) w K' Q else K' ((puts4 a d1 d2 d3 d4 v1 v2 v3 v4).put o.dst undef) w)
    (hs : StepsI P md ops Q S (IX4 a d1 d2 d3 d4 J) rs) : StepsI P md ops Q S (IX4 a d1 d2 d3 d4 J) (i :: rs) :=
  StepsI.cons ho (fun f b w h1 h2 h3 ⟨v1, v2, v3, v4, hb, hJ⟩ K' hK => by
    subst hb
    exact h f v1 v2 v3 v4 w h1 h2 h3 hJ K' (fun u1 u2 u3 u4 b w' hS hb hJ => hK.out b w' hS ⟨u1, u2, u3, u4, hb, hJ⟩)) hs

/-- The slots that change, 6 of them. -/
def puts6 (a : Act) (d1 d2 d3 d4 d5 d6 : Tmp) (v1 v2 v3 v4 v5 v6 : Value) : Act := (((((a.put (some d1) v1).put (some d2) v2).put (some d3) v3).put (some d4) v4).put (some d5) v5).put (some d6) v6
def IX6 (a : Act) (d1 d2 d3 d4 d5 d6 : Tmp) (J : (Nat → Bool) → Value → Value → Value → Value → Value → Value → World → Prop) (f : Nat → Bool) (b : Act) (w : World) : Prop := ∃ v1 v2 v3 v4 v5 v6, b = puts6 a d1 d2 d3 d4 d5 d6 v1 v2 v3 v4 v5 v6 ∧ J f v1 v2 v3 v4 v5 v6 w
/-- The law, where but 6 slots change. -/
theorem wpAnyH_by6 {fuel : Nat} {listed : Array Bool} {a : Act} {w : World} (d1 d2 d3 d4 d5 d6 : Tmp) (J : (Nat → Bool) → Value → Value → Value → Value → Value → Value → World → Prop) (h0 : puts6 a d1 d2 d3 d4 d5 d6 (a.tmps.getD d1 undef) (a.tmps.getD d2 undef) (a.tmps.getD d3 undef) (a.tmps.getD d4 undef) (a.tmps.getD d5 undef) (a.tmps.getD d6 undef) = a) (rs : List Nat) (ho : ordB md ops = true) (hl : leftB ops listed rs = true) (hz : (listed.size == ops.size) = true) (hf : Nat.ble rs.length fuel = true)
    (hS : S w) (hJ : J (fun j => listed.getD j false) (a.tmps.getD d1 undef) (a.tmps.getD d2 undef) (a.tmps.getD d3 undef) (a.tmps.getD d4 undef) (a.tmps.getD d5 undef) (a.tmps.getD d6 undef) w) (hd : ∀ f v1 v2 v3 v4 v5 v6 w, (∀ i, i < ops.size → f i = true) → S w → J f v1 v2 v3 v4 v5 v6 w → Q .normal (puts6 a d1 d2 d3 d4 d5 d6 v1 v2 v3 v4 v5 v6) w)
    (hs : StepsI P md ops Q S (IX6 a d1 d2 d3 d4 d5 d6 J) rs) : wpAnyH P md ops Q S fuel listed a w :=
  wpAnyH_by rs ho hl hz hf hS ⟨_, _, _, _, _, _, h0.symm, hJ⟩ (fun f b w hall hS ⟨v1, v2, v3, v4, v5, v6, hb, hJ⟩ => by rw [hb]; exact hd f v1 v2 v3 v4 v5 v6 w hall hS hJ) hs
theorem StepsI.cons6 {a : Act} {d1 d2 d3 d4 d5 d6 : Tmp} {J : (Nat → Bool) → Value → Value → Value → Value → Value → Value → World → Prop} {i : Nat} {o : Oper} {rs : List Nat} (ho : ops[i]? = some o)
    (h : ∀ f v1 v2 v3 v4 v5 v6 w, f i = false → (∀ e ∈ o.after, Region.binds md e = true → f e.on = true) → S w → J f v1 v2 v3 v4 v5 v6 w → ∀ K' : Act → World → Prop, Shut (∀ u1 u2 u3 u4 u5 u6 b w', S w' → b = puts6 a d1 d2 d3 d4 d5 d6 u1 u2 u3 u4 u5 u6 → J (upB f i) u1 u2 u3 u4 u5 u6 w' → K' b w') →
      if Region.wanted o (yielded ops (puts6 a d1 d2 d3 d4 d5 d6 v1 v2 v3 v4 v5 v6).tmps) = true then Oper.wp P o (puts6 a d1 d2 d3 d4 d5 d6 v1 v2 v3 v4 v5 v6) w K' Q else K' ((puts6 a d1 d2 d3 d4 d5 d6 v1 v2 v3 v4 v5 v6).put o.dst undef) w)
    (hs : StepsI P md ops Q S (IX6 a d1 d2 d3 d4 d5 d6 J) rs) : StepsI P md ops Q S (IX6 a d1 d2 d3 d4 d5 d6 J) (i :: rs) :=
  StepsI.cons ho (fun f b w h1 h2 h3 ⟨v1, v2, v3, v4, v5, v6, hb, hJ⟩ K' hK => by
    subst hb
    exact h f v1 v2 v3 v4 v5 v6 w h1 h2 h3 hJ K' (fun u1 u2 u3 u4 u5 u6 b w' hS hb hJ => hK.out b w' hS ⟨u1, u2, u3, u4, u5, u6, hb, hJ⟩)) hs

theorem StepsI.store4 {a : Act} {d1 d2 d3 d4 : Tmp} {J : (Nat → Bool) → Value → Value → Value → Value → World → Prop} {i : Nat} {o : Oper} {rs : List Nat} (ho : ops[i]? = some o) (ty : TypeId) (x y : Operand) (hop : o.op = .store ty x y) (hgd : o.guard = none) (hdst : o.dst = none)
    (h : ∀ f v1 v2 v3 v4 w, f i = false → (∀ e ∈ o.after, Region.binds md e = true → f e.on = true) → S w → J f v1 v2 v3 v4 w →
      ∃ (g : Nat) (cs old : List Value), (puts4 a d1 d2 d3 d4 v1 v2 v3 v4).eval x = .pointer (some ⟨g, 0, none⟩) ∧ (puts4 a d1 d2 d3 d4 v1 v2 v3 v4).eval y = .agg cs.toArray ∧ Bk w g ty old ∧ old.length = cs.length ∧ (P.info? ty).map (·.size) = some cs.length ∧ cs.all (·.oneCell') = true ∧ S (w.setRow g cs.toArray) ∧ J (upB f i) v1 v2 v3 v4 (w.setRow g cs.toArray))
    (hs : StepsI P md ops Q S (IX4 a d1 d2 d3 d4 J) rs) : StepsI P md ops Q S (IX4 a d1 d2 d3 d4 J) (i :: rs) :=
  StepsI.cons4 ho (fun f v1 v2 v3 v4 w h1 h2 h3 hJ K' hK => by
    obtain ⟨g, cs, old, e1, e2, e3, e4, e5, e6, e7, e8⟩ := h f v1 v2 v3 v4 w h1 h2 h3 hJ
    have hw : Region.wanted o (yielded ops (puts4 a d1 d2 d3 d4 v1 v2 v3 v4).tmps) = true := by unfold Region.wanted; rw [hgd]
    rw [if_pos hw]
    have s1 : (P.info? ty).map (·.size) = some cs.toArray.size := by rw [e5, List.size_toArray]
    have s2 : old.toArray.size = cs.toArray.size := by rw [List.size_toArray, List.size_toArray, e4]
    have s3 : cs.toArray.all (·.oneCell') = true := Array.all_eq_true_iff_forall_mem.2 fun v hv => (List.all_eq_true.1 e6) v (by simpa using hv)
    refine wp_store_row ty x y hop g cs.toArray e1 e2 ty old.toArray e3 s1 s2 s3 ?_
    have hp : (puts4 a d1 d2 d3 d4 v1 v2 v3 v4).put o.dst undef = (puts4 a d1 d2 d3 d4 v1 v2 v3 v4) := by rw [hdst]; exact put_none _ _
    rw [hp]
    exact hK.out v1 v2 v3 v4 _ _ e7 rfl e8) hs
theorem StepsI.store6 {a : Act} {d1 d2 d3 d4 d5 d6 : Tmp} {J : (Nat → Bool) → Value → Value → Value → Value → Value → Value → World → Prop} {i : Nat} {o : Oper} {rs : List Nat} (ho : ops[i]? = some o) (ty : TypeId) (x y : Operand) (hop : o.op = .store ty x y) (hgd : o.guard = none) (hdst : o.dst = none)
    (h : ∀ f v1 v2 v3 v4 v5 v6 w, f i = false → (∀ e ∈ o.after, Region.binds md e = true → f e.on = true) → S w → J f v1 v2 v3 v4 v5 v6 w →
      ∃ (g : Nat) (cs old : List Value), (puts6 a d1 d2 d3 d4 d5 d6 v1 v2 v3 v4 v5 v6).eval x = .pointer (some ⟨g, 0, none⟩) ∧ (puts6 a d1 d2 d3 d4 d5 d6 v1 v2 v3 v4 v5 v6).eval y = .agg cs.toArray ∧ Bk w g ty old ∧ old.length = cs.length ∧ (P.info? ty).map (·.size) = some cs.length ∧ cs.all (·.oneCell') = true ∧ S (w.setRow g cs.toArray) ∧ J (upB f i) v1 v2 v3 v4 v5 v6 (w.setRow g cs.toArray))
    (hs : StepsI P md ops Q S (IX6 a d1 d2 d3 d4 d5 d6 J) rs) : StepsI P md ops Q S (IX6 a d1 d2 d3 d4 d5 d6 J) (i :: rs) :=
  StepsI.cons6 ho (fun f v1 v2 v3 v4 v5 v6 w h1 h2 h3 hJ K' hK => by
    obtain ⟨g, cs, old, e1, e2, e3, e4, e5, e6, e7, e8⟩ := h f v1 v2 v3 v4 v5 v6 w h1 h2 h3 hJ
    have hw : Region.wanted o (yielded ops (puts6 a d1 d2 d3 d4 d5 d6 v1 v2 v3 v4 v5 v6).tmps) = true := by unfold Region.wanted; rw [hgd]
    rw [if_pos hw]
    have s1 : (P.info? ty).map (·.size) = some cs.toArray.size := by rw [e5, List.size_toArray]
    have s2 : old.toArray.size = cs.toArray.size := by rw [List.size_toArray, List.size_toArray, e4]
    have s3 : cs.toArray.all (·.oneCell') = true := Array.all_eq_true_iff_forall_mem.2 fun v hv => (List.all_eq_true.1 e6) v (by simpa using hv)
    refine wp_store_row ty x y hop g cs.toArray e1 e2 ty old.toArray e3 s1 s2 s3 ?_
    have hp : (puts6 a d1 d2 d3 d4 d5 d6 v1 v2 v3 v4 v5 v6).put o.dst undef = (puts6 a d1 d2 d3 d4 d5 d6 v1 v2 v3 v4 v5 v6) := by rw [hdst]; exact put_none _ _
    rw [hp]
    exact hK.out v1 v2 v3 v4 v5 v6 _ _ e7 rfl e8) hs

end

/-- A box that operation j made, and operation s fills. -/
def BoxF (f : Nat → Bool) (j s : Nat) (T : TypeId) (len : Nat) (B : Nat) (w : World) (p v : Value) : Prop :=
  f j = true → ∃ g cs, p = .pointer (some ⟨g, 0, none⟩) ∧ B ≤ g ∧ Bk w g T cs ∧ cs.length = len ∧ (f s = true → v = .agg cs.toArray)

section
variable {f : Nat → Bool} {j s i : Nat} {T : TypeId} {len B : Nat} {w w' : World} {p v : Value}
theorem BoxF.below (h : BoxF f j s T len B w p v) (b : Below w.heap.size w w') : BoxF f j s T len B w' p v := fun hj => by
  obtain ⟨g, cs, h1, h2, h3, h4, h5⟩ := h hj
  exact ⟨g, cs, h1, h2, h3.below b h3.lt, h4, h5⟩
theorem BoxF.up (h : BoxF f j s T len B w p v) (hi : i ≠ j) (hi' : i ≠ s) : BoxF (upB f i) j s T len B w p v := fun hj => by
  rw [upB_ne _ (fun e => hi e.symm)] at hj
  obtain ⟨g, cs, h1, h2, h3, h4, h5⟩ := h hj
  exact ⟨g, cs, h1, h2, h3, h4, fun hs => h5 (by rwa [upB_ne _ (fun e => hi' e.symm)] at hs)⟩
theorem BoxF.off (h : f j = false) : BoxF f j s T len B w p v := fun e => by rw [h] at e; cases e
/-- Its value is known now; it isn't filled. -/
theorem BoxF.val {u : Value} (h : BoxF f j s T len B w p u) (hs : f s = false) : BoxF f j s T len B w p v := fun hj => by
  obtain ⟨g, cs, h1, h2, h3, h4, h5⟩ := h hj
  exact ⟨g, cs, h1, h2, h3, h4, fun e => by rw [hs] at e; cases e⟩
/-- It is made. -/
theorem BoxF.new (hs : f s = false) (hjs : s ≠ j) (hB : B ≤ w.heap.size) (cs : List Value) (hl : cs.length = len) : BoxF (upB f j) j s T len B (w.alloc (.cells cs.toArray T)) (.pointer (some ⟨w.heap.size, 0, none⟩)) v := fun _ =>
  ⟨w.heap.size, cs, rfl, hB, heap_alloc_new w _, hl, fun e => by rw [upB_ne _ hjs, hs] at e; cases e⟩
/-- It is filled. -/
theorem BoxF.fill {g : Nat} {cs cs' : List Value} (hg : B ≤ g) (hb : Bk w g T cs') (hl : cs.length = len) (hv : v = .agg cs.toArray) : BoxF (upB f s) j s T len B (w.setRow g cs.toArray) (.pointer (some ⟨g, 0, none⟩)) v := fun _ =>
  ⟨g, cs, rfl, hg, setRow_heap w g _ cs.toArray T (0, 0) hb, hl, fun _ => hv⟩
/-- Another one is filled. -/
theorem BoxF.far {g : Nat} {cs : List Value} (h : BoxF f j s T len B w p v) (hne : p ≠ .pointer (some ⟨g, 0, none⟩)) : BoxF f j s T len B (w.setRow g cs.toArray) p v := fun hj => by
  obtain ⟨g', cs', h1, h2, h3, h4, h5⟩ := h hj
  refine ⟨g', cs', h1, h2, (setRow_other w g g' _ (fun e => hne (by rw [h1, e]))).trans h3, h4, h5⟩
theorem BoxF.use {C : Prop} (h : BoxF f j s T len B w p v) (hj : f j = true) (k : ∀ g cs, p = .pointer (some ⟨g, 0, none⟩) → B ≤ g → Bk w g T cs → cs.length = len → (f s = true → v = .agg cs.toArray) → C) : C := by
  obtain ⟨g, cs, h1, h2, h3, h4, h5⟩ := h hj
  exact k g cs h1 h2 h3 h4 h5
/-- It is unlike a new one. -/
theorem BoxF.ne (h : BoxF f j s T len B w p v) (hj : f j = true) : p ≠ .pointer (some ⟨w.heap.size, 0, none⟩) := by
  obtain ⟨g, cs, h1, _, h3, _⟩ := h hj
  have := h3.lt
  rw [h1]
  intro e
  injection e with e
  injection e with e
  injection e with e
  omega
end

/-- What an operation waits for has come up. -/
theorem after_at {md : Region.Mode} {o : Oper} {f : Nat → Bool} (h : ∀ e ∈ o.after, Region.binds md e = true → f e.on = true) (c : Nat) (hb : (o.after.any fun e => e.on == c && Region.binds md e) = true) : f c = true := by
  obtain ⟨i, hi, hp⟩ := Array.any_eq_true.1 hb
  have hp' : (o.after[i].on == c && Region.binds md o.after[i]) = true := hp
  rw [Bool.and_eq_true, beq_iff_eq] at hp'
  rw [← hp'.1]
  exact h _ (Array.getElem_mem hi) hp'.2
theorem off_imp {b : Bool} {p : Prop} (h : b = false) : b = true → p := fun e => by rw [h] at e; cases e
theorem upB_imp {f : Nat → Bool} {i j : Nat} {p : Prop} (h : f j = true → p) (e : j ≠ i) : upB f i j = true → p := fun q => h (by rwa [upB_ne _ e] at q)
/-- What operation j yields. -/
def ValF (f : Nat → Bool) (j : Nat) (u v : Value) : Prop := f j = true → v = u
theorem ValF.up {f : Nat → Bool} {i j : Nat} {u v : Value} (h : ValF f j u v) (e : i ≠ j) : ValF (upB f i) j u v := upB_imp h (fun q => e q.symm)
/-- A whole store that comes up. -/
theorem exec_if_store {P : Program} {ops : Array Oper} {o : Oper} {a : Act} {w : World} {K : Act → World → Prop} {Q : Exit → Act → World → Prop} (hw : Region.wanted o (yielded ops a.tmps) = true) (ty : TypeId) (x y : Operand) (ho : o.op = .store ty x y)
    (g : Nat) (cells : Array Value) (hx : a.eval x = .pointer (some ⟨g, 0, none⟩)) (hy : a.eval y = .agg cells)
    (t : TypeId) (old : Array Value) (hg : w.heap[g]? = some (.cells old t (0, 0))) (hi : (P.info? ty).map (·.size) = some cells.size)
    (hold : old.size = cells.size) (h1 : cells.all (·.oneCell') = true)
    (h : K (a.put o.dst undef) (w.setRow g cells)) : if Region.wanted o (yielded ops a.tmps) = true then Oper.wp P o a w K Q else K (a.put o.dst undef) w := by
  rw [if_pos hw]
  exact wp_store_row ty x y ho g cells hx hy t old hg hi hold h1 h
/-- No store has come up yet, where one of those ahead of all stores has not. -/
theorem no_store {f : Nat → Bool} {l r : List Nat} (h : ∀ s ∈ l, f s = true → ∀ c ∈ r, f c = true) {c : Nat} (hc : c ∈ r) (hf : f c = false) : ∀ s ∈ l, f s = false := fun s hs => by
  cases e : f s with
  | false => rfl
  | true => rw [h s hs e c hc] at hf; cases hf
theorem store_up {f : Nat → Bool} {l r : List Nat} (h : ∀ s ∈ l, f s = true → ∀ c ∈ r, f c = true) {i : Nat} (hi : i ∈ r) (hf : f i = false) (hl : ∀ s ∈ l, s ≠ i) : ∀ s ∈ l, upB f i s = true → ∀ c ∈ r, upB f i c = true := fun s hs e => by
  rw [upB_ne _ (hl s hs), no_store h hi hf s hs] at e
  cases e
theorem store_at {f : Nat → Bool} {l r : List Nat} {i : Nat} (hr : ∀ c ∈ r, f c = true) (hn : ∀ c ∈ r, c ≠ i) : ∀ s ∈ l, upB f i s = true → ∀ c ∈ r, upB f i c = true := fun s _ _ c hc => by rw [upB_ne _ (hn c hc)]; exact hr c hc

/-- Ports that a call laid. -/
def RowT (w : World) (D : Option Addr) (L : List Po) : Prop := L = [] ∨ ∃ g rest, D = some ⟨g, 0, none⟩ ∧ Bk w g 49 (cellsOf lP L ++ rest)
/-- A view that operation j laid. -/
def CallF (f : Nat → Bool) (j : Nat) (t : Th) (n : Nat) (L : List Po) (w : World) (v : Value) : Prop :=
  f j = true → ∃ D cap, v = .agg (lT t D n cap).toArray ∧ (D = none → cap = 0) ∧ RowT w D L
section
variable {f : Nat → Bool} {i j : Nat} {t : Th} {n : Nat} {L : List Po} {w w' : World} {v : Value} {D : Option Addr}
theorem RowT.below (h : RowT w D L) (b : Below w.heap.size w w') : RowT w' D L := h.imp id fun ⟨g, r, e, k⟩ => ⟨g, r, e, k.below b k.lt⟩
theorem RowT.row {g : Nat} {cs cs' : List Value} (h : RowT w D L) (hb : Bk w g 31 cs') : RowT (w.setRow g cs.toArray) D L := h.imp id fun ⟨g', r, e, k⟩ =>
  ⟨g', r, e, (setRow_other w g g' _ (fun q => by subst q; unfold Bk at k hb; rw [k] at hb; injection hb with hb; injection hb with _ hb; cases hb)).trans k⟩
theorem TS.rowT {w0 : World} (h : TS w0 [] D L w) : RowT w D L := h.2.imp id fun ⟨g, r, e, s⟩ => ⟨g, r, e, (s.1 0 _ _ _ rfl).1⟩
theorem RowT.ports (h : RowT w D L) : PoAt w D w.heap.size L := fun k x hx => by
  rcases h with rfl | ⟨g, r, rfl, hb⟩
  · simp at hx
  · refine ⟨_, rfl, hb.lt, fun i v hv => ?_⟩
    have hi : i < 15 := by
      rcases Nat.lt_or_ge i 15 with q | q
      · exact q
      · rw [List.getElem?_eq_none (by rw [lP_len]; exact q)] at hv; cases hv
    have hl : k < L.length := po_lt hx
    rw [addr_add, addr_add, Nat.zero_add, hb.cell, List.getElem?_append_left (by rw [cellsOf_len lP_len]; omega), cellsOf_get lP_len L k x i hx hi]
    exact hv
theorem CallF.below (h : CallF f j t n L w v) (b : Below w.heap.size w w') : CallF f j t n L w' v := fun hj => by
  obtain ⟨D, cap, h1, h2, h3⟩ := h hj
  exact ⟨D, cap, h1, h2, h3.below b⟩
theorem CallF.up (h : CallF f j t n L w v) (hi : i ≠ j) : CallF (upB f i) j t n L w v := fun hj => h (by rwa [upB_ne _ (fun e => hi e.symm)] at hj)
theorem CallF.use {C : Prop} (h : CallF f j t n L w v) (hj : f j = true) (k : ∀ D cap, v = .agg (lT t D n cap).toArray → (D = none → cap = 0) → RowT w D L → C) : C := by
  obtain ⟨D, cap, h1, h2, h3⟩ := h hj
  exact k D cap h1 h2 h3
theorem CallF.off (h : f j = false) : CallF f j t n L w v := fun e => by rw [h] at e; cases e
theorem CallF.new {cap : Nat} (hz : D = none → cap = 0) (hr : RowT w D L) : CallF (upB f j) j t n L w (.agg (lT t D n cap).toArray) := fun _ => ⟨D, cap, rfl, hz, hr⟩
theorem CallF.row {g : Nat} {cs cs' : List Value} (h : CallF f j t n L w v) (hb : Bk w g 31 cs') : CallF f j t n L (w.setRow g cs.toArray) v := fun hj => by
  obtain ⟨D, cap, h1, h2, h3⟩ := h hj
  exact ⟨D, cap, h1, h2, h3.row hb⟩
end

end Go.Proofs.Ytkdbhioneoknjaa
