/- rising of a table: copies of the full places, by their addresses. -/
import Derived.Test.YtokepfgknffdfaaSlotsApiE
import Derived.Test.YtokepfgknffdfaaSlotsSorts
import Derived.Test.YtokepfgknffdfaaSortKit
import Derived.Test.YtokepfgknffdfaaSlotsCmp
namespace Go.Proofs.Ytokepfgknffdfaa
open Go.ChangeShapes Go.WideShapes Go.ChangeAt Go.RowKit Go.Shelf Go.Lib Go.Sort
set_option linter.unusedVariables false

def cmpPE (p q : Pl (Int × Int)) : Int := cmpA p.addr q.addr

theorem closureE (x y : Pl (Int × Int)) (W : World) : Calls Try.prog 42 #[.agg (encE x).toArray, .agg (encE y).toArray] W fun e w' =>
    e = .returned (.int .i64 (cmpPE x y)) ∧ ∃ q os', w' = grow (W.drewN q) os' := by
  have hcon := fun W' => Lib.hid (cmp_is x.addr y.addr W')
  unfold cmpPE
  generalize cmpA x.addr y.addr = r at hcon ⊢
  unfold encE
  go_enter Try.func42, Try.ntmps42
  go_wp2_with (go_at_call 43; (with_reducible refine (hcon _).out.mono ?_); rintro e w' ⟨rfl, rfl⟩)
  go_ret
  exact ⟨rfl, 0, _, by rw [alloc_eq_grow, alloc_eq_grow, grow_grow]; rfl⟩

theorem laysE (blk off size : Nat) (w : World) : CmpLays Try.prog 42 #[] encE 4 cmpPE blk off size w :=
  fun _ _ _ _ x y => closureE x y _

theorem ltE (p q : Pl (Int × Int)) : ltOf cmpPE p q = decide (p.addr < q.addr) := by
  unfold ltOf cmpPE cmpA
  by_cases h1 : p.addr < q.addr
  · simp [h1]
  · by_cases h2 : q.addr < p.addr <;> simp [h1, h2]

theorem swoE : SWO (ltOf cmpPE) where
  irrefl x := by rw [ltE]; simp
  trans x y z h1 h2 := by rw [ltE] at *; simp at *; omega
  ntrans x y z h1 h2 := by rw [ltE] at *; simp at *; omega

theorem encE_one (p : Pl (Int × Int)) : ∀ v ∈ encE p, v.oneCell' = true := by
  intro v hv
  simp [encE] at hv
  rcases hv with rfl | rfl | rfl | rfl <;> rfl

/-- What rising answers. -/
def RiseE (w : World) (l : List (Pl (Int × Int))) (e : Ending) (w' : World) : Prop :=
  ∃ (D : List (Pl (Int × Int))) (A : Option Addr) (cap : Nat), e = .returned (.slice A D.length cap) ∧ D.Perm (l.filter (·.full)) ∧ D.Pairwise (fun x y => x.addr ≤ y.addr) ∧ RowAt encE 4 w' w.heap.size A D ∧ Below w.heap.size w w'

/-- The library's sort of such a row. -/
theorem sortE {w : World} {B : Nat} {A : Option Addr} {n cap : Nat} {L : List (Pl (Int × Int))} (h : OwnL encE 4 69 w B (.slice A n cap) L) (hn : L.length = n) (hm : n ≤ 1000) :
    Calls Try.prog 41 #[.slice A n cap, .func (.func 42) #[] #[]] w fun e w' =>
      e = .returned (.tuple #[]) ∧ ∃ D : List (Pl (Int × Int)), D.length = n ∧ D.Perm L ∧ D.Pairwise (fun x y => x.addr ≤ y.addr) ∧ RowAt encE 4 w' B A D ∧ (∀ B', B' ≤ B → B' ≤ w.heap.size → Below B' w w') := by
  subst hn
  rcases Nat.eq_zero_or_pos L.length with h0 | h0
  · have e0 : L = [] := List.eq_nil_of_length_eq_zero h0
    subst e0
    have hcon := AnyF.slices_SortFunc_none Try.sortE A cap (.func (.func 42) #[] #[]) w
    change Calls Try.prog 41 _ _ _ at hcon
    exact hcon.mono fun e w' ⟨he, hw⟩ => ⟨he, [], rfl, List.Perm.refl _, List.Pairwise.nil, RowAt.nil _ _ _, fun B' _ _ => by rw [hw]; exact Below.refl _ _⟩
  · obtain ⟨p, hp⟩ := get_of_lt h0
    obtain ⟨g, rfl, hBg, hg, _⟩ := h.at encE_len hp
    have hH := h.holds encE_len
    have eg : ∀ args w, (callFunc 42 args).run Try.prog w = .ok (.enter 42 args) w := enters_of Try.func42 (by kernel_rfl) rfl
    have hcon := AnyQ.slices_SortFunc Try.sortE 4 Try.isAgg69 Try.sizeOf69 encE encE_len encE_one cmpPE swoE 42 #[] g 0 cap L.toArray w eg (laysE g 0 _ w) hH hg (by simp; omega)
    change Calls Try.prog 41 _ _ _ at hcon
    have hsz : L.toArray.size = L.length := by simp
    rw [hsz] at hcon
    refine hcon.mono fun e w' ⟨he, d', m, os, hpm, hso, hw⟩ => ⟨he, d'.toList, ?_, ?_, ?_, ?_, ?_⟩
    · have := hpm.1
      simpa using this
    · rw [← hsz] at hpm
      simpa using perm_of_permIn hpm
    · have hs : d'.size = L.length := by have := hpm.1; simpa using this
      rw [← hs] at hso
      refine (pairwise_of_sorted hso).imp fun {x y} hxy => ?_
      rw [ltE] at hxy
      simpa using hxy
    · rw [hw]
      exact rowAt_sorted encE_len hH hg hpm.1 B hBg
    · intro B' h1 h2
      rw [hw]
      exact (Below.refl B' w).grown (grown_sorted w g 0 m d' os) h2 (fun k e => by cases e; omega)

set_option maxHeartbeats 4000000 in
theorem risingE_is (w : World) (h g : Nat) (l : List (Pl (Int × Int))) (t : TBE w h g l) :
    Calls Try.prog 39 #[.pointer (some ⟨h, 0, none⟩)] w (RiseE w l) := by
  obtain ⟨n, hn⟩ : ∃ n, l.length = n := ⟨_, rfl⟩
  have n64 : n ≤ 64 := by have := t.2.2.2; omega
  have c0 := TB.cell0 t
  rw [hn] at c0
  have HT := Lib.hid t
  have HN := Lib.hid hn
  obtain ⟨i0, hi, hz0, hz1, hz2⟩ := info_parts Try.infoPlE
  have HI := Lib.hid hi
  have HZ0 := Lib.hid hz0
  have HZ1 := Lib.hid hz1
  have HZ2 := Lib.hid hz2
  clear hi hz0 hz1 hz2 t hn
  go_enter Try.func39, Try.ntmps39
  go_wp2
  go_loopw [3, 11] (fun v i wr => ∃ (k : Nat) (L : List (Pl (Int × Int))), k ≤ n ∧ i = .int .i64 k ∧ L.length ≤ k ∧ Hid (L = (l.take k).filter (·.full)) ∧ Hid (OwnL encE 4 69 wr w.heap.size v L) ∧ Below w.heap.size w wr) (fun _ i _ => n - (intOf i).toNat)
  case atStart => exact ⟨0, [], Nat.zero_le _, rfl, Nat.le_refl _, rfl, OwnL.nil _ _ _, Below.refl _ _⟩
  case round =>
    obtain ⟨k, L, hk, rfl, hLk, HL, R, hb⟩ := hrel
    have hsz := hb.size
    by_cases hkn : k < n
    · obtain ⟨x, hx⟩ := get_of_lt (l := l) (i := k) (by rw [HN.out]; exact hkn)
      obtain ⟨e0, e1, e2, e3⟩ := (HT.out.below hb).cells hx
      have hki : (k : Int) < (n : Int) := by omega
      have hst : (l.take (k + 1)).filter (·.full) = L ++ (if x.full = true then [x] else []) := by
        rw [filter_take hx, ← HL.out]
      obtain ⟨xf, xa, xv⟩ := x
      dsimp only at e0 e1 e2 e3 hst
      have HS := Lib.hid hst
      clear hx hst
      cases xf with
      | false =>
        go_wp2
        go_roundw
        case rel => exact ⟨k + 1, L, by omega, by go_num, by omega, by rw [Hid, HS.out]; simp, (R.out.below (new_below _ _)), hb.alloc hsz _⟩
        case measure => simp [intOf]; omega
      | true =>
        have R2 := Lib.hid (R.out.below (new_below _ (.cells #[.bool true, .int .u64 xa, .int .i64 xv.1, .int .i64 xv.2] 69)))
        have B2 := hb.alloc hsz (.cells #[.bool true, .int .u64 xa, .int .i64 xv.1, .int .i64 xv.2] 69)
        have HB2 := Lib.hid B2
        clear R B2
        go_wp2_with (at_builtin; refine append_elem (enc := encE) _ rfl (.tmp 17) (.tmp 19) 65 rfl w.heap.size 69 i0 (.agg #[.bool false, .int .u64 0, .int .i64 0, .int .i64 0]) 32 Try.underlying65 HI.out HZ0.out HZ1.out HZ2.out rfl (by decide) encE_len encE_one _ L ⟨true, xa, xv⟩ rfl R2.out _ rfl (by simp) (by omega) (by omega) w.heap.size w HB2.out (Nat.le_refl _) (by simp; omega) ?_; intro g7 cap7 w7 hg7 r7 B7 gr7; have R7 := Lib.hid r7; clear r7 gr7)
        go_roundw
        case rel => exact ⟨k + 1, L ++ [⟨true, xa, xv⟩], by omega, by go_num, by simp; omega, by rw [Hid, HS.out]; simp, R7, B7⟩
        case measure => simp [intOf]; omega
    · have hkn2 : k = n := by omega
      have hLL : L = l.filter (·.full) := by rw [HL.out, List.take_of_length_le (by rw [HN.out]; omega)]
      have HLL := Lib.hid hLL
      obtain ⟨A, cap, rfl⟩ := R.out.shape
      have hs := Lib.hid (sortE R.out rfl (by omega))
      clear hLL hkn2 HL
      go_wp2_with fail
      (with_reducible refine hs.out.mono ?_); rintro e w7 ⟨rfl, D, hD, hp, hpw, hra, hb7⟩
      have HD := Lib.hid hD
      clear hD
      go_wp2
      go_ret
      exact ⟨D, A, cap, ret_sl HD.out.symm, by rw [← HLL.out]; exact hp, hpw, hra, hb.trans (hb7 _ (Nat.le_refl _) hsz)⟩

end Go.Proofs.Ytokepfgknffdfaa
