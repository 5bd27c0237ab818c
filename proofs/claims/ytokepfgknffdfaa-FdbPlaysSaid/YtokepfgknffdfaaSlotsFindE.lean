/- Looking for an address in a table. -/
import Derived.Test.YtokepfgknffdfaaSlotsNewE
import Derived.Test.YtokepfgknffdfaaSlotsHash
import Derived.LoopTactic
namespace Go.Proofs.Ytokepfgknffdfaa
open Go.ChangeShapes Go.WideShapes Go.ChangeAt Go.RowKit
set_option linter.unusedVariables false

/-- A table at this instance. -/
def TBE (w : World) (h g : Nat) (l : List (Pl (Int × Int))) : Prop := TB encE 67 69 w h g l

theorem encE_len (p : Pl (Int × Int)) : (encE p).length = 4 := rfl

theorem TBE.cells {w : World} {h g : Nat} {l : List (Pl (Int × Int))} (t : TBE w h g l) {i : Nat} {p : Pl (Int × Int)} (hp : l[i]? = some p) :
    w.cell? ⟨g, i * 4, none⟩ = some (.bool p.full) ∧ w.cell? ⟨g, i * 4 + 1, none⟩ = some (.int .u64 p.addr) ∧ w.cell? ⟨g, i * 4 + 2, none⟩ = some (.int .i64 p.val.1) ∧ w.cell? ⟨g, i * 4 + 3, none⟩ = some (.int .i64 p.val.2) :=
  ⟨TB.cell encE_len t hp (c := 0) (by omega), TB.cell encE_len t hp (c := 1) (by omega), TB.cell encE_len t hp (c := 2) (by omega), TB.cell encE_len t hp (c := 3) (by omega)⟩

theorem TBE.below {w w' : World} {h g : Nat} {l : List (Pl (Int × Int))} (t : TBE w h g l) (hb : Below w.heap.size w w') : TBE w' h g l := TB.below t hb (Nat.le_refl _)

set_option maxHeartbeats 1000000 in
theorem findE_is (w : World) (h g : Nat) (l : List (Pl (Int × Int))) (t : TBE w h g l) (a : Int) (ha0 : 0 ≤ a) (ha1 : a ≤ 18446744073709551615) (p : Int) (b : Bool) (HL : Hid (lookFrom l a l.length (hs l.length a) = (p, b))) :
    Calls Try.prog 32 #[.pointer (some ⟨h, 0, none⟩), .int .u64 a] w fun e w' => e = .returned (.tuple #[.int .i64 p, .bool b]) ∧ Below w.heap.size w w' := by
  obtain ⟨n, hn⟩ : ∃ n, l.length = n := ⟨_, rfl⟩
  have n64 : n ≤ 64 := by have := t.2.2.2; omega
  have c0 := TB.cell0 t
  rw [hn] at HL c0
  have HT := Lib.hid t
  have HN := Lib.hid hn
  clear t
  by_cases h0 : 0 < n
  · have hlt := hs_lt n h0 a
    have HS := Lib.hid (slot_is a n ha0 ha1 h0 n64 w)
    obtain ⟨f, hf⟩ : ∃ f, hs n a = f := ⟨_, rfl⟩
    rw [hf] at HL HS hlt
    have HF := Lib.hid hf
    clear hf hn
    go_enter Try.func32, Try.ntmps32
    go_wp2_with fail
    (with_reducible refine HS.out.mono ?_); rintro e w1 ⟨rfl, hb⟩
    have t1 := HT.out.below hb
    have d0 := TB.cell0 t1
    rw [HN.out] at d0
    have HT1 := Lib.hid t1
    clear t1 HS
    go_wp2
    go_loop [6, 19] (fun x i => ∃ k q : Nat, k ≤ n ∧ i = .int .i64 k ∧ x = .int .i64 q ∧ q < n ∧ Hid (lookFrom l a (n - k) q = (p, b))) (fun _ i => n - (intOf i).toNat)
    case atStart => exact ⟨0, f, Nat.zero_le _, rfl, rfl, hlt, HL⟩
    case round =>
      obtain ⟨k, q, hk, rfl, rfl, hq, HQ⟩ := hrel
      clear HL
      by_cases hkn : k < n
      · obtain ⟨x, hx⟩ := get_of_lt (l := l) (i := q) (by rw [HN.out]; exact hq)
        obtain ⟨e0, e1, _⟩ := HT1.out.cells hx
        have hfl := fAt_get hx
        have hal := aAt_get hx
        have hst : lookFrom l a (n - k) q = if fAt l q = false then ((q : Int), false) else if aAt l q = a then (q, true) else lookFrom l a (n - (k + 1)) (nx n q) := by
          have : n - k = (n - (k + 1)) + 1 := by omega
          rw [this, lookFrom, HN.out]
        obtain ⟨xf, xa, xv⟩ := x
        dsimp only at e0 e1 hfl hal
        rw [hfl, hal] at hst
        clear hfl hal hx
        cases xf with
        | false =>
          have hr : ((q : Int), false) = (p, b) := by rw [← HQ.out, hst]; rfl
          clear hst
          obtain ⟨r1, r2⟩ := Prod.mk.inj hr
          clear hr
          have R1 := Lib.hid r1
          have R2 := Lib.hid r2
          clear r1 r2
          go_wp2
          go_ret2
          exact ⟨ret_ib R1.out R2.out, hb⟩
        | true =>
          by_cases hxa : xa = a
          · have hr : ((q : Int), true) = (p, b) := by rw [← HQ.out, hst, if_neg (by decide), if_pos hxa]
            clear hst
            obtain ⟨r1, r2⟩ := Prod.mk.inj hr
            clear hr
            have R1 := Lib.hid r1
            have R2 := Lib.hid r2
            clear r1 r2
            have g1 : (xa == a) = true := by simp [hxa]
            clear hxa
            go_wp2
            go_ret2
            exact ⟨ret_ib R1.out R2.out, hb⟩
          · have hr : lookFrom l a (n - (k + 1)) (nx n q) = (p, b) := by rw [← HQ.out, hst, if_neg (by decide), if_neg hxa]
            clear hst
            have g1 : (xa == a) = false := by simp [hxa]
            have HR := Lib.hid hr
            have hql := nx_lt hq
            clear hr hxa
            go_wp2_with (go_at_call 37; (with_reducible refine (next_is _ _ (by omega) (by omega) _).mono ?_); rintro e w' ⟨rfl, rfl⟩)
            go_round
            case rel => exact ⟨k + 1, nx n q, by omega, by go_num, rfl, hql, HR⟩
            case measure => simp [intOf]; omega
      · have hr : ((-1 : Int), false) = (p, b) := by
          rw [← HQ.out, show n - k = 0 by omega]; rfl
        obtain ⟨r1, r2⟩ := Prod.mk.inj hr
        clear hr
        have R1 := Lib.hid r1
        have R2 := Lib.hid r2
        clear r1 r2
        go_wp2
        go_ret2
        exact ⟨ret_ib R1.out R2.out, hb⟩
  · have h00 : n = 0 := by omega
    subst h00
    have hr : ((-1 : Int), false) = (p, b) := HL.out
    obtain ⟨r1, r2⟩ := Prod.mk.inj hr
    clear hr hn
    have R1 := Lib.hid r1
    have R2 := Lib.hid r2
    have HS := Lib.hid (slot_none a 0 (by omega) (by omega) w)
    clear r1 r2 HL
    go_enter Try.func32, Try.ntmps32
    go_wp2_with fail
    (with_reducible refine HS.out.mono ?_); rintro e w1 ⟨rfl, hb⟩
    have d0 := TB.cell0 (HT.out.below hb)
    rw [HN.out] at d0
    clear HS
    go_wp2
    refine wp_loop_rounds 1 ?_
    rw [rounds_succ]
    go_wp2
    go_ret2
    exact ⟨ret_ib R1.out R2.out, hb⟩

end Go.Proofs.Ytokepfgknffdfaa
