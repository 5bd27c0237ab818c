/- The law ConfChecks, walked. -/
import Derived.Test.YtlccdjkababapaaLater
import Derived.Test.YtlccdjkababapaaConfRefCheck
import Derived.Test.YtlccdjkababapaaConfSwitch
import Derived.Test.YtlccdjkababapaaConfPortsWalk
namespace Go.Proofs.Ytlccdjkababapaa
open Go.ChangeShapes Go.WideShapes Go.ChangeAt Go.RowKit
set_option linter.unusedVariables false

theorem cp_box (w : World) (c : Cf) (p : PV) : ∃ w', (w.alloc (.cells #[.int .u64 c.ad, .int .u16 c.pr, .int .i64 c.ma, .int .i64 c.he, .int .i64 c.de, .int .i64 c.ag, .int .i64 c.tb, .slice c.A c.n c.cap] 27)).alloc (.cells #[.int .u8 p.pr, .int .u32 p.co, .bool p.on] 30) = w' ∧ BX w w.heap.size c w' ∧ PX w' (w.heap.size + 1) p := by
  refine ⟨_, rfl, ⟨(CX.new w c).alloc _, ((Below.refl _ _).alloc (Nat.le_refl _) _).alloc (by simp) _⟩, ?_⟩
  have := PX.new (w.alloc (.cells #[.int .u64 c.ad, .int .u16 c.pr, .int .i64 c.ma, .int .i64 c.he, .int .i64 c.de, .int .i64 c.ag, .int .i64 c.tb, .slice c.A c.n c.cap] 27)) p
  simpa using this

/-- Both boxes' cells in all later worlds. -/
theorem BX.later {w : World} {X : Nat} {c : Cf} {wx : World} (h : BX w X c wx) (q : LaterW wx) : q.w'.cell? ⟨X, 0, none⟩ = some (.int .u64 c.ad) ∧ q.w'.cell? ⟨X, 1, none⟩ = some (.int .u16 c.pr) ∧ q.w'.cell? ⟨X, 2, none⟩ = some (.int .i64 c.ma) ∧ q.w'.cell? ⟨X, 3, none⟩ = some (.int .i64 c.he) ∧ q.w'.cell? ⟨X, 4, none⟩ = some (.int .i64 c.de) ∧ q.w'.cell? ⟨X, 5, none⟩ = some (.int .i64 c.ag) ∧ q.w'.cell? ⟨X, 6, none⟩ = some (.int .i64 c.tb) ∧ q.w'.cell? ⟨X, 7, none⟩ = some (.slice c.A c.n c.cap) := (h.below q.h).cells

set_option maxRecDepth 100000 in
set_option maxHeartbeats 4000000 in
theorem ConfChecks_walk (c : Cf) (L : List PV) (p : PV) (i : Int) (w : World) (hb : CB c) (hL : L.length = c.n) (hc : c.A = none → c.cap = 0) (hp : PortsIn w c.A w.heap.size L) (hpb : PB p) (hi : -9223372036854775808 ≤ i ∧ i ≤ 9223372036854775807) :
    Calls Try.prog 3 #[.agg #[.int .u64 c.ad, .int .u16 c.pr, .int .i64 c.ma, .int .i64 c.he, .int .i64 c.de, .int .i64 c.ag, .int .i64 c.tb, .slice c.A c.n c.cap], .agg #[.int .u8 p.pr, .int .u32 p.co, .bool p.on], .int .i64 i] w fun e w' => e = .returned (.bool true) ∧ Below w.heap.size w w' := by
  obtain ⟨wb, hwb, hx, hy⟩ := cp_box w c p
  have R := Lib.hid hx
  have hyl := hy.lt
  have hnm : c.n ≤ 9223372036854775807 := hb.2.2.2.2.2.2.2
  have HB := Lib.hid hb
  have HL := Lib.hid hL
  have HP := Lib.hid hp
  have HPB := Lib.hid hpb
  obtain ⟨q, hq⟩ : ∃ q, decide (c.n ≤ 200) = q := ⟨_, rfl⟩
  have HF := fun W => Lib.hid (few_is c hnm W)
  rw [hq] at HF
  have HQ := Lib.hid hq
  have HI := Lib.hid hi
  clear hb hL hc hp hx hq hpb hi
  go_enter Try.func3, Try.ntmps3
  go_upto_region 1 with fail
  clear hwb
  go_wp2_with fail
  (with_reducible refine (awake_conf _).mono ?_); rintro e w1 ⟨rfl, b1⟩
  have R1 := Lib.hid (R.out.below b1)
  have hy1 := hy.below b1 hyl
  clear R b1 hy hyl
  obtain ⟨x0, x1, x2, x3, x4, x5, x6, x7⟩ := R1.out.cells
  have HY1 := Lib.hid hy1
  clear hy1
  go_wp2_with fail
  (with_reducible refine (HF _).out.mono ?_); rintro e w2 ⟨rfl, b2⟩
  have R2 := Lib.hid (R1.out.below b2)
  have HY2 := Lib.hid (HY1.out.below b2 HY1.out.lt)
  clear R1 b2 x0 x1 x2 x3 x4 x5 x6 x7 HY1
  cases q with
  | false =>
    go_wp2_with fail
    (with_reducible refine (awake_conf _).mono ?_); rintro e w3 ⟨rfl, b3⟩
    go_wp2
    go_ret
    exact ⟨rfl, (R2.out.below b3).2⟩
  | true =>
    have HN : Hid (c.n ≤ 200) := Lib.hid (of_decide_eq_true HQ.out)
    clear HQ HF
    obtain ⟨X, hX⟩ : ∃ X, w.heap.size = X := ⟨_, rfl⟩
    rw [hX] at R2 HY2 ⊢
    clear hX hnm
    obtain ⟨t, ht⟩ : ∃ t, timesB c = t := ⟨_, rfl⟩
    obtain ⟨u, hu⟩ : ∃ u, inI p.co 1 65535 = u := ⟨_, rfl⟩
    have HT := Lib.hid ht
    have HU := Lib.hid hu
    clear ht hu
    have k0 := fun q : LaterW w2 => (R2.out.later q).1
    have k1 := fun q : LaterW w2 => (R2.out.later q).2.1
    have k2 := fun q : LaterW w2 => (R2.out.later q).2.2.1
    have k3 := fun q : LaterW w2 => (R2.out.later q).2.2.2.1
    have k4 := fun q : LaterW w2 => (R2.out.later q).2.2.2.2.1
    have k5 := fun q : LaterW w2 => (R2.out.later q).2.2.2.2.2.1
    have k6 := fun q : LaterW w2 => (R2.out.later q).2.2.2.2.2.2.1
    have k7 := fun q : LaterW w2 => (R2.out.later q).2.2.2.2.2.2.2
    have p0 := fun q : LaterW w2 => (HY2.out.below q.h HY2.out.lt).cells.1
    have p1 := fun q : LaterW w2 => (HY2.out.below q.h HY2.out.lt).cells.2.1
    have p2 := fun q : LaterW w2 => (HY2.out.below q.h HY2.out.lt).cells.2.2
    have c1 := fun q : LaterW w2 => Lib.hid (check_is c L HL.out HN.out HB.out q.w' ((R2.out.below q.h).ports HP.out))
    have c2 := fun q : LaterW w2 => Lib.hid (rcheck_is c L HL.out HN.out HB.out q.w' ((R2.out.below q.h).ports HP.out))
    have c3 := fun q : LaterW w2 => Lib.hid (times_is c t HT q.w')
    have c4 := fun q : LaterW w2 => Lib.hid (rtimes_is c HB.out t HT q.w')
    have c5 := fun q : LaterW w2 => Lib.hid (port_is p u HU q.w')
    have c6 := fun q : LaterW w2 => Lib.hid (id_is c HB.out q.w')
    have c7 := fun q : LaterW w2 => Lib.hid (rid_is c HB.out q.w')
    have c8 := fun q : LaterW w2 => Lib.hid (portid_is c L HL.out HN.out i HI.out.1 HI.out.2 q.w' ((R2.out.below q.h).ports HP.out))
    have c9 := fun q : LaterW w2 => Lib.hid (rport_is c L HL.out HN.out i HI.out.1 HI.out.2 q.w' ((R2.out.below q.h).ports HP.out))
    have hmx := mixedL
    by_cases g1 : 0 < p.co
    · by_cases g2 : p.co < 65536
      · have G := Lib.hid (And.intro g1 g2)
        have hu : u = true := by rw [← HU.out]; unfold inI; have := G.out; simp; omega
        subst hu
        go_wp2
        refine region_later hmx (by kernel_rfl) ?_
        repeat (go_big_quiet_step ((first | (go_at_call 10; exact Calls.later (c1 _).out) | (go_at_call 11; exact Calls.later (c2 _).out) | (go_at_call 12; exact Calls.later (c3 _).out) | (go_at_call 13; exact Calls.later (c4 _).out) | (go_at_call 14; exact Calls.later (c5 _).out) | (go_at_call 15; exact Calls.later (c6 _).out) | (go_at_call 16; exact Calls.later (c7 _).out) | (go_at_call 17; exact Calls.later (c8 _).out) | (go_at_call 18; exact Calls.later (c9 _).out))))
        refine wpQuiet_nil ?_
        intro _ hw'
        obtain ⟨r, hw''⟩ := hw'
        subst hw''
        go_wp2
        go_ret
        exact ⟨rfl, (R2.out.below r.h).2⟩
      · have d1 : decide (0 < p.co) = true := decide_eq_true g1
        have d2 : decide (p.co < 65536) = false := decide_eq_false g2
        have G := Lib.hid (And.intro g1 g2)
        have hu : u = false := by rw [← HU.out]; unfold inI; have := G.out; simp; omega
        subst hu
        go_wp2
        refine region_later hmx (by kernel_rfl) ?_
        repeat (go_big_quiet_step ((first | (go_at_call 10; exact Calls.later (c1 _).out) | (go_at_call 11; exact Calls.later (c2 _).out) | (go_at_call 12; exact Calls.later (c3 _).out) | (go_at_call 13; exact Calls.later (c4 _).out) | (go_at_call 14; exact Calls.later (c5 _).out) | (go_at_call 15; exact Calls.later (c6 _).out) | (go_at_call 16; exact Calls.later (c7 _).out) | (go_at_call 17; exact Calls.later (c8 _).out) | (go_at_call 18; exact Calls.later (c9 _).out))))
        refine wpQuiet_nil ?_
        intro _ hw'
        obtain ⟨r, hw''⟩ := hw'
        subst hw''
        go_wp2
        go_ret
        exact ⟨rfl, (R2.out.below r.h).2⟩
    · have d1 : decide (0 < p.co) = false := decide_eq_false g1
      have G := Lib.hid g1
      have hu : u = false := by rw [← HU.out]; unfold inI; have := G.out; simp; omega
      subst hu
      go_wp2
      refine region_later hmx (by kernel_rfl) ?_
      repeat (go_big_quiet_step ((first | (go_at_call 10; exact Calls.later (c1 _).out) | (go_at_call 11; exact Calls.later (c2 _).out) | (go_at_call 12; exact Calls.later (c3 _).out) | (go_at_call 13; exact Calls.later (c4 _).out) | (go_at_call 14; exact Calls.later (c5 _).out) | (go_at_call 15; exact Calls.later (c6 _).out) | (go_at_call 16; exact Calls.later (c7 _).out) | (go_at_call 17; exact Calls.later (c8 _).out) | (go_at_call 18; exact Calls.later (c9 _).out))))
      refine wpQuiet_nil ?_
      intro _ hw'
      obtain ⟨r, hw''⟩ := hw'
      subst hw''
      go_wp2
      go_ret
      exact ⟨rfl, (R2.out.below r.h).2⟩

end Go.Proofs.Ytlccdjkababapaa
