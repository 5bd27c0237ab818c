/- Texts of addresses and what is read of them, one against the other. No program in sight but the two functions' lists. -/
import Derived.Test.YtddbmbnpjdpijaaIdsParse
namespace Go.Proofs.Ytddbmbnpjdpijaa
open Go

theorem hexU_toNat (d : Nat) (h : d < 16) : (hexU d).toNat = if d < 10 then 48 + d else 87 + d := by
  unfold hexU; split <;> simp <;> omega

theorem hx_isx (q : Int) : isx ((hx q).toNat : Int) = true := by
  unfold hx isx
  rw [hexU_toNat _ (by omega)]
  split <;> simp <;> omega

theorem hx_dv (q : Int) : dv ((hx q).toNat : Int) = q % 16 := by
  unfold hx dv
  rw [hexU_toNat _ (by omega)]
  split <;> (repeat' split) <;> omega

theorem isx_hexU (c : UInt8) (h : isx (c.toNat : Int) = true) : hexU (dv (c.toNat : Int)).toNat = c := by
  have hb := dv_bd (c.toNat : Int)
  apply UInt8.toNat_inj.1
  rw [hexU_toNat _ (by omega)]
  unfold isx at h
  simp at h
  unfold dv
  (repeat' split) <;> omega

theorem txt_ok (x : Int) : AllOk (txt x) 17 := by
  intro j hj
  have hj' : j = 0 ∨ j = 1 ∨ j = 2 ∨ j = 3 ∨ j = 4 ∨ j = 5 ∨ j = 6 ∨ j = 7 ∨ j = 8 ∨ j = 9 ∨ j = 10 ∨ j = 11 ∨ j = 12 ∨ j = 13 ∨ j = 14 ∨ j = 15 ∨ j = 16 := by omega
  rcases hj' with rfl | rfl | rfl | rfl | rfl | rfl | rfl | rfl | rfl | rfl | rfl | rfl | rfl | rfl | rfl | rfl | rfl <;> simp [okAt, txt, hx_isx]

theorem up16 (q r : Int) (h : r / 16 = q) : q * 16 + r % 16 = r := by omega

theorem pacc_txt (x : Int) (h0 : 0 ≤ x) (h1 : x < 281474976710656) : pacc (txt x) 17 = x := by
  have e : pacc (txt x) 17 = ((((((((((((x / 17592186044416) % 16) * 16 + (x / 1099511627776) % 16) * 16 + (x / 68719476736) % 16) * 16 + (x / 4294967296) % 16) * 16 + (x / 268435456) % 16) * 16 + (x / 16777216) % 16) * 16 + (x / 1048576) % 16) * 16 + (x / 65536) % 16) * 16 + (x / 4096) % 16) * 16 + (x / 256) % 16) * 16 + (x / 16) % 16) * 16 + (x) % 16 := by
    simp [pacc, txt, hx_dv]
  rw [e]
  clear e
  rw [show (x / 17592186044416) % 16 = x / 17592186044416 from by omega]
  rw [up16 (x / 17592186044416) (x / 1099511627776) (by omega)]
  rw [up16 (x / 1099511627776) (x / 68719476736) (by omega)]
  rw [up16 (x / 68719476736) (x / 4294967296) (by omega)]
  rw [up16 (x / 4294967296) (x / 268435456) (by omega)]
  rw [up16 (x / 268435456) (x / 16777216) (by omega)]
  rw [up16 (x / 16777216) (x / 1048576) (by omega)]
  rw [up16 (x / 1048576) (x / 65536) (by omega)]
  rw [up16 (x / 65536) (x / 4096) (by omega)]
  rw [up16 (x / 4096) (x / 256) (by omega)]
  rw [up16 (x / 256) (x / 16) (by omega)]
  rw [up16 (x / 16) (x) (by omega)]

theorem all_at {l : List UInt8} (h : AllOk l 17) (j : Nat) (hj : j < 17) (h3 : ¬ j % 3 = 2) : isx ((l.getD j 0).toNat : Int) = true := by
  have := h j hj
  unfold okAt at this
  rwa [if_neg h3] at this

theorem colon_at {l : List UInt8} (h : AllOk l 17) (j : Nat) (hj : j < 17) (h3 : j % 3 = 2) : l.getD j 0 = 58 := by
  have := h j hj
  unfold okAt at this
  rw [if_pos h3] at this
  apply UInt8.toNat_inj.1
  exact this

theorem txt_pacc (l : List UInt8) (hl : l.length = 17) (h : AllOk l 17) : txt (pacc l 17) = l := by
  match l, hl with
  | [c0, c1, c2, c3, c4, c5, c6, c7, c8, c9, c10, c11, c12, c13, c14, c15, c16], _ =>
    have k0 := isx_hexU _ (all_at h 0 (by omega) (by omega))
    have k1 := isx_hexU _ (all_at h 1 (by omega) (by omega))
    have k2 := colon_at h 2 (by omega) (by omega)
    have k3 := isx_hexU _ (all_at h 3 (by omega) (by omega))
    have k4 := isx_hexU _ (all_at h 4 (by omega) (by omega))
    have k5 := colon_at h 5 (by omega) (by omega)
    have k6 := isx_hexU _ (all_at h 6 (by omega) (by omega))
    have k7 := isx_hexU _ (all_at h 7 (by omega) (by omega))
    have k8 := colon_at h 8 (by omega) (by omega)
    have k9 := isx_hexU _ (all_at h 9 (by omega) (by omega))
    have k10 := isx_hexU _ (all_at h 10 (by omega) (by omega))
    have k11 := colon_at h 11 (by omega) (by omega)
    have k12 := isx_hexU _ (all_at h 12 (by omega) (by omega))
    have k13 := isx_hexU _ (all_at h 13 (by omega) (by omega))
    have k14 := colon_at h 14 (by omega) (by omega)
    have k15 := isx_hexU _ (all_at h 15 (by omega) (by omega))
    have k16 := isx_hexU _ (all_at h 16 (by omega) (by omega))
    simp at k0 k1 k2 k3 k4 k5 k6 k7 k8 k9 k10 k11 k12 k13 k14 k15 k16
    have b0 := dv_bd (c0.toNat : Int)
    have b1 := dv_bd (c1.toNat : Int)
    have b3 := dv_bd (c3.toNat : Int)
    have b4 := dv_bd (c4.toNat : Int)
    have b6 := dv_bd (c6.toNat : Int)
    have b7 := dv_bd (c7.toNat : Int)
    have b9 := dv_bd (c9.toNat : Int)
    have b10 := dv_bd (c10.toNat : Int)
    have b12 := dv_bd (c12.toNat : Int)
    have b13 := dv_bd (c13.toNat : Int)
    have b15 := dv_bd (c15.toNat : Int)
    have b16 := dv_bd (c16.toNat : Int)
    simp [pacc, txt, k2, k5, k8, k11, k14]
    generalize dv (c0.toNat : Int) = d0 at *
    generalize dv (c1.toNat : Int) = d1 at *
    generalize dv (c3.toNat : Int) = d3 at *
    generalize dv (c4.toNat : Int) = d4 at *
    generalize dv (c6.toNat : Int) = d6 at *
    generalize dv (c7.toNat : Int) = d7 at *
    generalize dv (c9.toNat : Int) = d9 at *
    generalize dv (c10.toNat : Int) = d10 at *
    generalize dv (c12.toNat : Int) = d12 at *
    generalize dv (c13.toNat : Int) = d13 at *
    generalize dv (c15.toNat : Int) = d15 at *
    generalize dv (c16.toNat : Int) = d16 at *
    refine ⟨?_, ?_, ?_, ?_, ?_, ?_, ?_, ?_, ?_, ?_, ?_, ?_⟩
    · rw [← k0]; unfold hx; congr 2; omega
    · rw [← k1]; unfold hx; congr 2; omega
    · rw [← k3]; unfold hx; congr 2; omega
    · rw [← k4]; unfold hx; congr 2; omega
    · rw [← k6]; unfold hx; congr 2; omega
    · rw [← k7]; unfold hx; congr 2; omega
    · rw [← k9]; unfold hx; congr 2; omega
    · rw [← k10]; unfold hx; congr 2; omega
    · rw [← k12]; unfold hx; congr 2; omega
    · rw [← k13]; unfold hx; congr 2; omega
    · rw [← k15]; unfold hx; congr 2; omega
    · rw [← k16]; unfold hx; congr 2; omega

end Go.Proofs.Ytddbmbnpjdpijaa
