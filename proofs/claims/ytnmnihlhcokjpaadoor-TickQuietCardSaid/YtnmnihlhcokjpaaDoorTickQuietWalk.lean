/- The law TickQuiet, walked. -/
import Derived.Test.YtnmnihlhcokjpaaDoorPk14
import Derived.Test.YtnmnihlhcokjpaaDoorPk15
import Derived.Test.YtnmnihlhcokjpaaDoorPk16
import Derived.Test.YtnmnihlhcokjpaaDoorPk02
import Derived.Test.YtnmnihlhcokjpaaDoorPk03
import Derived.Test.YtnmnihlhcokjpaaDoorPk07
import Derived.BigQuiet
import Derived.Deep.QuietTactic
import Derived.LoopTactic
import Derived.Deep.DeepCutAuto
namespace Go.Proofs.YtnmnihlhcokjpaaDoor
set_option maxRecDepth 100000
open Go.ChangeShapes Go.WideShapes Go.ChangeAt Go.RowKit
set_option linter.unusedVariables false
set_option linter.unusedSimpArgs false

theorem po_vecR {w : World} {A : Option Addr} {B : Nat} {L : List Po} (h : PoAt w A B L) (hB : B ≤ w.heap.size) {k : Nat} {p : Po} (hp : L[k]? = some p) {ad : Addr} (hA : A = some ad) :
    ∀ v, (∃ q : LaterW w, v = q.w') → ∀ i u, ([.int .u64 p.hr, .int .u32 p.hc, .int .u64 p.hb, .int .u16 p.hp] : List Value)[i]? = some u → v.cell? ((⟨(ad.add (k * 15)).block, (ad.add (k * 15)).off + 3, none⟩ : Addr).add i) = some u := fun v hv i u hu => by
  obtain ⟨q, rfl⟩ := hv
  have h1 := (h.below q.h hB).at hp hA
  have hi4 : i < 4 := by
    rcases Nat.lt_or_ge i 4 with z | z
    · exact z
    · rw [List.getElem?_eq_none (by simpa using z)] at hu; cases hu
  have h2 := h1 (3 + i) u (by
    match i, hi4 with
    | 0, _ => exact hu
    | 1, _ => exact hu
    | 2, _ => exact hu
    | 3, _ => exact hu)
  rw [← h2]
  by_cases hi0 : i = 0
  · subst hi0; simp [Addr.add]
  · simp [Addr.add, hi0, Nat.add_assoc]
set_option maxHeartbeats 8000000 in
theorem TickQuiet_walk (t : Th) (A : Option Addr) (n cap : Nat) (L : List Po) (w : World) (hd : Hd w) (ht : ThB t) (hm : TmB t) (hL : L.length = n) (hn : n ≤ 9223372036854775807) (hz : A = none → cap = 0) (hb : ∀ x ∈ L, PoB x) (hp : PoAt w A w.heap.size L) :
    Calls Tryd.prog 5 #[.agg (lT t A n cap).toArray] w fun e w' => e = .returned (.bool true) ∧ Below w.heap.size w w' := by
  have HA := fun W (h : Below w.heap.size w W) => Lib.hid (awake16_is W (hd.below h (Nat.le_refl _)))
  have HD := Lib.hid hd
  have HB := Lib.hid hb
  have HTB := Lib.hid ht
  have HL := Lib.hid hL
  have HP := Lib.hid hp
  have HCZ := Lib.hid hz
  have HF := fun W (h : Below w.heap.size w W) => Lib.hid (fits16_is t A n cap L HL hn W (Lib.hid ((HP.out.below h (Nat.le_refl _)).wide h.size)))
  clear hb hL hz hp ht hn hd hm
  obtain ⟨wb, hwb, S⟩ := hs_one w 31 (lT t A n cap)
  go_enter Tryd.func5, Tryd.ntmps5
  go_upto_region 1 with fail
  clear hwb
  obtain ⟨X, hX⟩ : ∃ X, w.heap.size = X := ⟨_, rfl⟩
  rw [hX] at S ⊢
  have HX := Lib.hid hX
  clear hX
  go_wp2_with fail
  (with_reducible refine (HA _ S.old).out.mono ?_); rintro e w1 ⟨rfl, b1⟩
  have S1 := S.below b1
  clear S b1
  have hx := S1.bk 0 rfl
  go_wp2_with (with_reducible refine wpList_load_rowG (by kernel_rfl) 31 (.tmp 1) rfl X (by kernel_rfl) _ _ (0, 0) _ hx Tryd.underlying31 rfl (by kernel_rfl) ?_)
  (with_reducible refine (HF _ S1.old).out.mono ?_); rintro e w2 ⟨q, rfl, hq, b2⟩
  have S2 := S1.below b2
  have HQ := Lib.hid hq
  clear S1 hx HF b2 hq
  cases q with
  | false =>
    go_wp2_with fail
    (with_reducible refine (HA _ S2.old).out.mono ?_); rintro e wq ⟨rfl, bq⟩
    have Sq := S2.below bq
    go_wp2
    go_ret
    exact ⟨rfl, HX.out ▸ Sq.old⟩
  | true =>
    have HOK := Lib.hid (show TickOk t L n from ⟨⟨HTB.out, (HQ.out rfl).1, HB.out, HL.out, (HQ.out rfl).2.2.1⟩, (HQ.out rfl).2.2.2.1, (HQ.out rfl).2.2.2.2⟩)
    have hn2 : n ≤ 100 := by have := (HQ.out rfl).2.1; omega
    have hn3 : n ≤ 200 := by omega
    clear HQ HA
    have c12 := S2.cell 0 12 rfl rfl
    have c14 := S2.cell 0 14 rfl rfl
    have c16 := S2.cell 0 16 rfl rfl
    have c4 := S2.cell 0 4 rfl rfl
    obtain ⟨bho, hbho⟩ : ∃ b, t.ho = b := ⟨_, rfl⟩
    rw [hbho] at c12
    have HBho := Lib.hid hbho
    clear hbho
    cases bho with
    | true =>
      go_wp2
      go_ret
      exact ⟨rfl, HX.out ▸ S2.old⟩
    | false =>
    obtain ⟨bxo, hbxo⟩ : ∃ b, t.xo = b := ⟨_, rfl⟩
    rw [hbxo] at c14
    have HBxo := Lib.hid hbxo
    clear hbxo
    cases bxo with
    | true =>
      go_wp2
      go_ret
      exact ⟨rfl, HX.out ▸ S2.old⟩
    | false =>
    obtain ⟨bzo, hbzo⟩ : ∃ b, t.zo = b := ⟨_, rfl⟩
    rw [hbzo] at c16
    have HBzo := Lib.hid hbzo
    clear hbzo
    cases bzo with
    | true =>
      go_wp2
      go_ret
      exact ⟨rfl, HX.out ▸ S2.old⟩
    | false =>
    obtain ⟨bn, hbn⟩ : ∃ b, decide (t.n1 < 20000) = b := ⟨_, rfl⟩
    have HBN := Lib.hid hbn
    cases bn with
    | true =>
      go_wp2
      go_ret
      exact ⟨rfl, HX.out ▸ S2.old⟩
    | false =>
    go_wp2
    clear c12 c14 c16 c4 hbn
    go_loopw [3] (fun i wr => ∃ k : Nat, k ≤ n ∧ i = .int .i64 k ∧ Hid (∀ (j : Nat) x, j < k → L[j]? = some x → x.pe = false ∧ x.yo = false ∧ (x.ao = true → x.av ≤ 10000)) ∧ Hs w [(X, 31, lT t A n cap)] wr) (fun i _ => n - (intOf i).toNat)
    case atStart => exact ⟨0, Nat.zero_le _, rfl, Lib.hid (fun j x h => by omega), S2⟩
    case round =>
      clear S2
      obtain ⟨k, hk, rfl, hu, S⟩ := hrel
      have x18 := S.cell 0 18 rfl rfl
      by_cases hkn : k < n
      · obtain ⟨x, hx⟩ := po_at HL.out hkn
        have hki : (k : Int) < (n : Int) := by omega
        have hkz : ¬ (n : Int) ≤ (k : Int) := by omega
        have HPW := Lib.hid ((HP.out.below S.old (Nat.le_refl _)).wide S.old.size)
        obtain ⟨ad, rfl⟩ := HPW.out.some hx
        have hat := HPW.out.at hx rfl
        have HXK := Lib.hid hx
        clear hx
        go_upto_region 9 with (first | (with_reducible refine wpList_load_at rfl 42 (.tmp 45) rfl (ad.add (k * 15)) (by kernel_rfl) (lP x) _ hat Tryd.underlying42 rfl (by kernel_rfl) ?_) | (refine wpList_store_row rfl 42 _ _ rfl _ _ rfl rfl _ _ (heap_alloc_new _ _) (by kernel_rfl) (by kernel_rfl) (by kernel_rfl) ?_))
        rw [alloc_row]
        have S5 := S.al rfl 42 (lP x)
        obtain ⟨P, hP⟩ : ∃ P, wr.heap.size = P := ⟨_, rfl⟩
        rw [hP] at S5 ⊢
        obtain ⟨w5, hw5⟩ : ∃ v, wr.alloc (.cells (lP x).toArray 42) = v := ⟨_, rfl⟩
        rw [hw5] at S5 ⊢
        clear hw5 hP S hat HPW x18
        have p8 := S5.cell 0 8 rfl rfl
        have p11 := S5.cell 0 11 rfl rfl
        have p9 := S5.cell 0 9 rfl rfl
        have p10 := S5.cell 0 10 rfl rfl
        obtain ⟨bpe, hbpe⟩ : ∃ b, x.pe = b := ⟨_, rfl⟩
        rw [hbpe] at p8
        have HBpe := Lib.hid hbpe
        clear hbpe
        cases bpe with
        | true =>
          go_wp2
          go_ret
          exact ⟨rfl, HX.out ▸ S5.old⟩
        | false =>
        obtain ⟨byo, hbyo⟩ : ∃ b, x.yo = b := ⟨_, rfl⟩
        rw [hbyo] at p11
        have HByo := Lib.hid hbyo
        clear hbyo
        cases byo with
        | true =>
          go_wp2
          go_ret
          exact ⟨rfl, HX.out ▸ S5.old⟩
        | false =>
        obtain ⟨bao, hbao⟩ : ∃ b, x.ao = b := ⟨_, rfl⟩
        rw [hbao] at p9
        have HBao := Lib.hid hbao
        clear hbao
        cases bao with
        | false =>
          have S6 := S5.tail
          clear S5
          go_wp2
          exact ⟨⟨k + 1, hkn, by go_num, Lib.hid (fun j z hj hz => by
            by_cases e : j = k
            · subst e
              rw [HXK.out] at hz
              cases hz
              exact ⟨HBpe.out, HByo.out, fun q => by rw [HBao.out] at q; cases q⟩
            · exact hu.out j z (by omega) hz), S6⟩, by simp [intOf]; omega⟩
        | true =>
          obtain ⟨bv, hbv⟩ : ∃ b, decide (10000 < x.av) = b := ⟨_, rfl⟩
          have HBV := Lib.hid hbv
          cases bv with
          | true =>
            go_wp2
            go_ret
            exact ⟨rfl, HX.out ▸ S5.old⟩
          | false =>
            have S6 := S5.tail
            clear S5
            go_wp2
            exact ⟨⟨k + 1, hkn, by go_num, Lib.hid (fun j z hj hz => by
              by_cases e : j = k
              · subst e
                rw [HXK.out] at hz
                cases hz
                exact ⟨HBpe.out, HByo.out, fun _ => by have := of_decide_eq_false HBV.out; omega⟩
              · exact hu.out j z (by omega) hz), S6⟩, by simp [intOf]; omega⟩
      · have hkz : ¬ (k : Int) < (n : Int) := by omega
        have hke : k = n := by omega
        have HQT := Lib.hid (quiet_tick (t := t) (L := L) ⟨HBho.out, HBxo.out, HBzo.out, by have := of_decide_eq_false HBN.out; omega, fun p hp => by
          obtain ⟨j, hj, e⟩ := List.getElem_of_mem hp
          exact hu.out j p (by have := HL.out; omega) (by rw [List.getElem?_eq_getElem hj, e])⟩)
        have HT := Lib.hid (tick_is t A n cap L (Lib.hid HOK.out.bd.1) (Lib.hid HOK.out.bd.2.1) (Lib.hid HOK.out.bd.2.2.1) (Lib.hid HOK.out.bd.2.2.2.1) (Lib.hid HOK.out.bd.2.2.2.2.1) hn2 (Lib.hid HOK.out.bd.2.2.2.2.2.1) (Lib.hid HOK.out.bd.2.2.2.2.2.2) HCZ wr (HD.out.below S.old (Nat.le_refl _)) (Lib.hid ((HP.out.below S.old (Nat.le_refl _)).wide S.old.size)))
        rw [HQT.out] at HT
        clear HQT hu hke
        go_upto_region 11 with fail
        clear x18 hkz
        have hx := S.bk 0 rfl
        go_wp2_with (with_reducible refine wpList_load_row rfl 31 (.tmp 1) rfl X (by kernel_rfl) _ _ (0, 0) _ hx Tryd.underlying31 rfl (by kernel_rfl) ?_)
        (with_reducible refine HT.out.mono ?_); rintro e w3 ⟨D, c, v, rfl, hzd, k3, hO⟩
        have S3 := TS.take S k3
        clear S hx HT k3 hzd
        obtain ⟨A', cap', rfl⟩ : ∃ A' cap', v = .slice A' 0 cap' := by
          obtain ⟨C, hC, hown, -⟩ := hO
          obtain ⟨A', cap', e⟩ := OwnL.shape hown
          exact ⟨A', cap', by rw [e, ← show C.length = 0 from by have := congrArg List.length hC; simpa using this]⟩
        clear hO
        go_upto_region 12 with (refine wpList_store_row rfl 31 _ _ rfl _ _ rfl rfl _ _ (heap_alloc_new _ _) (by kernel_rfl) (by kernel_rfl) (by kernel_rfl) ?_)
        rw [alloc_row]
        have bN := new_below w3 (.cells (lT (tkT t) D n c).toArray 31)
        have S4 := S3.al rfl 31 (lT (tkT t) D n c)
        obtain ⟨U, hU⟩ : ∃ q, w3.heap.size = q := ⟨_, rfl⟩
        rw [hU] at S4 ⊢
        obtain ⟨w4, hww⟩ : ∃ y, w3.alloc (.cells (lT (tkT t) D n c).toArray 31) = y := ⟨_, rfl⟩
        rw [hww] at S4  ⊢
        clear hww hU bN S3 
        have HT1 := fun W => Lib.hid (show Calls Tryd.prog 17 #[.agg (lT (tkT t) D n c).toArray] W fun e w' => e = .returned (.agg #[.int .u64 t.ro, .int .u32 t.co, .int .u64 t.ow, .int .u16 0]) ∧ Below W.heap.size W w' from telling_is (tkT t) D n c W)
        have HT2 := fun W => Lib.hid (telling_is t A n cap W)
        have E := fun W => vec_eq t.ro t.co t.ow 0 t.ro t.co t.ow 0 true (by simp) W
        try simp only [Act.put]
        go_cut [79] (fun u wx => u = .bool false ∧ Below w4.heap.size w4 wx)
        case first =>
          refine region_later mixedL (by kernel_rfl) ?_
          go_big_quiet_step (fail)
          go_big_quiet_step (fail)
          go_big_quiet_step (fail)
          go_big_quiet_step (fail)
          (refine BigFrame.wpQuiet_want (by kernel_rfl) (fun K hK => ?_); refine quiet_load_row 31 _ rfl U (by kernel_rfl) _ _ (0, 0) _ (fun w hw => by obtain ⟨q, rfl⟩ := hw; exact (S4.below q.h).hs.bk 0 rfl) Tryd.underlying31 rfl (by kernel_rfl) ?_; refine hK _ ?_; clear hK; go_simp)
          go_big_quiet_step ((go_at_call 17; with_reducible exact Calls.later (HT1 _).out))
          (refine BigFrame.wpQuiet_want (by kernel_rfl) (fun K hK => ?_); refine quiet_load_row 31 _ rfl X (by kernel_rfl) _ _ (0, 0) _ (fun w hw => by obtain ⟨q, rfl⟩ := hw; exact (S4.below q.h).hs.bk 1 rfl) Tryd.underlying31 rfl (by kernel_rfl) ?_; refine hK _ ?_; clear hK; go_simp)
          go_big_quiet_step ((go_at_call 17; with_reducible exact Calls.later (HT2 _).out))
          repeat (go_big_quiet_step (fail))
          refine wpQuiet_nil ?_
          intro r
          go_wp2_with fail
          go_meet
          exact ⟨rfl, r.h⟩
        case rest =>
          obtain ⟨rfl, B9⟩ := hcut
          rename World => w9
          have S9 := S4.below B9
          clear S4 B9 E HT1 HT2
          go_wp2
          go_loopw [7] (fun i wr => ∃ k : Nat, k ≤ n ∧ i = .int .i64 k ∧ TS w [(U, 31, lT (tkT t) D n c), (X, 31, lT t A n cap)] D (L.map (tkP t)) wr) (fun i _ => n - (intOf i).toNat)
          case atStart => exact ⟨0, Nat.zero_le _, rfl, S9⟩
          case round =>
            clear S9
            obtain ⟨k, hk, rfl, S⟩ := hrel
            have c18w := S.hs.cell 0 18 rfl rfl
            by_cases hkn : k < n
            · obtain ⟨x, hx⟩ := po_at HL.out hkn
              have hy : (L.map (tkP t))[k]? = some (tkP t x) := by rw [List.getElem?_map, hx]; rfl
              have hki : (k : Int) < (n : Int) := by omega
              have hkz : ¬ (n : Int) ≤ (k : Int) := by omega
              obtain ⟨g, e, -⟩ := S.at hy
              subst e
              have HPW := Lib.hid ((HP.out.below S.old (Nat.le_refl _)).wide S.old.size)
              obtain ⟨ad, rfl⟩ := HPW.out.some hx
              have HXK := Lib.hid hx
              have HYK := Lib.hid hy
              clear hx hy
              have c18 : ∀ q : LaterW wr, q.w'.cell? ⟨U, 18, none⟩ = some (.slice (some ⟨g, 0, none⟩) n c) := fun q => (S.below q.h).hs.cell 0 18 rfl rfl
              have d18 : ∀ q : LaterW wr, q.w'.cell? ⟨X, 18, none⟩ = some (.slice (some ad) n cap) := fun q => (S.below q.h).hs.cell 1 18 rfl rfl
              have c0 : ∀ q : LaterW wr, q.w'.cell? ⟨U, 0, none⟩ = some (.int .u64 t.ow) := fun q => (S.below q.h).hs.cell 0 0 rfl rfl
              have d0 : ∀ q : LaterW wr, q.w'.cell? ⟨X, 0, none⟩ = some (.int .u64 t.ow) := fun q => (S.below q.h).hs.cell 1 0 rfl rfl
              have p1 : ∀ q : LaterW wr, q.w'.cell? ⟨g, k * 15 + 1, none⟩ = some (.int .i64 x.st) := fun q => (S.below q.h).port_cell HYK.out 1 rfl
              have p13 : ∀ q : LaterW wr, q.w'.cell? ⟨g, k * 15 + 13, none⟩ = some (.bool (tkP t x).ho) := fun q => (S.below q.h).port_cell HYK.out 13 rfl
              have p14 : ∀ q : LaterW wr, q.w'.cell? ⟨g, k * 15 + 13 + 1, none⟩ = some (.int .i64 (tkP t x).hv) := fun q => (S.below q.h).port_cell HYK.out 14 rfl
              have r1 : ∀ q : LaterW wr, q.w'.cell? ⟨(ad.add (k * 15)).block, (ad.add (k * 15)).off + 1, none⟩ = some (.int .i64 x.st) := fun q => by
                obtain ⟨ad', e, -, -, h1⟩ := (HPW.out.below q.h (Nat.le_refl _)).cells HXK.out
                cases e
                exact h1 0 _ rfl
              have pv : ∀ v, (∃ q : LaterW wr, v = q.w') → ∀ j u, ([.int .u64 x.hr, .int .u32 x.hc, .int .u64 x.hb, .int .u16 x.hp] : List Value)[j]? = some u → v.cell? ((⟨g, k * 15 + 3, none⟩ : Addr).add j) = some u := fun v hv j u hu => by
                obtain ⟨q, rfl⟩ := hv
                have hj4 : j < 4 := by
                  rcases Nat.lt_or_ge j 4 with z | z
                  · exact z
                  · rw [List.getElem?_eq_none (by simpa using z)] at hu; cases hu
                have h := (S.below q.h).port_cell HYK.out (3 + j) (v := u) (by
                  match j, hj4 with
                  | 0, _ => exact hu
                  | 1, _ => exact hu
                  | 2, _ => exact hu
                  | 3, _ => exact hu)
                rw [← h, addr_add, Nat.add_assoc]
              have rv := po_vecR HPW.out (Nat.le_refl _) HXK.out rfl
              have pw : ∀ v, (∃ q : LaterW wr, v = q.w') → ∀ j u, (lP (tkP t x))[j]? = some u → v.cell? ((⟨g, k * 15, none⟩ : Addr).add j) = some u := fun v hv j u hu => by
                obtain ⟨q, rfl⟩ := hv
                rw [addr_add]
                exact (S.below q.h).port_cell HYK.out j hu
              have rw' : ∀ v, (∃ q : LaterW wr, v = q.w') → ∀ j u, (lP x)[j]? = some u → v.cell? ((ad.add (k * 15)).add j) = some u := fun v hv j u hu => HPW.out.atq (Nat.le_refl _) HXK.out rfl v hv j u hu
              have E := fun W => vec_eq x.hr x.hc x.hb x.hp x.hr x.hc x.hb x.hp true (by simp) W
              have hst : (x.st != x.st) = false := by simp
              obtain ⟨d, hd⟩ : ∃ d, (decide (x.hb = t.ow) && decide (x.hp = x.id)) = d := ⟨_, rfl⟩
              have HD1 := fun W => Lib.hid (desig_row (tkP t x) t.ow d (Lib.hid hd) W)
              have HD2 := fun W => Lib.hid (desig_row x t.ow d (Lib.hid hd) W)
              have HLI := fun W => Lib.hid ((limit_is W).mono (fun e w' h => (⟨h.1, h.2 ▸ Below.refl _ _⟩ : e = .returned (.int .i64 256) ∧ Below W.heap.size W w')))
              have hdd : (d != d) = false := by simp
              have hlt := hold_lt x.ho x.hv
              have HLT := Lib.hid (show (tkP t x).ho = true → (tkP t x).hv < 256 from hlt)
              clear hlt hd
              obtain ⟨yo, hyo⟩ : ∃ b, (tkP t x).ho = b := ⟨_, rfl⟩
              rw [hyo] at HLT p13
              obtain ⟨yv, hyv⟩ : ∃ b, (tkP t x).hv = b := ⟨_, rfl⟩
              rw [hyv] at HLT p14
              clear hyo hyv
              go_upto_region 17 with fail
              clear c18w
              try simp only [Act.put]
              go_cut [153] (fun u wx => u = .bool false ∧ Below wr.heap.size wr wx)
              case first =>
                cases yo with
                | false =>
                  refine region_later mixedL (by kernel_rfl) ?_
                  try simp only [List.append_eq, List.cons_append, List.nil_append]
                  go_big_quiet_step (fail)
                  go_big_quiet_step (fail)
                  go_big_quiet_step (fail)
                  go_big_quiet_step (fail)
                  go_big_quiet_step (fail)
                  go_big_quiet_step (fail)
                  go_big_quiet_step (fail)
                  go_big_quiet_step (fail)
                  go_big_quiet_step (fail)
                  go_big_quiet_step (fail)
                  go_big_quiet_step (fail)
                  go_big_quiet_step (fail)
                  go_big_quiet_step (fail)
                  go_big_quiet_step (fail)
                  go_big_quiet_step (fail)
                  go_big_quiet_step (fail)
                  go_big_quiet_step (fail)
                  go_big_quiet_step (fail)
                  go_big_quiet_step (fail)
                  (refine BigFrame.wpQuiet_want (by kernel_rfl) (fun K hK => ?_); refine quiet_load_at 40 _ rfl ⟨g, k * 15 + 3, none⟩ (by kernel_rfl) _ _ pv Tryd.underlying40 rfl (by kernel_rfl) ?_; refine hK _ ?_; clear hK; go_simp)
                  go_big_quiet_step (fail)
                  go_big_quiet_step (fail)
                  go_big_quiet_step (fail)
                  go_big_quiet_step (fail)
                  go_big_quiet_step (fail)
                  (refine BigFrame.wpQuiet_want (by kernel_rfl) (fun K hK => ?_); refine quiet_load_at 40 _ rfl ⟨(ad.add (k * 15)).block, (ad.add (k * 15)).off + 3, none⟩ (by kernel_rfl) _ _ rv Tryd.underlying40 rfl (by kernel_rfl) ?_; refine hK _ ?_; clear hK; go_simp)
                  go_big_quiet_step (fail)
                  go_big_quiet_step (fail)
                  go_big_quiet_step (fail)
                  go_big_quiet_step (fail)
                  go_big_quiet_step (fail)
                  go_big_quiet_step (fail)
                  go_big_quiet_step (fail)
                  go_big_quiet_step (fail)
                  go_big_quiet_step (fail)
                  go_big_quiet_step (fail)
                  go_big_quiet_step (fail)
                  go_big_quiet_step (fail)
                  go_big_quiet_step (fail)
                  go_big_quiet_step (fail)
                  go_big_quiet_step (fail)
                  go_big_quiet_step (fail)
                  go_big_quiet_step (fail)
                  go_big_quiet_step (fail)
                  go_big_quiet_step (fail)
                  go_big_quiet_step (fail)
                  go_big_quiet_step (fail)
                  go_big_quiet_step (fail)
                  go_big_quiet_step (fail)
                  go_big_quiet_step (fail)
                  go_big_quiet_step (fail)
                  go_big_quiet_step (fail)
                  go_big_quiet_step (fail)
                  (refine BigFrame.wpQuiet_want (by kernel_rfl) (fun K hK => ?_); refine quiet_load_at 42 _ rfl ⟨g, k * 15, none⟩ (by kernel_rfl) _ _ pw Tryd.underlying42 rfl (by kernel_rfl) ?_; refine hK _ ?_; clear hK; go_simp)
                  go_big_quiet_step (fail)
                  go_big_quiet_step (fail)
                  go_big_quiet_step ((go_at_call 19; with_reducible exact Calls.later (HD1 _).out))
                  go_big_quiet_step (fail)
                  go_big_quiet_step (fail)
                  go_big_quiet_step (fail)
                  go_big_quiet_step (fail)
                  (refine BigFrame.wpQuiet_want (by kernel_rfl) (fun K hK => ?_); refine quiet_load_at 42 _ rfl (ad.add (k * 15)) (by kernel_rfl) _ _ rw' Tryd.underlying42 rfl (by kernel_rfl) ?_; refine hK _ ?_; clear hK; go_simp)
                  go_big_quiet_step (fail)
                  go_big_quiet_step (fail)
                  go_big_quiet_step ((go_at_call 19; with_reducible exact Calls.later (HD2 _).out))
                  repeat (go_big_quiet_step (fail))
                  refine wpQuiet_nil ?_
                  intro r
                  go_wp2_with fail
                  go_meet
                  exact ⟨rfl, r.h⟩
                | true =>
                  have hge : decide (256 ≤ yv) = false := by have := HLT.out rfl; simp; omega
                  refine region_later mixedL (by kernel_rfl) ?_
                  try simp only [List.append_eq, List.cons_append, List.nil_append]
                  go_big_quiet_step (fail)
                  go_big_quiet_step (fail)
                  go_big_quiet_step (fail)
                  go_big_quiet_step (fail)
                  go_big_quiet_step (fail)
                  go_big_quiet_step (fail)
                  go_big_quiet_step (fail)
                  go_big_quiet_step (fail)
                  go_big_quiet_step (fail)
                  go_big_quiet_step (fail)
                  go_big_quiet_step (fail)
                  go_big_quiet_step (fail)
                  go_big_quiet_step (fail)
                  go_big_quiet_step (fail)
                  go_big_quiet_step (fail)
                  go_big_quiet_step (fail)
                  go_big_quiet_step (fail)
                  go_big_quiet_step (fail)
                  go_big_quiet_step (fail)
                  (refine BigFrame.wpQuiet_want (by kernel_rfl) (fun K hK => ?_); refine quiet_load_at 40 _ rfl ⟨g, k * 15 + 3, none⟩ (by kernel_rfl) _ _ pv Tryd.underlying40 rfl (by kernel_rfl) ?_; refine hK _ ?_; clear hK; go_simp)
                  go_big_quiet_step (fail)
                  go_big_quiet_step (fail)
                  go_big_quiet_step (fail)
                  go_big_quiet_step (fail)
                  go_big_quiet_step (fail)
                  (refine BigFrame.wpQuiet_want (by kernel_rfl) (fun K hK => ?_); refine quiet_load_at 40 _ rfl ⟨(ad.add (k * 15)).block, (ad.add (k * 15)).off + 3, none⟩ (by kernel_rfl) _ _ rv Tryd.underlying40 rfl (by kernel_rfl) ?_; refine hK _ ?_; clear hK; go_simp)
                  go_big_quiet_step (fail)
                  go_big_quiet_step (fail)
                  go_big_quiet_step (fail)
                  go_big_quiet_step (fail)
                  go_big_quiet_step (fail)
                  go_big_quiet_step (fail)
                  go_big_quiet_step (fail)
                  go_big_quiet_step (fail)
                  go_big_quiet_step (fail)
                  go_big_quiet_step (fail)
                  go_big_quiet_step (fail)
                  go_big_quiet_step (fail)
                  go_big_quiet_step (fail)
                  go_big_quiet_step (fail)
                  go_big_quiet_step (fail)
                  go_big_quiet_step (fail)
                  go_big_quiet_step (fail)
                  go_big_quiet_step (fail)
                  go_big_quiet_step ((go_at_call 18; with_reducible exact Calls.later (HLI _).out))
                  go_big_quiet_step (fail)
                  go_big_quiet_step (fail)
                  go_big_quiet_step (fail)
                  go_big_quiet_step (fail)
                  go_big_quiet_step (fail)
                  go_big_quiet_step (fail)
                  go_big_quiet_step (fail)
                  go_big_quiet_step (fail)
                  (refine BigFrame.wpQuiet_want (by kernel_rfl) (fun K hK => ?_); refine quiet_load_at 42 _ rfl ⟨g, k * 15, none⟩ (by kernel_rfl) _ _ pw Tryd.underlying42 rfl (by kernel_rfl) ?_; refine hK _ ?_; clear hK; go_simp)
                  go_big_quiet_step (fail)
                  go_big_quiet_step (fail)
                  go_big_quiet_step ((go_at_call 19; with_reducible exact Calls.later (HD1 _).out))
                  go_big_quiet_step (fail)
                  go_big_quiet_step (fail)
                  go_big_quiet_step (fail)
                  go_big_quiet_step (fail)
                  (refine BigFrame.wpQuiet_want (by kernel_rfl) (fun K hK => ?_); refine quiet_load_at 42 _ rfl (ad.add (k * 15)) (by kernel_rfl) _ _ rw' Tryd.underlying42 rfl (by kernel_rfl) ?_; refine hK _ ?_; clear hK; go_simp)
                  go_big_quiet_step (fail)
                  go_big_quiet_step (fail)
                  go_big_quiet_step ((go_at_call 19; with_reducible exact Calls.later (HD2 _).out))
                  repeat (go_big_quiet_step (fail))
                  refine wpQuiet_nil ?_
                  intro r
                  go_wp2_with fail
                  go_meet
                  exact ⟨rfl, r.h⟩
              case rest =>
                obtain ⟨rfl, B8⟩ := hcut
                rename World => w8
                have S8 := S.below B8
                clear S B8 c18 d18 c0 d0 p1 p13 p14 r1 pv rv pw rw' E hst HD1 HD2 HLI hdd
                go_wp2
                go_roundw
                case rel => exact ⟨k + 1, hkn, by go_num, S8⟩
                case measure => simp [intOf]; omega
            · have hkz : ¬ (k : Int) < (n : Int) := by omega
              go_wp2
              go_ret
              exact ⟨rfl, HX.out ▸ S.old⟩

end Go.Proofs.YtnmnihlhcokjpaaDoor
