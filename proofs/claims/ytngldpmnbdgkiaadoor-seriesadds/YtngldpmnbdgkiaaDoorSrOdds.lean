/- The walks of an edge's odds and powers: sums ahead of the first power, the first term, that is at most 1. -/
import Derived.Test.YtngldpmnbdgkiaaDoorSrEdge
namespace Go.Proofs.YtngldpmnbdgkiaaDoor
open Go.RowKit

/-- What odds and powers tell: a sum, and what it ends at. -/
def SumTold (w : World) (t p : Nat → Nat) (e : Ending) (w' : World) : Prop :=
  ∃ q A1 m1 c1 zs A2 m2 c2 us, e = .returned (.tuple #[.slice A1 m1 c1, .slice A2 m2 c2]) ∧ m1 ≤ 200 ∧ m2 ≤ 200 ∧ Lim w' A1 m1 c1 zs ∧ Lim w' A2 m2 c2 us ∧ Below w.heap.size w w' ∧ q ≤ 20000 ∧ p q ≤ 1 ∧ (∀ j, j < q → 1 < p j) ∧ val zs = sn t q ∧ val us = p q

/-- Sums of so many that aren't great. -/
theorem sn_top {t : Nat → Nat} {P : Nat} : ∀ k, (∀ j, j < k → t j ≤ P) → sn t k ≤ k * P := by
  intro k
  induction k with
  | zero => intro _; exact Nat.zero_le _
  | succ k ih =>
    intro h
    have h1 := ih (fun j hj => h j (by omega))
    have h2 := h k (Nat.lt_succ_self k)
    rw [Nat.add_mul, Nat.one_mul]
    show sn t k + t k ≤ _
    omega
/-- .. so they are short. -/
theorem sn_short {t : Nat → Nat} {w k : Nat} (hw : w ≤ 9100) (hk : k ≤ 10000) (h : ∀ j, j < k → t j ≤ 2 ^ w) : blen (sn t k) ≤ 64 * 200 := by
  have h1 := sn_top k h
  have h2 : k * 2 ^ w < 2 ^ 14 * 2 ^ w := Nat.mul_lt_mul_of_pos_right (by omega) (Nat.two_pow_pos w)
  rw [← Nat.pow_add] at h2
  have h3 : blen (sn t k) ≤ 14 + w := blen_le_iff.2 (Nat.lt_of_le_of_lt h1 h2)
  omega
theorem blen_tops {V w : Nat} (h : V ≤ 2 ^ w) : blen V ≤ w + 1 := by
  refine blen_le_iff.2 ?_
  have : 2 ^ w < 2 ^ (w + 1) := Nat.pow_lt_pow_right (by decide) (Nat.lt_succ_self w)
  omega

/-- The powers of a fraction that is at most a third fall. -/
theorem pk_top (g : Bool) {U D p w : Nat} (hD : 0 < D) (h9 : 9 * U ≤ D) (hp : p ≤ 2 ^ w) : ∀ k, (∀ j, j < k → 1 < pk g U D p j) → pk g U D p k ≤ 2 ^ w ∧ k + blen (pk g U D p k - 1) ≤ w := by
  intro k
  induction k with
  | zero =>
    intro _
    have h1 : p - 1 ≤ 2 ^ w - 1 := by omega
    have h2 := blen_mono h1
    have h3 := blen_less (w := w)
    refine ⟨hp, ?_⟩
    show 0 + blen (p - 1) ≤ w
    omega
  | succ k ih =>
    intro h
    obtain ⟨i1, i2⟩ := ih (fun j hj => h j (by omega))
    have h1 := h k (Nat.lt_succ_self k)
    have h2 := pk_step g hD h9 (p := p) k
    refine ⟨by omega, less_bits h2 h1 i2⟩
theorem tk1_top (g : Bool) {U D p : Nat} (k : Nat) : tk1 g U D p k ≤ pk g U D p k :=
  ov_most (by omega) g (Nat.le_mul_of_pos_right _ (by omega))

set_option maxHeartbeats 2000000 in
theorem sodds_l (g : Bool) (A : Option Addr) (n c : Nat) (xs : List Nat) (B : Option Addr) (m d : Nat) (ys : List Nat) (k : Nat) (w : World) (hA : Lim w A n c xs) (hB : Lim w B m d ys) (hn : n ≤ 70) (hm : m ≤ 70) (hT : Tab w) (hY : val ys ≠ 0) (h3 : 3 * val xs ≤ val ys) (hx : blen (val xs) ≤ 4096) (hy : blen (val ys) ≤ 4096) (hk : k ≤ 9100) :
    Calls Tryd.prog 58 #[.bool g, .slice A n c, .slice B m d, .int .i64 (k : Int)] w (SumTold w (tk1 g (val xs * val xs) (val ys * val ys) (ov g (val xs * 2 ^ k) (val ys))) (pk g (val xs * val xs) (val ys * val ys) (ov g (val xs * 2 ^ k) (val ys)))) := by
  obtain ⟨X, hX⟩ : ∃ X, val xs = X := ⟨_, rfl⟩
  obtain ⟨Y, hYY⟩ : ∃ Y, val ys = Y := ⟨_, rfl⟩
  obtain ⟨U, hU⟩ : ∃ U, X * X = U := ⟨_, rfl⟩
  obtain ⟨D, hD⟩ : ∃ D, Y * Y = D := ⟨_, rfl⟩
  have h1 := mul_any A n c xs A n c xs w hA hA (by omega) (by omega) (Or.inr (Or.inr (by omega)))
  have h2 : Hid (∀ u, Below w.heap.size w u → Calls Tryd.prog 74 #[.slice B m d, .slice B m d] u (Tells2 u D (m + m) (.int .i64 0))) := fun u hu => by
    have h := mul_any B m d ys B m d ys u (hB.below hu) (hB.below hu) (by omega) (by omega) (Or.inr (Or.inr (by omega)))
    rw [hYY, hD] at h
    exact h
  have hbU : blen U ≤ 8192 := by
    rw [← hU, ← hX]
    have := blen_mul_le (val xs) (val xs)
    omega
  have h3' : Hid (∀ u, Below w.heap.size w u → Calls Tryd.prog 23 #[.slice A n c, .int .i64 (k : Int)] u (Tells2 u (X * 2 ^ k) (k + n + 1) (.int .i64 0))) := fun u hu => by
    have h := shl_all A n c xs u (hA.below hu) (by omega) k (Or.inl (by omega))
    rw [hX] at h
    exact h
  rw [hX, hU] at h1
  rw [hX, hYY, hU, hD]
  rw [hX, hYY] at h3
  rw [hYY] at hY
  have hY0 : 0 < Y := Nat.pos_of_ne_zero hY
  have hD0 : 0 < D := by rw [← hD]; exact Nat.mul_pos hY0 hY0
  have h9 : 9 * U ≤ D := by
    rw [← hU, ← hD]
    have := Nat.mul_le_mul h3 h3
    rw [show 3 * X * (3 * X) = 9 * (X * X) by rw [Nat.mul_assoc, Nat.mul_left_comm X 3 X, ← Nat.mul_assoc]] at this
    exact this
  obtain ⟨p, hp⟩ : ∃ p, ov g (X * 2 ^ k) Y = p := ⟨_, rfl⟩
  have hpk : p ≤ 2 ^ k := by
    rw [← hp]
    refine ov_most hY0 g ?_
    rw [Nat.mul_comm]
    exact Nat.mul_le_mul_left _ (by omega)
  have HP := Lib.hid (pk_top g (U := U) (D := D) (p := p) (w := k) hD0 h9 hpk)
  have HH : Hid (Lim w B m d ys ∧ val ys = Y ∧ Y ≠ 0 ∧ Tab w) := ⟨hB, hYY, hY, hT⟩
  have H1 := Lib.hid h1
  have Hp := Lib.hid hp
  have HD0 := Lib.hid hD0
  rw [hp]
  clear h1 hA hB hT hX hYY hU hD hY h3 hx hy hY0 h9 hp hpk hD0
  go_enter Tryd.func58, Tryd.ntmps58
  go_wp2_with fail
  refine H1.out.mono ?_
  rintro e w1 ⟨A1, m1, c1, uu, rfl, hm1, hl1, hb1, hv1, hB1⟩
  have HU : Hid (Lim w1 A1 m1 c1 uu ∧ val uu = U) := ⟨hl1, hv1⟩
  have HS := Lib.hid hB1
  have H2 := Lib.hid (h2.out w1 hB1)
  clear hl1 hb1 hv1 hB1 H1 h2
  go_wp2_with fail
  refine H2.out.mono ?_
  rintro e w2 ⟨A2, m2, c2, dd, rfl, hm2, hl2, hb2, hv2, hB2⟩
  replace HU : Hid (Lim w2 A1 m1 c1 uu ∧ val uu = U) := ⟨HU.out.1.below hB2, HU.out.2⟩
  replace HS := Lib.hid (HS.out.trans (hB2.mono HS.out.size))
  have HD : Hid (Lim w2 A2 m2 c2 dd ∧ val dd = D) := ⟨hl2, hv2⟩
  have H3 := Lib.hid (h3'.out w2 HS.out)
  clear hl2 hb2 hv2 hB2 H2 h3'
  go_wp2_with fail
  refine H3.out.mono ?_
  rintro e w3 ⟨A3, m3, c3, ll, rfl, hm3, hl3, hb3, hv3, hB3⟩
  replace HU : Hid (Lim w3 A1 m1 c1 uu ∧ val uu = U) := ⟨HU.out.1.below hB3, HU.out.2⟩
  replace HD : Hid (Lim w3 A2 m2 c2 dd ∧ val dd = D) := ⟨HD.out.1.below hB3, HD.out.2⟩
  replace HS := Lib.hid (HS.out.trans (hB3.mono HS.out.size))
  have h4 := sover_l g A3 m3 c3 ll B m d ys w3 hl3 (HH.out.1.below HS.out) (by omega) (by omega) (by rw [HH.out.2.1]; exact HH.out.2.2.1) (HH.out.2.2.2.below HS.out)
  rw [hv3, HH.out.2.1, Hp.out] at h4
  have H4 := Lib.hid h4
  clear h4 hl3 hb3 hv3 hB3 H3 Hp
  go_wp2_with fail
  refine H4.out.mono ?_
  rintro e w4 ⟨A4, m4, c4, vs, rfl, hm4, hl4, hb4, hv4, hB4⟩
  replace HU : Hid (Lim w4 A1 m1 c1 uu ∧ val uu = U) := ⟨HU.out.1.below hB4, HU.out.2⟩
  replace HD : Hid (Lim w4 A2 m2 c2 dd ∧ val dd = D) := ⟨HD.out.1.below hB4, HD.out.2⟩
  replace HS := Lib.hid (HS.out.trans (hB4.mono HS.out.size))
  have HT := Lib.hid (HH.out.2.2.2.below HS.out)
  have hs4 : m4 ≤ 200 := bare_le hl4 hb4 (by
    have h5 := blen_tops (HP.out 0 (fun j hj => absurd hj (Nat.not_lt_zero j))).1
    have h6 : val vs = pk g U D p 0 := hv4
    rw [h6]
    omega)
  have HL : Hid (Lim w4 A4 m4 c4 vs ∧ val vs = p) := ⟨hl4, hv4⟩
  clear hl4 hb4 hv4 hB4 H4 HH hm4
  go_wp2_with fail
  go_loopw [8, 9, 14] (fun s8 s9 s14 wr => ∃ (j K a1 b1 a2 b2 : Nat) (Z1 Z2 : Option Addr) (zs us : List Nat), s8 = .slice Z1 a1 b1 ∧ s9 = .slice Z2 a2 b2 ∧ s14 = .int .u64 (K : Int) ∧ a1 ≤ 200 ∧ a2 ≤ 200 ∧ Hid (K = 2 * j + 1) ∧ j ≤ k + 1 ∧ K ≤ 100000 ∧ Hid (Lim wr Z1 a1 b1 zs ∧ val zs = sn (tk1 g U D p) j) ∧ Hid (Lim wr Z2 a2 b2 us ∧ val us = pk g U D p j) ∧ Hid (∀ i, i < j → 1 < pk g U D p i) ∧ Hid (Below w4.heap.size w4 wr)) (fun _ _ s14 _ => 100000 - (intOf s14).toNat)
  case atStart => exact ⟨0, 1, 0, 0, m4, c4, none, A4, [], vs, rfl, rfl, rfl, by decide, hs4, rfl, by omega, by decide, ⟨Lim.nil _ _ _, rfl⟩, HL.out, fun j hj => absurd hj (Nat.not_lt_zero j), Below.refl _ _⟩
  case round =>
    obtain ⟨w5, rfl⟩ : ∃ w5, w5 = wr := ⟨_, rfl⟩
    obtain ⟨j, K, a1, b1, a2, b2, Z1, Z2, zs, us, rfl, rfl, rfl, ha1, ha2, HK, hj, hK, HZ, HV, HF, HS5⟩ := hrel
    obtain ⟨b, hb⟩ : ∃ b, blen (pk g U D p j) = b := ⟨_, rfl⟩
    have h5 := bits_l b Z2 a2 b2 us w5 HV.out.1 (by omega) (by show _ = _; rw [HV.out.2]; exact hb)
    have H5 := Lib.hid h5
    have htop := HP.out j HF.out
    have hbt := blen_tops htop.1
    rw [hb] at hbt
    clear h5 HL
    by_cases h1 : 1 < b
    · have d1 : decide ((1 : Int) < (b : Int)) = true := decide_eq_true (by omega)
      have d2 : decide (1 < b) = true := decide_eq_true h1
      have hgt : 1 < pk g U D p j := Nat.lt_of_not_le fun h9 => by
        have := blen_mono h9
        rw [hb, show blen 1 = 1 from rfl] at this
        omega
      have hjk : j + 1 ≤ k + 1 := by
        have := htop.2
        have := blen_pos (show pk g U D p j - 1 ≠ 0 by omega)
        omega
      have HF2 : Hid (∀ i, i < j + 1 → 1 < pk g U D p i) := fun i hi => by
        rcases Nat.lt_or_ge i j with h | h
        · exact HF.out i h
        · rw [show i = j by omega]; exact hgt
      have H6 := Lib.hid (of_any K (by omega) w5)
      obtain ⟨K2, hK2⟩ : ∃ K2, K + 2 = K2 := ⟨_, rfl⟩
      have eK : (K : Int) + 2 = (K2 : Int) := by omega
      have hK29 : K2 ≤ 100000 := by have := HK.out; omega
      have HK2 : Hid (K2 = 2 * (j + 1) + 1) := by show _ = _; have := HK.out; omega
      have hKK : K < K2 := by omega
      have Hbb : Hid (blen (pk g U D p j) ≤ 9101) := by show _ ≤ _; rw [hb]; omega
      clear htop hb hgt h1 hK2 HF
      go_wp2_with fail
      refine H5.out.mono ?_
      rintro e w' ⟨rfl, rfl⟩
      go_wp2_with fail
      refine H6.out.mono ?_
      rintro e w6 ⟨A6, m6, c6, es, rfl, hm6, hl6, hb6, hv6, hB6⟩
      have h7 := sover_l g Z2 a2 b2 us A6 m6 c6 es w6 (HV.out.1.below hB6) hl6 (by omega) (by omega) (by rw [hv6, HK.out]; omega) (HT.out.below (HS5.out.trans (hB6.mono HS5.out.size)))
      rw [HV.out.2, hv6, HK.out] at h7
      have H7 : Hid (Calls Tryd.prog 77 #[.bool g, .slice Z2 a2 b2, .slice A6 m6 c6] w6 (Tells w6 (tk1 g U D p j) (a2 + 2))) := h7
      replace HZ : Hid (Lim w6 Z1 a1 b1 zs ∧ val zs = sn (tk1 g U D p) j) := ⟨HZ.out.1.below hB6, HZ.out.2⟩
      replace HV : Hid (Lim w6 Z2 a2 b2 us ∧ val us = pk g U D p j) := ⟨HV.out.1.below hB6, HV.out.2⟩
      replace HS5 := Lib.hid (HS5.out.trans (hB6.mono HS5.out.size))
      clear h7 hl6 hb6 hv6 hB6 H5 H6 HK
      go_wp2_with fail
      refine H7.out.mono ?_
      rintro e w7 ⟨A7, m7, c7, ts, rfl, hm7, hl7, hb7, hv7, hB7⟩
      have h8 := add_any Z1 a1 b1 zs A7 m7 c7 ts w7 (HZ.out.1.below hB7) hl7 (by omega) (by omega)
      rw [HZ.out.2, hv7] at h8
      have H8 : Hid (Calls Tryd.prog 30 #[.slice Z1 a1 b1, .slice A7 m7 c7] w7 (Tells w7 (sn (tk1 g U D p) (j + 1)) (max a1 m7 + 1))) := h8
      replace HV : Hid (Lim w7 Z2 a2 b2 us ∧ val us = pk g U D p j) := ⟨HV.out.1.below hB7, HV.out.2⟩
      replace HS5 := Lib.hid (HS5.out.trans (hB7.mono HS5.out.size))
      clear h8 hl7 hb7 hv7 hB7 H7 HZ
      go_wp2_with fail
      refine H8.out.mono ?_
      rintro e w8 ⟨A8, m8, c8, gs, rfl, hm8, hl8, hb8, hv8, hB8⟩
      have hs8 : m8 ≤ 200 := bare_le hl8 hb8 (by
        rw [hv8]
        refine sn_short hk (by omega) (fun i hi => ?_)
        have h9 := (HP.out i (fun l hl => HF2.out l (by omega))).1
        have := tk1_top g (U := U) (D := D) (p := p) i
        omega)
      replace HV : Hid (Lim w8 Z2 a2 b2 us ∧ val us = pk g U D p j) := ⟨HV.out.1.below hB8, HV.out.2⟩
      replace HS5 := Lib.hid (HS5.out.trans (hB8.mono HS5.out.size))
      have HG : Hid (Lim w8 A8 m8 c8 gs ∧ val gs = sn (tk1 g U D p) (j + 1)) := ⟨hl8, hv8⟩
      have h9 := mul_any Z2 a2 b2 us A1 m1 c1 uu w8 HV.out.1 (HU.out.1.below HS5.out) (by omega) (by omega) (Or.inr (Or.inr (by
        rw [HV.out.2, HU.out.2]
        have := Hbb.out
        omega)))
      rw [HV.out.2, HU.out.2] at h9
      have H9 := Lib.hid h9
      clear h9 hl8 hb8 hv8 hB8 H8 HV Hbb hm8
      go_wp2_with fail
      refine H9.out.mono ?_
      rintro e w9 ⟨A9, m9, c9, qs, rfl, hm9, hl9, hb9, hv9, hB9⟩
      replace HG : Hid (Lim w9 A8 m8 c8 gs ∧ val gs = sn (tk1 g U D p) (j + 1)) := ⟨HG.out.1.below hB9, HG.out.2⟩
      replace HS5 := Lib.hid (HS5.out.trans (hB9.mono HS5.out.size))
      have h10 := sover_l g A9 m9 c9 qs A2 m2 c2 dd w9 hl9 (HD.out.1.below HS5.out) (by omega) (by omega) (by rw [HD.out.2]; have := HD0.out; omega) (HT.out.below HS5.out)
      rw [hv9, HD.out.2] at h10
      have H10 : Hid (Calls Tryd.prog 77 #[.bool g, .slice A9 m9 c9, .slice A2 m2 c2] w9 (Tells w9 (pk g U D p (j + 1)) (m9 + 2))) := h10
      clear h10 hl9 hb9 hv9 hB9 H9
      go_wp2_with fail
      refine H10.out.mono ?_
      rintro e w10 ⟨Aa, ma, ca, ks, rfl, hma, hla, hba, hva, hBa⟩
      have hsa : ma ≤ 200 := bare_le hla hba (by
        rw [hva]
        have := blen_tops (HP.out (j + 1) HF2.out).1
        omega)
      replace HG : Hid (Lim w10 A8 m8 c8 gs ∧ val gs = sn (tk1 g U D p) (j + 1)) := ⟨HG.out.1.below hBa, HG.out.2⟩
      replace HS5 := Lib.hid (HS5.out.trans (hBa.mono HS5.out.size))
      have HV2 : Hid (Lim w10 Aa ma ca ks ∧ val ks = pk g U D p (j + 1)) := ⟨hla, hva⟩
      clear hla hba hva hBa H10
      go_wp2
      go_roundw
      case rel => exact ⟨j + 1, K2, m8, c8, ma, ca, A8, Aa, gs, ks, rfl, rfl, by first | rfl | (rw [eK]), hs8, hsa, HK2, hjk, hK29, HG, HV2, HF2, HS5⟩
      case measure => simp [intOf]; omega
    · have d1 : decide ((1 : Int) < (b : Int)) = false := decide_eq_false (by omega)
      have d2 : decide (1 < b) = false := decide_eq_false h1
      have hle : pk g U D p j ≤ 1 := by
        have h6 := lt_blen (pk g U D p j)
        have h7 : 2 ^ blen (pk g U D p j) ≤ 2 ^ 1 := Nat.pow_le_pow_right (by decide) (by omega)
        omega
      have Hfin : Hid (SumTold w (tk1 g U D p) (pk g U D p) (.returned (.tuple #[.slice Z1 a1 b1, .slice Z2 a2 b2])) w5) :=
        ⟨j, Z1, a1, b1, zs, Z2, a2, b2, us, rfl, ha1, ha2, HZ.out.1, HV.out.1, HS.out.trans (HS5.out.mono HS.out.size), by omega, hle, HF.out, HZ.out.2, HV.out.2⟩
      clear HZ HV HS HS5 HF HP HU HD HT htop hle hb h1 HK
      go_wp2_with fail
      refine H5.out.mono ?_
      rintro e w' ⟨rfl, rfl⟩
      go_wp2
      go_ret2
      exact Hfin.out
set_option maxHeartbeats 2000000 in
theorem spowers_l (g : Bool) (a s k : Nat) (A : Option Addr) (n c : Nat) (xs : List Nat) (w : World) (hA : Lim w A n c xs) (hn : n ≤ 150) (hT : Tab w) (hv : val xs = a) (ha : a ≤ 2 ^ s) (hs : s ≤ 9000) (hk : s + 64 = k) :
    Calls Tryd.prog 63 #[.bool g, .slice A n c, .int .i64 (s : Int), .int .i64 (k : Int)] w (SumTold w (ek g a (2 ^ s) (2 ^ s * 2 ^ 64)) (ek g a (2 ^ s) (2 ^ s * 2 ^ 64))) := by
  have e0 : 2 ^ s * 2 ^ 64 = 2 ^ k := by rw [← Nat.pow_add, hk]
  rw [e0]
  have hk9 : k ≤ 9100 := by omega
  have hba := blen_tops ha
  have HP : Hid (∀ j, (∀ i, i < j → 1 < ek g a (2 ^ s) (2 ^ k) i) → ek g a (2 ^ s) (2 ^ k) j ≤ 2 ^ k ∧ j + blen (ek g a (2 ^ s) (2 ^ k) j - 1) ≤ k + 1) := fun j hj =>
    ⟨ek_top g (Nat.two_pow_pos s) ha j, ek_few g (Nat.two_pow_pos s) ha j hj⟩
  obtain ⟨S, hS⟩ : ∃ S, 2 ^ s = S := ⟨_, rfl⟩
  obtain ⟨P, hPP⟩ : ∃ P, 2 ^ k = P := ⟨_, rfl⟩
  have HA : Hid (Lim w A n c xs ∧ val xs = a ∧ blen a ≤ 9001 ∧ Tab w) := ⟨hA, hv, by omega, hT⟩
  have HSS := Lib.hid hS
  have HPP := Lib.hid hPP
  have H1 := Lib.hid (spower_l k w (by omega))
  rw [hS, hPP] at HP ⊢
  rw [hPP] at H1
  clear hA hT hv ha hba e0 hS hPP hk
  go_enter Tryd.func63, Tryd.ntmps63
  go_wp2_with fail
  refine H1.out.mono ?_
  rintro e w4 ⟨A4, m4, c4, vs, rfl, hm4, hl4, hb4, hv4, hB4⟩
  have HS := Lib.hid hB4
  have HT := Lib.hid (HA.out.2.2.2.below HS.out)
  replace HA : Hid (Lim w4 A n c xs ∧ val xs = a ∧ blen a ≤ 9001) := ⟨HA.out.1.below hB4, HA.out.2.1, HA.out.2.2.1⟩
  have hs4 : m4 ≤ 200 := bare_le hl4 hb4 (by
    rw [hv4, ← HPP.out]
    have h5 := blen_tops (Nat.le_refl (2 ^ k))
    omega)
  have HL : Hid (Lim w4 A4 m4 c4 vs ∧ val vs = P) := ⟨hl4, hv4⟩
  clear hl4 hb4 hv4 hB4 H1 hm4
  go_wp2_with fail
  go_loopw [8, 9, 10] (fun s8 s9 s14 wr => ∃ (j K a1 b1 a2 b2 : Nat) (Z1 Z2 : Option Addr) (zs us : List Nat), s8 = .slice Z1 a1 b1 ∧ s9 = .slice Z2 a2 b2 ∧ s14 = .int .u64 (K : Int) ∧ a1 ≤ 200 ∧ a2 ≤ 200 ∧ Hid (K = j + 1) ∧ j ≤ k + 2 ∧ K ≤ 100000 ∧ Hid (Lim wr Z1 a1 b1 zs ∧ val zs = sn (ek g a S P) j) ∧ Hid (Lim wr Z2 a2 b2 us ∧ val us = ek g a S P j) ∧ Hid (∀ i, i < j → 1 < ek g a S P i) ∧ Hid (Below w4.heap.size w4 wr)) (fun _ _ s14 _ => 100000 - (intOf s14).toNat)
  case atStart => exact ⟨0, 1, 0, 0, m4, c4, none, A4, [], vs, rfl, rfl, rfl, by decide, hs4, rfl, by omega, by decide, ⟨Lim.nil _ _ _, rfl⟩, HL.out, fun j hj => absurd hj (Nat.not_lt_zero j), Below.refl _ _⟩
  case round =>
    obtain ⟨w5, rfl⟩ : ∃ w5, w5 = wr := ⟨_, rfl⟩
    obtain ⟨j, K, a1, b1, a2, b2, Z1, Z2, zs, us, rfl, rfl, rfl, ha1, ha2, HK, hj, hK, HZ, HV, HF, HS5⟩ := hrel
    obtain ⟨b, hb⟩ : ∃ b, blen (ek g a S P j) = b := ⟨_, rfl⟩
    have h5 := bits_l b Z2 a2 b2 us w5 HV.out.1 (by omega) (by show _ = _; rw [HV.out.2]; exact hb)
    have H5 := Lib.hid h5
    have htop := HP.out j HF.out
    have hbt := blen_tops (w := k) (by rw [HPP.out]; exact htop.1)
    rw [hb] at hbt
    clear h5 HL
    by_cases h1 : 1 < b
    · have d1 : decide ((1 : Int) < (b : Int)) = true := decide_eq_true (by omega)
      have d2 : decide (1 < b) = true := decide_eq_true h1
      have hgt : 1 < ek g a S P j := Nat.lt_of_not_le fun h9 => by
        have := blen_mono h9
        rw [hb, show blen 1 = 1 from rfl] at this
        omega
      have hjk : j + 1 ≤ k + 2 := by
        have := htop.2
        have := blen_pos (show ek g a S P j - 1 ≠ 0 by omega)
        omega
      have HF2 : Hid (∀ i, i < j + 1 → 1 < ek g a S P i) := fun i hi => by
        rcases Nat.lt_or_ge i j with h | h
        · exact HF.out i h
        · rw [show i = j by omega]; exact hgt
      obtain ⟨K2, hK2⟩ : ∃ K2, K + 1 = K2 := ⟨_, rfl⟩
      have eK : (K : Int) + 1 = (K2 : Int) := by omega
      have hK29 : K2 ≤ 100000 := by have := HK.out; omega
      have HK2 : Hid (K2 = (j + 1) + 1) := by show _ = _; have := HK.out; omega
      have hKK : K < K2 := by omega
      have Hbb : Hid (blen (ek g a S P j) ≤ 9101) := by show _ ≤ _; rw [hb]; omega
      have h8 := add_any Z1 a1 b1 zs Z2 a2 b2 us w5 HZ.out.1 HV.out.1 (by omega) (by omega)
      rw [HZ.out.2, HV.out.2] at h8
      have H8 : Hid (Calls Tryd.prog 30 #[.slice Z1 a1 b1, .slice Z2 a2 b2] w5 (Tells w5 (sn (ek g a S P) (j + 1)) (max a1 a2 + 1))) := h8
      clear htop hb hgt h1 hK2 HF h8 HZ
      go_wp2_with fail
      refine H5.out.mono ?_
      rintro e w' ⟨rfl, rfl⟩
      go_wp2_with fail
      refine H8.out.mono ?_
      rintro e w8 ⟨A8, m8, c8, gs, rfl, hm8, hl8, hb8, hv8, hB8⟩
      have hs8 : m8 ≤ 200 := bare_le hl8 hb8 (by
        rw [hv8]
        refine sn_short (w := k) hk9 (by omega) (fun i hi => ?_)
        rw [HPP.out]
        exact (HP.out i (fun l hl => HF2.out l (by omega))).1)
      replace HV : Hid (Lim w8 Z2 a2 b2 us ∧ val us = ek g a S P j) := ⟨HV.out.1.below hB8, HV.out.2⟩
      replace HS5 := Lib.hid (HS5.out.trans (hB8.mono HS5.out.size))
      have HG : Hid (Lim w8 A8 m8 c8 gs ∧ val gs = sn (ek g a S P) (j + 1)) := ⟨hl8, hv8⟩
      have h9 := mul_any Z2 a2 b2 us A n c xs w8 HV.out.1 (HA.out.1.below HS5.out) (by omega) (by omega) (Or.inr (Or.inr (by
        rw [HV.out.2, HA.out.2.1]
        have := Hbb.out
        have := HA.out.2.2
        omega)))
      rw [HV.out.2, HA.out.2.1] at h9
      have H9 := Lib.hid h9
      clear h9 hl8 hb8 hv8 hB8 H8 HV Hbb hm8 H5
      go_wp2_with fail
      refine H9.out.mono ?_
      rintro e w9 ⟨A9, m9, c9, qs, rfl, hm9, hl9, hb9, hv9, hB9⟩
      replace HG : Hid (Lim w9 A8 m8 c8 gs ∧ val gs = sn (ek g a S P) (j + 1)) := ⟨HG.out.1.below hB9, HG.out.2⟩
      replace HS5 := Lib.hid (HS5.out.trans (hB9.mono HS5.out.size))
      have h10 := shalved_l g s A9 m9 c9 qs w9 hl9 (by omega) (by omega) (HT.out.below HS5.out)
      rw [hv9, HSS.out] at h10
      have H10 := Lib.hid h10
      clear h10 hl9 hb9 hv9 hB9 H9
      go_wp2_with fail
      refine H10.out.mono ?_
      rintro e w10 ⟨Aa, ma, ca, ks, rfl, hma, hla, hba, hva, hBa⟩
      replace HG : Hid (Lim w10 A8 m8 c8 gs ∧ val gs = sn (ek g a S P) (j + 1)) := ⟨HG.out.1.below hBa, HG.out.2⟩
      replace HS5 := Lib.hid (HS5.out.trans (hBa.mono HS5.out.size))
      have HM : Hid (Lim w10 Aa ma ca ks ∧ val ks = ov g (ek g a S P j * a) S) := ⟨hla, hva⟩
      have H11 := Lib.hid (of_any K (by omega) w10)
      clear hla hba hva hBa H10
      go_wp2_with fail
      refine H11.out.mono ?_
      rintro e w11 ⟨Ab, mb, cb, os, rfl, hmb, hlb, hbb, hvb, hBb⟩
      replace HG : Hid (Lim w11 A8 m8 c8 gs ∧ val gs = sn (ek g a S P) (j + 1)) := ⟨HG.out.1.below hBb, HG.out.2⟩
      replace HS5 := Lib.hid (HS5.out.trans (hBb.mono HS5.out.size))
      have h12 := sover_l g Aa ma ca ks Ab mb cb os w11 (HM.out.1.below hBb) hlb (by omega) (by omega) (by rw [hvb, HK.out]; omega) (HT.out.below HS5.out)
      rw [HM.out.2, hvb, HK.out] at h12
      have H12 : Hid (Calls Tryd.prog 77 #[.bool g, .slice Aa ma ca, .slice Ab mb cb] w11 (Tells w11 (ek g a S P (j + 1)) (ma + 2))) := h12
      clear h12 hlb hbb hvb hBb H11 HM HK
      go_wp2_with fail
      refine H12.out.mono ?_
      rintro e w12 ⟨Ac, mc, cc, fs, rfl, hmc, hlc, hbc, hvc, hBc⟩
      have hsc : mc ≤ 200 := bare_le hlc hbc (by
        rw [hvc]
        have := blen_tops (w := k) (by rw [HPP.out]; exact (HP.out (j + 1) HF2.out).1)
        omega)
      replace HG : Hid (Lim w12 A8 m8 c8 gs ∧ val gs = sn (ek g a S P) (j + 1)) := ⟨HG.out.1.below hBc, HG.out.2⟩
      replace HS5 := Lib.hid (HS5.out.trans (hBc.mono HS5.out.size))
      have HV2 : Hid (Lim w12 Ac mc cc fs ∧ val fs = ek g a S P (j + 1)) := ⟨hlc, hvc⟩
      clear hlc hbc hvc hBc H12
      go_wp2
      go_roundw
      case rel => exact ⟨j + 1, K2, m8, c8, mc, cc, A8, Ac, gs, fs, rfl, rfl, by first | rfl | (rw [eK]), hs8, hsc, HK2, hjk, hK29, HG, HV2, HF2, HS5⟩
      case measure => simp [intOf]; omega
    · have d1 : decide ((1 : Int) < (b : Int)) = false := decide_eq_false (by omega)
      have d2 : decide (1 < b) = false := decide_eq_false h1
      have hle : ek g a S P j ≤ 1 := by
        have h6 := lt_blen (ek g a S P j)
        have h7 : 2 ^ blen (ek g a S P j) ≤ 2 ^ 1 := Nat.pow_le_pow_right (by decide) (by omega)
        omega
      have Hfin : Hid (SumTold w (ek g a S P) (ek g a S P) (.returned (.tuple #[.slice Z1 a1 b1, .slice Z2 a2 b2])) w5) :=
        ⟨j, Z1, a1, b1, zs, Z2, a2, b2, us, rfl, ha1, ha2, HZ.out.1, HV.out.1, HS.out.trans (HS5.out.mono HS.out.size), by omega, hle, HF.out, HZ.out.2, HV.out.2⟩
      clear HZ HV HS HS5 HF HP HA HT htop hle hb h1 HK
      go_wp2_with fail
      refine H5.out.mono ?_
      rintro e w' ⟨rfl, rfl⟩
      go_wp2
      go_ret2
      exact Hfin.out
end Go.Proofs.YtngldpmnbdgkiaaDoor
