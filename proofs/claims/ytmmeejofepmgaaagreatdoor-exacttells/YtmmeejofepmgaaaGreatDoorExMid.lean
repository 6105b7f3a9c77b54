/- The document's Middle, how long it is: planimeterref07.Middle once more. -/
import Derived.Test.YtmmeejofepmgaaaGreatDoorK4
namespace Go.Proofs.YtmmeejofepmgaaaGreatDoor
open Go.RowKit

/-- The sum of what some bits and the next ones are worth. -/
theorem next_sum2 {b : Nat} (hb : b < 9218868437227405312) : ∃ (V : Nat) (e : Int), V ≠ 0 ∧ blen V ≤ 2240 ∧ -1074 ≤ e ∧ e ≤ 1024 ∧ sz V e = vX b + vX (b + 1) ∧ ((e = (vO b).e ∧ (vO b).V ≠ 0) ∨ e = (vO (b + 1)).e) ∧
    ∀ (A : Option Addr) (n c : Nat) (ds : List Nat) (B : Option Addr) (m d : Nat) (es : List Nat) (w : World), Dig w A n c ds → Dig w B m d es → D.Bare ds → D.Bare es → n ≤ 4 → m ≤ 4 → D.val ds = (vO b).V → D.val es = (vO (b + 1)).V →
      Calls Tryz.prog 50 #[.agg #[.bool false, .slice A n c, .int .i64 (vO b).e], .agg #[.bool false, .slice B m d, .int .i64 (vO (b + 1)).e]] w (NTold w ⟨false, V, e⟩ 100001) := by
  obtain ⟨_, a2, a3, a4, a5, a6⟩ := vO_facts (b := b) (by omega)
  obtain ⟨_, c2, c3, c4, c5, c6⟩ := vO_facts (b := b + 1) (by omega)
  generalize (vO b).V = V1 at *
  generalize (vO b).e = e1 at *
  generalize (vO (b + 1)).V = V2 at *
  generalize (vO (b + 1)).e = e2 at *
  have hV2 : V2 ≠ 0 := fun h => by have := c6.1 h; omega
  obtain ⟨K, hK⟩ : ∃ K : Nat, K = 2153 := ⟨_, rfl⟩
  have hs : ∀ q : Nat, q ≤ 2100 → ∀ V : Nat, V < 9007199254740992 → V * 2 ^ q < 2 ^ K := fun q hq V hV => by
    have h1 : V * 2 ^ q < 2 ^ 53 * 2 ^ q := Nat.mul_lt_mul_of_pos_right hV (Nat.two_pow_pos _)
    rw [← Nat.pow_add] at h1
    exact Nat.lt_of_lt_of_le h1 (Nat.pow_le_pow_right (by decide) (by omega))
  have hbig : ∀ x y : Nat, x < 2 ^ K → y < 2 ^ K → blen (x + y) ≤ 2240 := fun x y hx hy => by
    have h0 : x + y < 2 ^ (K + 1) := by rw [Nat.pow_succ]; omega
    have h2 := blen_le_iff.2 h0
    omega
  have szadd : ∀ (x y : Nat) (e : Int), sz (x + y) e = sz x e + sz y e := fun x y e => by unfold sz; rw [Nat.add_mul]
  by_cases h0 : V1 = 0
  · refine ⟨V2, e2, hV2, ?_, c3, c4, ?_, Or.inr rfl, ?_⟩
    · have := hbig 0 V2 (Nat.two_pow_pos _) (by have := hs 0 (by decide) V2 c5; rwa [Nat.pow_zero, Nat.mul_one] at this)
      rwa [Nat.zero_add] at this
    · rw [c2, ← a2, h0, sz_zero, Nat.zero_add]
    · intro A n c ds B m d es w hA hB ba bb hn hm hv1 hv2
      obtain rfl : n = 0 := (dnil_iff hA ba).2 (hv1.trans h0)
      refine (radd_zero false A c e1 false B m d es e2 w hB bb).mono ?_
      rintro e w' ⟨A5, m5, c5, rs, rfl, k1, k2, k3, k4, k5⟩
      exact ⟨A5, m5, c5, rs, rfl, by omega, k2, k3, k4.trans hv2, k5⟩
  · by_cases hl : e2 < e1
    · obtain ⟨q, hq⟩ : ∃ q : Nat, e1 - e2 = (q : Int) := ⟨(e1 - e2).toNat, by omega⟩
      have hh : held e1 = held e2 + q := by rw [held_id (by omega) (by omega), held_id (by omega) (by omega)]; omega
      refine ⟨V1 * 2 ^ q + V2, e2, by omega, ?_, c3, c4, ?_, Or.inr rfl, ?_⟩
      · exact hbig _ _ (hs q (by omega) V1 a5) (by have := hs 0 (by decide) V2 c5; rwa [Nat.pow_zero, Nat.mul_one] at this)
      · rw [szadd, ← sz_shift hh, a2, c2]
      · intro A n c ds B m d es w hA hB ba bb hn hm hv1 hv2
        exact radd_sum_L (V1 * 2 ^ q) V2 q A n c ds e1 B m d es e2 w hA hB ba bb (by omega) (by omega) (fun h => h0 (hv1.symm.trans ((dnil_iff hA ba).1 h))) (fun h => hV2 (hv2.symm.trans ((dnil_iff hB bb).1 h))) hq (by omega) hl (by rw [hv1]; rfl) hv2
    · obtain ⟨q, hq⟩ : ∃ q : Nat, e2 - e1 = (q : Int) := ⟨(e2 - e1).toNat, by omega⟩
      have hh : held e2 = held e1 + q := by rw [held_id (by omega) (by omega), held_id (by omega) (by omega)]; omega
      refine ⟨V1 + V2 * 2 ^ q, e1, by omega, ?_, a3, a4, ?_, Or.inl ⟨rfl, h0⟩, ?_⟩
      · exact hbig _ _ (by have := hs 0 (by decide) V1 a5; rwa [Nat.pow_zero, Nat.mul_one] at this) (hs q (by omega) V2 c5)
      · rw [szadd, ← sz_shift hh, a2, c2]
      · intro A n c ds B m d es w hA hB ba bb hn hm hv1 hv2
        exact radd_sum_G V1 (V2 * 2 ^ q) q A n c ds e1 B m d es e2 w hA hB ba bb (by omega) (by omega) (fun h => h0 (hv1.symm.trans ((dnil_iff hA ba).1 h))) (fun h => hV2 (hv2.symm.trans ((dnil_iff hB bb).1 h))) hq (by omega) hv1 (by rw [hv2]; rfl)

theorem mid_blen {b V : Nat} {e : Int} (hb : b < 9218868437227405312) (h3 : -1074 ≤ e) (h4 : e ≤ 1024) (h5 : sz V e = vX b + vX (b + 1)) (h7 : (e = (vO b).e ∧ (vO b).V ≠ 0) ∨ e = (vO (b + 1)).e) : blen V ≤ 60 := by
  obtain ⟨p1, p2, p3, p4⟩ := x_parts hb
  have hf : Fnt b := by unfold Fnt fex; omega
  have hfe := fe_bd hf
  have he : fe b ≤ e := by
    rcases h7 with ⟨h7, h8⟩ | h7
    · have hv : vO b = fO b := by unfold vO; rw [if_neg (by omega)]
      rw [hv] at h7 h8
      have hm0 : fm b ≠ 0 := fun h9 => h8 (by rw [fO_zero h9])
      rw [h7, (fO_pos hf hm0).2.2]
      omega
    · by_cases hi : b + 1 = 9218868437227405312
      · rw [h7]; unfold vO; rw [if_pos hi]
        show fe b ≤ 1024
        omega
      · have hv : vO (b + 1) = fO (b + 1) := by unfold vO; rw [if_neg hi]
        obtain ⟨r1, r2, r3, r4⟩ := x_parts (X := b + 1) (by omega)
        have hf1 : Fnt (b + 1) := by unfold Fnt fex; omega
        have hm0 : fm (b + 1) ≠ 0 := fun h9 => by
          rw [h9] at r1 r3
          rcases Nat.eq_zero_or_pos (fE (b + 1)) with h8 | h8
          · rw [h8] at r1; omega
          · have := r3 h8; omega
        rw [h7, hv, (fO_pos hf1 hm0).2.2]
        have hmono : fE b ≤ fE (b + 1) := by
          generalize fE b = F at *
          generalize fE (b + 1) = F' at *
          generalize fm b = M at *
          generalize fm (b + 1) = M' at *
          rcases Nat.lt_or_ge F' F with h9 | h9
          · have h8 := p3 (by omega)
            omega
          · exact h9
        unfold fe
        omega
  have hsz : sz V e = (2 * fm b + 1) * 2 ^ (fE b + kb) := by
    rw [h5, vX_next hb]
    unfold vX
    generalize 2 ^ (fE b + kb) = p
    rw [Nat.add_mul, Nat.mul_assoc]
    omega
  have hh := sh_eq (e := e) (by omega) (by omega)
  have hkb := kb_eq
  obtain ⟨t, ht⟩ : ∃ t, sh e = t + (fE b + kb) := ⟨sh e - (fE b + kb), by unfold fe at he; omega⟩
  unfold sz at hsz
  rw [ht, Nat.pow_add, ← Nat.mul_assoc] at hsz
  have h9 := Nat.eq_of_mul_eq_mul_right (Nat.two_pow_pos _) hsz
  have h10 : V ≤ V * 2 ^ t := Nat.le_mul_of_pos_right _ (Nat.two_pow_pos _)
  refine blen_le_iff.2 ?_
  have : V < 2 ^ 55 := by show V < 36028797018963968; omega
  exact Nat.lt_of_lt_of_le this (Nat.pow_le_pow_right (by decide) (by decide))

theorem mid_fine {b : Nat} (hb : b < 9218868437227405312) : ∃ (V : Nat) (E : Int), V ≠ 0 ∧ blen V ≤ 60 ∧ -2000 ≤ E ∧ E ≤ 2000 ∧ 2 * sz V E = vX b + vX (b + 1) ∧
    ∀ w, Calls Tryz.prog 31 #[.int .u64 (b : Int)] w (NTold w ⟨false, V, E⟩ 140) := by
  obtain ⟨V, e, h1, h2, h3, h4, h5, h7, h6⟩ := next_sum2 hb
  refine ⟨V, e - 1, h1, mid_blen hb h3 h4 h5 h7, by omega, by omega, ?_, ?_⟩
  · have hh : held e = held (e - 1) + (1 : Nat) := by rw [held_id (by omega) (by omega), held_id (by omega) (by omega)]; omega
    rw [← h5, sz_shift hh]
    unfold sz
    rw [Nat.pow_one, Nat.mul_comm V 2, Nat.mul_assoc]
  · intro w
    have a1 := below1 w (.cells #[.bool false, .slice none 0 0, .int .i64 0] 30)
    have HS := Lib.hid a1
    have Hb := Lib.hid (Bd.new w 30 false none 0 0 0)
    have H1 := rvalue_l b (by omega) (w.alloc (.cells #[.bool false, .slice none 0 0, .int .i64 0] 30))
    have H2 := fun u => rvalue_l (b + 1) (by omega) u
    have g1 := (vO_facts (b := b) (by omega)).1
    have g2 := (vO_facts (b := b + 1) (by omega)).1
    obtain ⟨⟨d0, d1, d2⟩, hd⟩ : ∃ dd, vO b = dd := ⟨_, rfl⟩
    obtain ⟨⟨k0, k1, k2⟩, hk⟩ : ∃ dd, vO (b + 1) = dd := ⟨_, rfl⟩
    rw [hd] at H1 g1 h6
    rw [hk] at H2 g2 h6
    simp only at g1 g2 h6
    subst g1 g2
    have H1 := Lib.hid H1
    have H2 := Lib.hid H2
    have H6 := Lib.hid h6
    have Hlt := Lib.hid h2
    obtain ⟨b', hb'⟩ : ∃ b', b + 1 = b' := ⟨_, rfl⟩
    have e1 : (b : Int) + 1 = (b' : Int) := by omega
    rw [hb'] at H2
    have hbb : b' ≤ 9218868437227405312 := by omega
    clear a1 h1 h2 h5 h6 hd hk hb' hb
    go_enter Tryz.func31, Tryz.ntmps31
    go_wp2_with fail
    refine H1.out.mono ?_
    rintro e w1 ⟨A1, m1, c1, us, rfl, hm1, hl1, hd1, hv1, hB1⟩
    have Hb1 := Lib.hid (Hb.out.below hB1)
    have HS1 := Lib.hid (HS.out.trans (hB1.mono HS.out.size))
    have HL1 := Lib.hid hl1
    have HD1 := Lib.hid (And.intro hd1 hv1)
    clear hl1 hd1 hv1 hB1 Hb HS H1
    go_wp2_with fail
    refine (H2.out _).mono ?_
    rintro e w2 ⟨A2, m2, c2, vs, rfl, hm2, hl2, hd2, hv2, hB2⟩
    have Hb2 := Lib.hid (Hb1.out.below hB2)
    have HS2 := Lib.hid (HS1.out.trans (hB2.mono HS1.out.size))
    have H3 := Lib.hid (H6.out A1 m1 c1 us A2 m2 c2 vs w2 (HL1.out.below hB2) hl2 HD1.out.1 hd2 hm1 hm2 HD1.out.2 hv2)
    clear hl2 hd2 hv2 hB2 Hb1 HS1 H2 HL1 HD1 H6
    go_wp2_with fail
    refine H3.out.mono ?_
    rintro e w3 ⟨A3, m3, c3, rs, rfl, hm3, hl3, hd3, hv3, hB3⟩
    have hm4 : m3 ≤ 140 := by
      rw [← hl3.len]
      exact dig_len_b hd3 (by rw [hv3]; exact Hlt.out)
    have a4 := below1 w3 (.cells #[.bool false, .slice A3 m3 c3, .int .i64 (e - 1)] 30)
    have k4 := (Hb2.out.below hB3).below a4
    have HS4 := (HS2.out.trans (hB3.mono HS2.out.size)).trans (a4.mono (HS2.out.trans (hB3.mono HS2.out.size)).size)
    have Hfin : Hid (NTold w ⟨false, V, e - 1⟩ 140 (.returned (.agg #[.bool false, .slice A3 m3 c3, .int .i64 (e - 1)])) (World.put (w3.alloc (.cells #[.bool false, .slice A3 m3 c3, .int .i64 (e - 1)] 30)) w.heap.size false A3 m3 c3 (e - 1))) :=
      ⟨A3, m3, c3, rs, rfl, hm4, k4.dig (hl3.below a4) _ _ _ _ _, hd3, hv3, below_put HS4 (Nat.le_refl _) _ _ _ _ _⟩
    have kk := Hb2.out.below hB3
    have y0 := fun o => (kk.alloc o).c0
    have y1 := fun o => (kk.alloc o).c1
    have y2 := fun o => (kk.alloc o).c2
    have yf := fun o => (kk.alloc o).fz
    clear a4 k4 kk HS4 hl3 hd3 hv3 hB3 Hb2 HS2 H3 Hlt
    go_wp2
    exact bodyPost_ret (v := .agg #[.bool false, .slice A3 m3 c3, .int .i64 (e - 1)]) (by simp [results, Tryz.results31, go_sem, y0, y1, y2]) rfl Hfin.out
end Go.Proofs.YtmmeejofepmgaaaGreatDoor
