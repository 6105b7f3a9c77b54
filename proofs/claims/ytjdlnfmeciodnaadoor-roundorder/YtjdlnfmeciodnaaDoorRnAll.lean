/- The walks of round.laid, checked, To. -/
import Derived.Test.YtjdlnfmeciodnaaDoorRnTo
namespace Go.Proofs.YtjdlnfmeciodnaaDoor
open Go.RowKit

theorem nO_shift (g : Bool) {V k : Nat} {e : Int} (h1 : -1073741824 ≤ e) (h2 : e + k ≤ 1073741824) (hV : V ≠ 0) : nO g (V * 2 ^ k) e = nO g V (e + k) := by
  have hV2 : V * 2 ^ k ≠ 0 := Nat.mul_ne_zero hV (Nat.pos_iff_ne_zero.1 (Nat.two_pow_pos _))
  obtain ⟨m, hm⟩ := low_spec (Nat.pos_of_ne_zero hV)
  have hl : low (V * 2 ^ k) = low V + k := low_eq (m := m) (by
    generalize low V = l at hm
    rw [hm, Nat.pow_add, Nat.mul_assoc, Nat.mul_comm (2 * m + 1), ← Nat.mul_assoc])
  rw [nO_pos g _ hV2, nO_pos g _ hV, held_id h1 (by omega), held_id (by omega) h2, hl, Nat.pow_add, Nat.mul_div_mul_right _ _ (Nat.two_pow_pos _)]
  congr 1
  omega
/-- So many units, as bits. -/
theorem ex_round {L U : Nat} {u : Int} (hu : u = (L : Int) - 1074) (hL : L ≤ 2045) (hU : U ≤ 9007199254740992) (h2 : 0 < L → 4503599627370496 ≤ U) :
    exD (nO false U u) = if L * 4503599627370496 + U = 9218868437227405312 then (0, false) else (L * 4503599627370496 + U, true) := by
  have own : ∀ (L' U' : Nat), L' ≤ 2045 → U' < 9007199254740992 → (0 < L' → 4503599627370496 ≤ U') → exD (nO false U' ((L' : Int) - 1074)) = (L' * 4503599627370496 + U', true) := by
    intro L' U' hL' hU' h2'
    obtain ⟨f1, f2, f3, f4, f5⟩ := f_of (L := L') (M := U') false (X := L' * 4503599627370496 + U') hU' h2' hL' (by simp)
    have hb := exD_back f1 f2
    unfold fO at hb
    rw [f3, f5, fe, f4] at hb
    rw [hb]
    split
    · rename_i h0
      have : L' = 0 := by
        rcases Nat.eq_zero_or_pos L' with h | h
        · exact h
        · have := h2' h; omega
      rw [h0, this]
    · rfl
  rcases Nat.lt_or_ge U 9007199254740992 with h | h
  · rw [if_neg (by omega), hu]
    exact own L U hL h h2
  · have e0 : U = 9007199254740992 := by omega
    subst e0
    have e1 : nO false 9007199254740992 u = nO false 4503599627370496 (((L + 1 : Nat) : Int) - 1074) := by
      have := nO_shift false (V := 4503599627370496) (k := 1) (e := u) (by omega) (by omega) (by decide)
      rw [show (4503599627370496 : Nat) * 2 ^ 1 = 9007199254740992 from by decide] at this
      rw [this]
      congr 1
      omega
    rcases Nat.lt_or_ge L 2045 with hL' | hL'
    · rw [if_neg (by omega), e1, own (L + 1) 4503599627370496 (by omega) (by decide) (fun _ => Nat.le_refl _), show (L + 1) * 4503599627370496 + 4503599627370496 = L * 4503599627370496 + 9007199254740992 by omega]
    · have e2 : L = 2045 := by omega
      subst e2
      rw [if_pos (by decide), e1]
      have e3 := nO_shift false (V := 1) (k := 52) (e := ((2045 + 1 : Nat) : Int) - 1074) (by decide) (by decide) (by decide)
      rw [show 1 * 2 ^ 52 = 4503599627370496 from by decide] at e3
      rw [e3]
      decide
theorem mk_units {U : Nat} {u : Int} (h1 : -1074 ≤ u) (h2 : u ≤ 971) (hU : U ≤ 9007199254740992) : mk false U u = some (nO false U u) := by
  rw [mk_nO]
  by_cases h0 : U = 0
  · subst h0; rfl
  · have hl := low_le_blen U
    have hb : blen U ≤ 54 := (blen_le_iff (k := 54)).2 (by omega)
    have hh : held u = u := held_id (by omega) (by omega)
    have hV : U / 2 ^ low U ≠ 0 := fun h => h0 (odd_part_zero.1 h)
    rw [nO_pos false u h0]
    show toldD false (U / 2 ^ low U) (held u + low U) = _
    rw [toldD, if_neg hV, if_neg (by omega)]
theorem nO_bd (U : Nat) (u : Int) (h1 : -1074 ≤ u) (h2 : u ≤ 971) (hU : U ≤ 9007199254740992) : nO (nO false U u).neg (nO false U u).V (nO false U u).e = nO false U u := by
  have hf := (mk_fine (mk_units h1 h2 hU)).1
  exact nO_self (nO_odd false U u) (by have := hf.1; omega) (by have := hf.2.1; omega)

/-- The units' place and number. -/
theorem ru_facts {V : Nat} {e : Int} (hV : V ≠ 0) (h1 : -1073741824 ≤ e) (h2 : e ≤ 1073741824) (ht : rtop V e ≤ 1023) :
    ∃ L : Nat, (ru V e + 1074).toNat = L ∧ ru V e = (L : Int) - 1074 ∧ L ≤ 2045 ∧ e ≤ ru V e + 63 ∧ rU V e (ru V e) < 9007199254740992 ∧ (0 < L → 4503599627370496 ≤ rU V e (ru V e)) := by
  obtain ⟨a, b, c, _, _⟩ := rnd_low hV h1 h2 ht
  have hB := blen_pos hV
  have hr : ru V e = max (rtop V e - 52) (-1074) := rfl
  have hrt : rtop V e = (blen V : Int) - 1 + e := rfl
  refine ⟨(ru V e + 1074).toNat, rfl, by omega, by omega, by omega, ?_⟩
  have hlt := lt_blen V
  have hge := blen_le hV
  generalize ru V e = u at hr ⊢
  rw [hrt] at hr ht
  clear a b c hrt
  by_cases hue : u ≤ e
  · obtain ⟨k, hk⟩ : ∃ k, (e - u).toNat = k := ⟨_, rfl⟩
    rw [rU, if_pos hue, hk]
    have hbl := blen_shl (n := k) hV
    refine ⟨(blen_le_iff (k := 53)).1 (by rw [hbl]; omega), fun h => ?_⟩
    have h5 : blen (V * 2 ^ k) = 53 := by rw [hbl]; omega
    have h6 := blen_le (x := V * 2 ^ k) (fun h0 => by rw [h0] at h5; cases h5)
    rw [h5] at h6
    exact h6
  · obtain ⟨k, hk⟩ : ∃ k, (u - e - 1).toNat = k := ⟨_, rfl⟩
    rw [rU, if_neg hue, hk, Nat.div_div_eq_div_mul, ← Nat.pow_succ]
    constructor
    · rw [Nat.div_lt_iff_lt_mul (Nat.two_pow_pos _), show (9007199254740992 : Nat) = 2 ^ 53 from by decide, ← Nat.pow_add]
      exact blen_le_iff.1 (by omega)
    · intro h
      rw [Nat.le_div_iff_mul_le (Nat.two_pow_pos _), show (4503599627370496 : Nat) = 2 ^ 52 from by decide, ← Nat.pow_add, show 52 + (k + 1) = blen V - 1 by omega]
      exact hge

set_option maxHeartbeats 1000000 in
theorem rlaid_l (X F : Nat) (g more : Bool) (A : Option Addr) (n c : Nat) (xs : List Nat) (e0 top dir : Int) (w : World) (hA : Lim w A n c xs) (hn : n ≤ 4294967000) (hT : Tab w)
    (hV : val xs ≠ 0) (h1 : -1073741824 ≤ e0) (h2 : e0 ≤ 1073741824) (ht : Hid (rtop (val xs) e0 = top)) (hX : Hid (rndO g (val xs) e0 more dir = (X, F))) :
    Calls Tryd.prog 25 #[.agg #[.bool g, .slice A n c, .int .i64 e0], .int .i64 top, .bool more, .int .i64 dir] w fun e w' => e = .returned (.tuple #[.int .u64 (X : Int), .int .u8 (F : Int)]) ∧ Below w.heap.size w w' := by
  have a3 := below1 w (.cells #[.bool g, .slice A n c, .int .i64 e0] 35)
  have HS := Lib.hid a3
  have Hbd := Lib.hid (Bd.new w 35 g A n c e0)
  have hX' := hX.out
  have ht' := ht.out
  clear hX ht
  by_cases hg : 1023 < rtop (val xs) e0
  · rw [rndO, if_pos hg] at hX'
    obtain ⟨hX1, hF1⟩ := Prod.mk.inj hX'
    obtain rfl : F = 5 := hF1.symm
    have H1 := Lib.hid (fun w => over_l X g dir w hX1)
    rw [ht'] at hg
    have b1 : decide ((1023 : Int) < top) = true := decide_eq_true hg
    have x0 := Hbd.out.c0
    clear hX' ht' hg hA hT hV hX1 a3 hF1
    go_enter Tryd.func25, Tryd.ntmps25
    go_wp2_with fail
    refine (H1.out _).mono ?_
    rintro e w' ⟨rfl, rfl⟩
    go_wp2
    go_ret2
    exact ⟨rfl, HS.out⟩
  · have hle : rtop (val xs) e0 ≤ 1023 := by omega
    obtain ⟨L, hL1, hL2, hL3, hL4, hL5, hL6⟩ := ru_facts hV h1 h2 hle
    have hB := blen_pos hV
    have hbl := hA.blen_le
    have hrt : rtop (val xs) e0 = (blen (val xs) : Int) - 1 + e0 := rfl
    rw [rndO, if_neg hg] at hX'
    have hr : ru (val xs) e0 = max (rtop (val xs) e0 - 52) (-1074) := rfl
    unfold rX at hX'
    obtain ⟨u, hu⟩ : ∃ u, ru (val xs) e0 = u := ⟨_, rfl⟩
    rw [hu] at hX' hL1 hL2 hL4 hL5 hL6 hr
    obtain ⟨U, hU⟩ : ∃ U, rU (val xs) e0 u = U := ⟨_, rfl⟩
    obtain ⟨H, hH⟩ : ∃ H, rH (val xs) e0 u = H := ⟨_, rfl⟩
    obtain ⟨B, hBB⟩ : ∃ B, rB (val xs) e0 u = B := ⟨_, rfl⟩
    rw [hL1, hU, hH, hBB] at hX'
    rw [hU] at hL5 hL6
    obtain ⟨v, hv⟩ : ∃ v, awy g dir (decide (U % 2 = 1)) H (B || more) = v := ⟨_, rfl⟩
    have hodd : decide ((L * 4503599627370496 + U) % 2 = 1) = decide (U % 2 = 1) := by rw [decide_eq_decide]; omega
    obtain ⟨V2, hV2⟩ : ∃ V2, U + v.toNat = V2 := ⟨_, rfl⟩
    have hvn : v.toNat ≤ 1 := by cases v <;> decide
    have hup : upX g dir (L * 4503599627370496 + U) H (B || more) = L * 4503599627370496 + V2 := by
      unfold upX; rw [hodd, hv, ← hV2]; omega
    unfold rfin at hX'
    rw [hup] at hX'
    have hex := ex_round (L := L) (U := V2) hL2 hL3 (by omega) (fun h => by have := hL6 h; omega)
    have hu1 : -1074 ≤ u := by omega
    have hu2 : u ≤ 971 := by omega
    have hV2b : V2 ≤ 9007199254740992 := by omega
    have hmk := mk_units hu1 hu2 hV2b
    have hnO := nO_bd V2 u hu1 hu2 hV2b
    have H1 := Lib.hid (count_l v H B more U V2 g A n c xs e0 u dir _ (hA.below a3) (by omega) (hT.below a3) (by omega) (by omega) (by omega) (by omega) hL4 hU hH hBB hv hV2)
    have HT := Lib.hid (hT.below a3)
    rw [ht'] at hg hX' hr
    have b1 : decide ((1023 : Int) < top) = false := decide_eq_false hg
    have em : max (top - 52) (-1074) = u := hr.symm
    have htb : -1073741900 ≤ top ∧ top ≤ 1023 := by omega
    obtain ⟨htb1, htb2⟩ := htb
    obtain ⟨inx, hinx⟩ : ∃ inx, (H || (B || more)) = inx := ⟨_, rfl⟩
    have hflx : fl H (B || more) (decide (top < -1022)) = fl inx false (decide (top < -1022)) := by
      unfold fl; rw [hinx]; cases inx <;> rfl
    rw [hflx] at hX'
    rw [hinx] at H1
    obtain ⟨⟨d0, d1, d2⟩, hd⟩ : ∃ d, nO false V2 u = d := ⟨_, rfl⟩
    rw [hd] at hmk hnO hex
    obtain ⟨XX, hXX⟩ : ∃ XX, L * 4503599627370496 + V2 = XX := ⟨_, rfl⟩
    rw [hXX] at hex hX'
    have hXXb : XX < 9223372036854775808 := by omega
    have Hmk := Lib.hid hmk
    have HnO := Lib.hid hnO
    have Hex := Lib.hid hex
    have y0 := Hbd.out.c0
    have y1 := Hbd.out.c1
    have y2 := Hbd.out.c2
    have h19 : n ≤ 4294967000 := hn
    clear ht' hg hA hT hV a3 hle hL1 hL2 hL3 hL4 hL5 hL6 hB hbl hrt hr hu hU hH hBB hv hodd hV2 hup hmk hnO hex hV2b hd hXX hflx hinx hvn hn
    go_enter Tryd.func25, Tryd.ntmps25
    go_wp2_with fail
    refine H1.out.mono ?_
    rintro e w1 ⟨A1, m1, c1, zs, rfl, hm1, hl1, hb1, hv1, hB1⟩
    have HM := make_any false A1 m1 c1 zs u w1 hl1 (by omega) (HT.out.below hB1)
    rw [hv1, Hmk.out] at HM
    have HM := Lib.hid HM
    have HS1 := Lib.hid (HS.out.trans (hB1.mono HS.out.size))
    have HT1 := Lib.hid (HT.out.below hB1)
    have Hk1 := Lib.hid (Hbd.out.below hB1)
    clear hl1 hb1 hv1 hB1 HS HT Hbd H1 y0 y1 y2
    go_wp2_with fail
    refine HM.out.mono ?_
    rintro e w2 ⟨g2, A2, m2, c2, us, E2, r2, rfl, hm2, hl2, hb2, ⟨rfl, rfl, hz, rfl⟩, hB2⟩
    have a4 := below1 w2 (.cells #[.bool g2, .slice A2 m2 c2, .int .i64 E2] 35)
    have HS2 := Lib.hid ((HS1.out.trans (hB2.mono HS1.out.size)).trans (a4.mono (HS1.out.trans (hB2.mono HS1.out.size)).size))
    have Hk2 := Lib.hid ((Hk1.out.below hB2).below a4)
    have hLL := hl2.below a4
    have hTT := (HT1.out.below hB2).below a4
    simp only at hz
    have hm9 : m2 ≤ 4294967296 := by omega
    clear hb2 hB2 hl2 a4 HM HS1 HT1 Hk1
    by_cases hI : XX = 9218868437227405312
    · rw [if_pos hI] at hX' Hex
      obtain ⟨hX1, hF1⟩ := Prod.mk.inj hX'
      obtain rfl : F = 5 := hF1.symm
      have H3 := Lib.hid (exact_l 0 false g2 A2 m2 c2 us E2 _ hLL hm9 hTT (by rw [hz, HnO.out]; exact Hex.out))
      have H4 := Lib.hid (fun w => over_l X g dir w hX1)
      clear hX' hX1 hF1 hLL hTT hI Hex HnO hz
      rw [show ((0 : Nat) : Int) = 0 from rfl] at H3
      go_wp2_with fail
      refine H3.out.mono ?_
      rintro e w3 ⟨rfl, hB3⟩
      have x0 := (Hk2.out.below hB3).c0
      have Hfin := Lib.hid (HS2.out.trans (hB3.mono HS2.out.size))
      clear hB3 H3 HS2 Hk2
      go_wp2_with fail
      refine (H4.out _).mono ?_
      rintro e w' ⟨rfl, rfl⟩
      go_wp2
      go_ret2
      exact ⟨rfl, Hfin.out⟩
    · rw [if_neg hI] at hX' Hex
      obtain ⟨hX1, hF1⟩ := Prod.mk.inj hX'
      have H3 := Lib.hid (exact_l XX true g2 A2 m2 c2 us E2 _ hLL hm9 hTT (by rw [hz, HnO.out]; exact Hex.out))
      have H4 := Lib.hid (fun w => signed_l X g XX hXXb w hX1)
      have H5 := Lib.hid (fun w => raised_l F inx top w hF1)
      clear hX' hX1 hF1 hLL hTT hI Hex HnO hz
      go_wp2_with fail
      refine H3.out.mono ?_
      rintro e w3 ⟨rfl, hB3⟩
      have x0 := (Hk2.out.below hB3).c0
      have Hfin := Lib.hid (HS2.out.trans (hB3.mono HS2.out.size))
      clear hB3 H3 HS2 Hk2
      go_wp2_with fail
      refine (H4.out _).mono ?_
      rintro e w' ⟨rfl, rfl⟩
      go_wp2_with fail
      refine (H5.out _).mono ?_
      rintro e w' ⟨rfl, rfl⟩
      go_wp2
      go_ret2
      exact ⟨rfl, Hfin.out⟩
end Go.Proofs.YtjdlnfmeciodnaaDoor
