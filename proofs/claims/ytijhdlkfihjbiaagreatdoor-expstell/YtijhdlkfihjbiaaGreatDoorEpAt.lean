/- What series.Exp tells, a little more than the laws of layer 12 ask: which ends; how far apart they are of two unlike numbers; how great the lower one is. -/
import Derived.Test.YtijhdlkfihjbiaaGreatDoorEpMath
import Derived.Test.YtijhdlkfihjbiaaGreatDoorK4
namespace Go.Proofs.YtijhdlkfihjbiaaGreatDoor
open Go.RowKit

theorem exv_ex (g : Bool) {a s : Nat} (ha : a ≤ 2 ^ s) (hs : s ≤ 9000) : ∃ v, ExV g a s v := by
  have hS := Nat.two_pow_pos s
  have eP : 2 ^ s * 2 ^ 64 = 2 ^ (s + 64) := (Nat.pow_add ..).symm
  obtain ⟨f, hf⟩ : ∃ f : Nat → Nat, ek g a (2 ^ s) (2 ^ s * 2 ^ 64) = f := ⟨_, rfl⟩
  have few : ∀ k, (∀ j, j < k → 1 < f j) → k ≤ s + 65 := fun k h => by
    have := ek_few g hS ha (w := s + 64) k (fun j hj => by rw [← eP]; rw [hf]; exact h j hj)
    omega
  -- the first one that is at most 1
  have step : ∀ k, (∀ j, j < k → 1 < f j) ∨ ∃ c, c < k ∧ f c ≤ 1 ∧ ∀ j, j < c → 1 < f j := by
    intro k
    induction k with
    | zero => exact Or.inl fun j hj => by omega
    | succ k ih =>
      rcases ih with h | ⟨c, h1, h2⟩
      · by_cases hk : f k ≤ 1
        · exact Or.inr ⟨k, by omega, hk, h⟩
        · refine Or.inl fun j hj => ?_
          rcases Nat.lt_or_eq_of_le (Nat.le_of_lt_succ hj) with h1 | h1
          · exact h j h1
          · rw [h1]; omega
      · exact Or.inr ⟨c, by omega, h2⟩
  rcases step (s + 66) with h | ⟨c, h1, h2, h3⟩
  · have := few (s + 66) h
    omega
  · refine ⟨_, c, ?_, by omega, by rw [hf]; exact h2, by rw [hf]; exact h3, rfl⟩
    refine Nat.pos_of_ne_zero fun h0 => ?_
    rw [h0] at h2
    have e : f 0 = 2 ^ s * 2 ^ 64 := by rw [← hf]; rfl
    rw [e] at h2
    have : 1 ≤ 2 ^ s := hS
    have h64 : (2 : Nat) ^ 64 = 18446744073709551616 := rfl
    rw [h64] at h2
    omega
/-- The lower end isn't below 1. -/
theorem ex_least {a s lo : Nat} (h : ExV false a s lo) : 2 ^ s ≤ lo := by
  obtain ⟨c, hc, _, _, _, hl⟩ := h
  rw [hl]
  show 2 ^ s ≤ (sn (ek false a (2 ^ s) (2 ^ s * 2 ^ 64)) c + 0) / 2 ^ 64
  refine (Nat.le_div_iff_mul_le (Nat.two_pow_pos 64)).2 ?_
  rw [Nat.add_zero]
  have key : ∀ c, 1 ≤ c → 2 ^ s * 2 ^ 64 ≤ sn (ek false a (2 ^ s) (2 ^ s * 2 ^ 64)) c := by
    intro c hc
    induction c with
    | zero => omega
    | succ c ih =>
      rcases Nat.eq_zero_or_pos c with h0 | h0
      · subst h0
        show _ ≤ 0 + ek false a (2 ^ s) (2 ^ s * 2 ^ 64) 0
        rw [Nat.zero_add]
        exact Nat.le_refl _
      · have := ih h0
        show _ ≤ sn (ek false a (2 ^ s) (2 ^ s * 2 ^ 64)) c + ek false a (2 ^ s) (2 ^ s * 2 ^ 64) c
        omega
  exact key c hc
/-- How far apart: by what both numbers are. -/
theorem ex_wide {a b s lo hi : Nat} (hab : a ≤ b) (hb : b ≤ 2 ^ s) (hs : s ≤ 9000) (hs8 : 8 ≤ s) (h1 : ExV false a s lo) (h2 : ExV true b s hi) : hi ≤ lo + 4 + 8 * (b - a) ∧ lo ≤ 3 * 2 ^ s := by
  have ha : a ≤ 2 ^ s := Nat.le_trans hab hb
  obtain ⟨ha', hva⟩ := exv_ex true ha hs
  obtain ⟨lb, hvb⟩ := exv_ex false hb hs
  obtain ⟨_, _, g1⟩ := ex_both (Nat.le_refl a) ha h1 hva
  obtain ⟨_, _, g2⟩ := ex_both (Nat.le_refl b) hb hvb h2
  have w1 := g1 rfl
  have w2 := g2 rfl
  have e1 := (ex_both (Nat.le_refl a) ha h1 hva).1
  have e2 := (ex_both (Nat.le_refl b) hb hvb h2).1
  obtain ⟨x, hx, x0, x1⟩ := ex_frac a s ha
  obtain ⟨y, hy, y0, y1⟩ := ex_frac (b - a) s (by omega)
  have s0 := rnat_pos (Nat.two_pow_pos s)
  have hxy : ((2 ^ s : Nat) : Rat) * (x + y) = (b : Rat) := by
    have e : (b : Rat) = (a : Rat) + ((b - a : Nat) : Rat) := by
      have : ((a + (b - a) : Nat) : Rat) = (a : Rat) + ((b - a : Nat) : Rat) := by exact_mod_cast rfl
      rw [← this, show a + (b - a) = b by omega]
    rw [e]; grind
  obtain ⟨c, hc⟩ := e2.1 (x + y) hxy
  obtain ⟨c', hc'⟩ := e1.1 x hx
  have hu := e1.2 x hx c
  have s1 := eS_add_le x0 y0 c
  have s2 := eS_little y0 y1 c
  have n1 := eS_nonneg x0 c
  have b3 := (ge_bd x0 x1 c' 1 (by decide)).2
  have e11 : ((1 : Nat) : Rat) = 1 := by exact_mod_cast rfl
  rw [e11] at b3
  have b4 : eS x c' ≤ 3 := by
    have : eS x c' = ge_ x c' 1 := rfl
    rw [this]; grind
  have m3 := rmul_le b4 (Rat.le_of_lt s0)
  have lo3 : (lo : Rat) ≤ 3 * ((2 ^ s : Nat) : Rat) := by grind
  have lo3' : lo ≤ 3 * 2 ^ s := by
    refine cast_le ?_
    have : ((3 * 2 ^ s : Nat) : Rat) = 3 * ((2 ^ s : Nat) : Rat) := by exact_mod_cast rfl
    rw [this]
    exact lo3
  refine ⟨?_, lo3'⟩
  have hw1 : ((ha' : Nat) : Rat) ≤ (lo : Rat) + 2 := by
    have : ((lo + 2 : Nat) : Rat) = (lo : Rat) + 2 := by exact_mod_cast rfl
    rw [← this]
    exact_mod_cast w1
  have hw2 : (hi : Rat) ≤ (lb : Rat) + 2 := by
    have : ((lb + 2 : Nat) : Rat) = (lb : Rat) + 2 := by exact_mod_cast rfl
    rw [← this]
    exact_mod_cast w2
  have p1 := rmul_le s2 (show 0 ≤ eS x c by grind)
  have p2 := rmul_le s1 (Rat.le_of_lt s0)
  have p3 := rmul_le p1 (Rat.le_of_lt s0)
  have hW : 256 ≤ 2 ^ s := Nat.le_trans (show 256 ≤ 2 ^ 8 by decide) (Nat.pow_le_pow_right (by decide) hs8)
  have hW' : (256 : Rat) ≤ ((2 ^ s : Nat) : Rat) := by exact_mod_cast hW
  -- 2^s eS x c is at most lo + 2, and that at most 4 times 2^s
  have q1 := rmul_le hu y0
  have q2 := rmul_le (show (lo : Rat) + 2 ≤ 4 * ((2 ^ s : Nat) : Rat) by grind) y0
  refine cast_le ?_
  have c1 : ((lo + 4 + 8 * (b - a) : Nat) : Rat) = (lo : Rat) + 4 + 8 * ((b - a : Nat) : Rat) := by exact_mod_cast rfl
  rw [c1, ← hy]
  have q3 := rmul_le hw1 y0
  generalize ((2 ^ s : Nat) : Rat) = W at *
  generalize eS (x + y) c = T at *
  generalize eS x c = S at *
  generalize eS y c = U at *
  grind

set_option maxHeartbeats 2000000 in
theorem exp_told (A : Option Addr) (n c : Nat) (xs : List Nat) (B : Option Addr) (m d : Nat) (ys : List Nat) (k : Nat) (w : World) (hA : Lim w A n c xs) (hB : Lim w B m d ys) (hn : n ≤ 150) (hm : m ≤ 150) (hT : Tab w) (hk8 : 8 ≤ k) (hk9 : k ≤ 9000) (hle : val xs ≤ val ys) (hle2 : val ys ≤ 2 ^ k) :
    Calls Tryz.prog 23 #[.slice A n c, .slice B m d, .int .i64 (k : Int)] w (TwoTold w fun _ lo _ hi r => r = 0 ∧ ExV false (val xs) k lo ∧ ExV true (val ys) k hi) := by
  have H1 := Lib.hid (sscale_l (k : Int) true w (by show _ = _; exact decide_eq_true ⟨by omega, by omega⟩))
  obtain ⟨cv, hcv⟩ : ∃ cv, cmpZ (val xs) (val ys) = cv := ⟨_, rfl⟩
  have H2 := Lib.hid (cmp_b cv A n c xs B m d ys w hA hB (by omega) (by omega) hcv)
  have d1 : decide ((0 : Int) < cv) = false := decide_eq_false (by rw [← hcv]; have := cmpZ_down hle; omega)
  obtain ⟨cu, hcu⟩ : ∃ cu, cmpZ (val ys) (2 ^ k) = cu := ⟨_, rfl⟩
  have d2 : decide ((0 : Int) < cu) = false := decide_eq_false (by rw [← hcu]; have := cmpZ_down hle2; omega)
  have H3 : Hid (∀ u, Calls Tryz.prog 59 #[.int .i64 (k : Int)] u (Tells u (2 ^ k) (k + 2))) := fun u => spower_l k u (by omega)
  have H4 : Hid (∀ u A3 m3 c3 zs, Below w.heap.size w u → Lim u A3 m3 c3 zs → val zs = 2 ^ k → m3 ≤ 10000 → Calls Tryz.prog 42 #[.slice B m d, .slice A3 m3 c3] u fun e w' => e = .returned (.int .i64 cu) ∧ Below u.heap.size u w') := fun u A3 m3 c3 zs g1 g2 g3 g4 =>
    cmp_b cu B m d ys A3 m3 c3 zs u (hB.below g1) g2 (by omega) (by omega) (by show _ = _; rw [g3]; exact hcu)
  have HE1 : Hid (∀ u, Below w.heap.size w u → Calls Tryz.prog 60 #[.bool false, .slice A n c, .int .i64 (k : Int)] u (EndTold u (ExV false (val xs) k))) := fun u hu =>
    sexp_l false A n c xs k u (hA.below hu) hn (hT.below hu) (Nat.le_trans hle hle2) (by omega)
  have HE2 : Hid (∀ u, Below w.heap.size w u → Calls Tryz.prog 60 #[.bool true, .slice B m d, .int .i64 (k : Int)] u (EndTold u (ExV true (val ys) k))) := fun u hu =>
    sexp_l true B m d ys k u (hB.below hu) hm (hT.below hu) hle2 (by omega)
  clear hA hB hT hk8 hcv hcu hle hle2
  go_enter Tryz.func23, Tryz.ntmps23
  go_wp2_with fail
  refine H1.out.mono ?_
  rintro e w' ⟨rfl, rfl⟩
  go_wp2_with fail
  refine H2.out.mono ?_
  rintro e w1 ⟨rfl, hB1⟩
  have HS := Lib.hid hB1
  clear H1 H2 hB1
  go_wp2_with fail
  refine (H3.out _).mono ?_
  rintro e w2 ⟨A3, m3, c3, zs, rfl, hm3, hl3, hb3, hv3, hB3⟩
  replace HS := Lib.hid (HS.out.trans (hB3.mono HS.out.size))
  have H5 := Lib.hid (H4.out w2 A3 m3 c3 zs HS.out hl3 hv3 (by omega))
  clear hl3 hb3 hv3 hB3 H3 H4
  go_wp2_with fail
  refine H5.out.mono ?_
  rintro e w3 ⟨rfl, hB4⟩
  replace HS := Lib.hid (HS.out.trans (hB4.mono HS.out.size))
  have H6 := Lib.hid (HE1.out w3 HS.out)
  clear hB4 H5 HE1
  go_wp2_with fail
  refine H6.out.mono ?_
  rintro e w4 ⟨A4, m4, c4, ts, rfl, hm4, hl4, hB5, hq4⟩
  replace HS := Lib.hid (HS.out.trans (hB5.mono HS.out.size))
  have H7 := Lib.hid (HE2.out w4 HS.out)
  have HL : Hid (Lim w4 A4 m4 c4 ts ∧ ExV false (val xs) k (val ts)) := ⟨hl4, hq4⟩
  clear H6 hl4 hB5 hq4 HE2
  go_wp2_with fail
  refine H7.out.mono ?_
  rintro e w5 ⟨A5, m5, c5, us, rfl, hm5, hl5, hB6, hq5⟩
  have Hfin : Hid (TwoTold w (fun _ lo _ hi r => r = 0 ∧ ExV false (val xs) k lo ∧ ExV true (val ys) k hi) (.returned (.tuple #[.slice A4 m4 c4, .slice A5 m5 c5, .int .i64 0])) w5) :=
    ⟨A4, m4, c4, ts, A5, m5, c5, us, 0, rfl, hm4, hm5, HL.out.1.below hB6, hl5, HS.out.trans (hB6.mono HS.out.size), rfl, HL.out.2, hq5⟩
  clear H7 HL HS hl5 hB6 hq5
  go_wp2
  go_ret3
  exact Hfin.out
end Go.Proofs.YtijhdlkfihjbiaaGreatDoor
