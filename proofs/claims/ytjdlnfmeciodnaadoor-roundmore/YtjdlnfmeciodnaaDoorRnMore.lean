/- The walk of RoundMore. -/
import Derived.Test.YtjdlnfmeciodnaaDoorRnLaw
namespace Go.Proofs.YtjdlnfmeciodnaaDoor
open Go.RowKit

theorem vX_times (q : Nat) (hq : q ≤ kb) (Y : Nat) : ∃ b, vX Y = b * 2 ^ q := by
  refine ⟨fm Y * 2 ^ (fE Y + kb - q), ?_⟩
  rw [vX, Nat.mul_assoc, ← Nat.pow_add, Nat.sub_add_cancel (by omega)]
theorem times_lt {a b T : Nat} (h : a * T < b * T) : a * T + T ≤ b * T := by
  have h1 : a < b := Nat.lt_of_mul_lt_mul_right h
  have h2 : (a + 1) * T ≤ b * T := Nat.mul_le_mul_right _ h1
  rw [Nat.add_mul, Nat.one_mul] at h2
  exact h2
theorem more_same {S E q X : Nat} (g : Bool) (dir : Int) (hE : 0 < E) (hE2 : 2 * E < 2 ^ q) (hq : q ≤ kb) (hS : ∃ a, S = a * 2 ^ q) (hX : IsLow S X) :
    IsLow (S + E) X ∧ rndS g (S + E) false dir X = rndS g S true dir X := by
  obtain ⟨a, ha⟩ := hS
  obtain ⟨b, hb⟩ := vX_times q hq X
  obtain ⟨c, hc⟩ := vX_times q hq (X + 1)
  obtain ⟨n, hn⟩ := vX_times q hq 4503599627370496
  obtain ⟨x1, x2, x3⟩ := hX
  generalize 2 ^ q = T at *
  have k1 : S < vX (X + 1) → S + T ≤ vX (X + 1) := fun h => by
    rw [ha, hc] at h ⊢; exact times_lt h
  have k2 : 2 * S < vX X + vX (X + 1) → 2 * S + T ≤ vX X + vX (X + 1) := fun h => by
    rw [ha, hb, hc, ← Nat.mul_assoc, ← Nat.add_mul] at h ⊢; exact times_lt h
  have k3 : S < vX X → S + T ≤ vX X := fun h => by
    rw [ha, hb] at h ⊢; exact times_lt h
  have k4 : S < vX 4503599627370496 → S + T ≤ vX 4503599627370496 := fun h => by
    rw [ha, hn] at h ⊢; exact times_lt h
  have k5 : vX X + vX (X + 1) < 2 * S → vX X + vX (X + 1) + T ≤ 2 * S := fun h => by
    rw [ha, hb, hc, ← Nat.mul_assoc, ← Nat.add_mul] at h ⊢; exact times_lt h
  refine ⟨⟨x1, by omega, fun h => by have := k1 (x3 h); omega⟩, ?_⟩
  unfold rndS
  by_cases hI : X = 9218868437227405312
  · rw [if_pos hI, if_pos hI]
  · rw [if_neg hI, if_neg hI]
    have e1 : hS (S + E) X = hS S X := by
      unfold hS
      rw [decide_eq_decide]
      omega
    have e2 : (bS (S + E) X || false) = (bS S X || true) := by
      rw [Bool.or_true, Bool.or_false]
      unfold bS
      exact decide_eq_true (by omega)
    have e3 : decide (S + E < vX 4503599627370496) = decide (S < vX 4503599627370496) := by
      rw [decide_eq_decide]
      omega
    rw [e1, e2, e3]

theorem more_rnd {V Z : Nat} {e m : Int} (g : Bool) (dir : Int) (hV : V ≠ 0) (h1 : -4000 ≤ e) (h2 : e ≤ 1073741824) (hm : m = -6000) (hZ : Z = V * 2 ^ (e + 6000).toNat + 1) :
    rndO g V e true dir = rndO g Z m false dir := by
  have hl := low_is hV (by omega) h2
  have s1 := sh_eq (e := e) (by omega) h2
  have s2 := sh_eq (e := m) (by omega) (by omega)
  obtain ⟨p, hp⟩ : ∃ p, sh m = p := ⟨_, rfl⟩
  obtain ⟨q, hq⟩ : ∃ q, p + 2 = q := ⟨_, rfl⟩
  obtain ⟨k, hk⟩ : ∃ k, (e + 6000).toNat = k := ⟨_, rfl⟩
  rw [hk] at hZ
  rw [hp] at s2
  have hkb := kb_eq
  have hS : sz Z m = sz V e + 2 ^ p := by
    unfold sz
    rw [hp, hZ, Nat.add_mul, Nat.one_mul, Nat.mul_assoc, ← Nat.pow_add, show k + p = sh e by omega]
  have hmul : ∃ a, sz V e = a * 2 ^ q := ⟨V * 2 ^ (sh e - q), by
    unfold sz
    rw [Nat.mul_assoc, ← Nat.pow_add, Nat.sub_add_cancel (by omega)]⟩
  have hE2 : 2 * 2 ^ p < 2 ^ q := by
    rw [← hq, Nat.pow_add, Nat.mul_comm (2 ^ p)]
    exact Nat.mul_lt_mul_of_pos_right (by decide) (Nat.two_pow_pos p)
  obtain ⟨a1, a2⟩ := more_same g dir (Nat.two_pow_pos p) hE2 (by omega) hmul hl
  rw [rndO_S g true dir hV (by omega) h2 hl, ← a2]
  rw [← hS] at a1 ⊢
  exact (rndO_S g false dir (by omega) (by omega) (by omega) a1).symm

theorem mk_one6 (g : Bool) : mk g 1 (-6000) = some ⟨g, 1, -6000⟩ := by
  have hl : low 1 = 0 := low_eq (l := 0) (m := 0) (by decide)
  unfold mk; rw [hl]; rfl
/-- The sum with 2^-6000. -/
theorem add_tiny {d : Dy} {Z k : Nat} (hV : d.V ≠ 0) (h1 : -4000 ≤ d.e) (h2 : (blen d.V : Int) + d.e ≤ 50000) (hk : d.e + 6000 = (k : Int)) (hZ : Z = d.V * 2 ^ k + 1) :
    addO (some d) (some ⟨d.neg, 1, -6000⟩) = some ⟨d.neg, Z, -6000⟩ ∧ mk d.neg Z (-6000) = some ⟨d.neg, Z, -6000⟩ := by
  have hB := blen_pos hV
  have hZ0 : Z ≠ 0 := by omega
  have hlo : low Z = 0 := by
    obtain ⟨j, rfl⟩ : ∃ j, k = j + 1 := ⟨k - 1, by omega⟩
    refine low_eq (l := 0) (m := d.V * 2 ^ j) ?_
    rw [hZ, Nat.pow_succ, ← Nat.mul_assoc]
    omega
  have hmk : mk d.neg Z (-6000) = some ⟨d.neg, Z, -6000⟩ := by
    unfold mk
    rw [hlo, Nat.pow_zero, Nat.div_one, show held (-6000) + ((0 : Nat) : Int) = -6000 from by decide]
    unfold toldD
    rw [if_neg hZ0, if_neg (by decide)]
  refine ⟨?_, hmk⟩
  have hmin : min d.e (-6000) = -6000 := by omega
  show addB d ⟨d.neg, 1, -6000⟩ = _
  unfold addB
  rw [if_neg hV]
  show (if (1 : Nat) = 0 then _ else _) = _
  rw [if_neg (by decide)]
  show (if 65535 < max ((blen d.V : Int) - 1 + d.e) ((blen 1 : Int) - 1 + -6000) - min d.e (-6000) then _ else (if d.neg = d.neg then mk d.neg (d.V * 2 ^ (d.e - min d.e (-6000)).toNat + 1 * 2 ^ (-6000 - min d.e (-6000)).toNat) (min d.e (-6000)) else _)) = _
  rw [hmin]
  have hb1 : blen 1 = 1 := by decide
  rw [if_neg (by rw [hb1]; omega), if_pos rfl, show (d.e - -6000).toNat = k by omega, show (-6000 - -6000 : Int).toNat = 0 from rfl, Nat.pow_zero, Nat.mul_one, ← hZ]
  exact hmk

theorem rmore_facts {g : Bool} {V n : Nat} {e0 : Int} (hV : V ≠ 0) (hbl : blen V ≤ 64 * n) (hn : n ≤ 20) (h1 : -4000 ≤ e0) (h2 : e0 ≤ 4000) :
    ∃ (d : Dy) (Z : Nat), mk g V e0 = some d ∧ d.neg = g ∧ d.V ≠ 0 ∧ addO (mk g V e0) (mk g 1 (-6000)) = some ⟨g, Z, -6000⟩ ∧
      ∀ dir, 0 ≤ dir ∧ dir ≤ 3 → ∃ X F, toR g V e0 true dir = (X, F, 0) ∧ toR g Z (-6000) false dir = (X, F, 0) := by
  have hl := low_le_blen V
  have hh : held e0 = e0 := held_id (by omega) (by omega)
  have hne : V / 2 ^ low V ≠ 0 := fun h => hV (odd_part_zero.1 h)
  have hmk : mk g V e0 = some ⟨g, V / 2 ^ low V, e0 + low V⟩ := by
    unfold mk toldD
    rw [hh, if_neg hne, if_neg (by omega)]
  have hbd : blen (V / 2 ^ low V) ≤ blen V := blen_mono (Nat.div_le_self _ _)
  obtain ⟨Z, hZ⟩ : ∃ Z, Z = V / 2 ^ low V * 2 ^ (e0 + low V + 6000).toNat + 1 := ⟨_, rfl⟩
  obtain ⟨a1, a2⟩ := add_tiny (d := ⟨g, V / 2 ^ low V, e0 + low V⟩) (Z := Z) (k := (e0 + low V + 6000).toNat) hne (by show -4000 ≤ e0 + low V; omega) (by show (blen (V / 2 ^ low V) : Int) + (e0 + low V) ≤ 50000; omega) (by show e0 + low V + 6000 = _; omega) hZ
  refine ⟨_, Z, hmk, rfl, hne, ?_, fun dir hd => ?_⟩
  · rw [hmk, mk_one6]; exact a1
  · have t1 := toR_some (more := true) hd hmk hne
    have hz : (Dy.mk g Z (-6000)).V ≠ 0 := by show Z ≠ 0; omega
    have t2 := toR_some (more := false) hd a2 hz
    simp only at t1 t2
    have hr := more_rnd (V := V / 2 ^ low V) (Z := Z) (e := e0 + low V) (m := -6000) g dir hne (by omega) (by omega) rfl hZ
    rw [hr] at t1
    exact ⟨_, _, t1, t2⟩

theorem rmore_out (g : Bool) (A : Option Addr) (n c : Nat) (e0 : Int) (dir : Int) (w : World) (hT : Tab w) (h : 20 < n ∨ (n ≤ 20 ∧ 4000 < e0) ∨ (n ≤ 20 ∧ e0 ≤ 4000 ∧ e0 < -4000)) :
    Calls Tryd.prog 5 #[.agg #[.bool g, .slice A n c, .int .i64 e0], .int .u8 dir] w fun e w' => e = .returned (.bool true) ∧ Below w.heap.size w w' := by
  have a1 := below1 w (.cells #[.bool g, .slice A n c, .int .i64 e0] 24)
  have H1 := Lib.hid (ralive_any _ (hT.below a1))
  have HS := Lib.hid a1
  have Hb := Lib.hid (Bd.new w 24 g A n c e0)
  clear a1 hT
  rcases h with h | ⟨h, h'⟩ | ⟨h, h', h''⟩
  all_goals (
    first
      | (have q1 : decide ((20 : Int) < (n : Int)) = true := decide_eq_true (by omega); clear h)
      | (have q1 : decide ((20 : Int) < (n : Int)) = false := decide_eq_false (by omega); have q1' : decide (20 < n) = false := decide_eq_false (by omega); have q2 : decide ((4000 : Int) < e0) = true := decide_eq_true h'; clear h h')
      | (have q1 : decide ((20 : Int) < (n : Int)) = false := decide_eq_false (by omega); have q1' : decide (20 < n) = false := decide_eq_false (by omega); have q2 : decide ((4000 : Int) < e0) = false := decide_eq_false (by omega); have q3 : decide (e0 < -4000) = true := decide_eq_true h''; clear h h' h'')
    go_enter Tryd.func5, Tryd.ntmps5
    go_wp2_with fail
    refine H1.out.mono ?_
    rintro e w1 ⟨rfl, hb⟩
    have k1 := Hb.out.below hb
    have x1 := k1.c1
    have x2 := k1.c2
    have Hfin := Lib.hid (HS.out.trans (hb.mono HS.out.size))
    clear k1 hb H1 Hb HS
    go_wp2
    go_ret
    exact ⟨rfl, Hfin.out⟩)

set_option maxHeartbeats 1000000 in
theorem walk_roundMore (g : Bool) (A : Option Addr) (n c : Nat) (xs : List Nat) (e0 : Int) (dir0 : Int) (w : World) (hT : Tab w) (hA : Lim w A n c xs) (h0 : 0 ≤ dir0) (h1 : dir0 ≤ 255) :
    Calls Tryd.prog 5 #[.agg #[.bool g, .slice A n c, .int .i64 e0], .int .u8 dir0] w fun e w' => e = .returned (.bool true) ∧ Below w.heap.size w w' := by
  by_cases hn : n ≤ 20
  case neg => exact rmore_out g A n c e0 dir0 w hT (Or.inl (by omega))
  by_cases he : e0 ≤ 4000
  case neg => exact rmore_out g A n c e0 dir0 w hT (Or.inr (Or.inl ⟨hn, by omega⟩))
  by_cases he2 : -4000 ≤ e0
  case neg => exact rmore_out g A n c e0 dir0 w hT (Or.inr (Or.inr ⟨hn, he, by omega⟩))
  obtain ⟨dr, rfl⟩ := Int.eq_ofNat_of_zero_le h0
  obtain ⟨r, hr⟩ : ∃ r, dr % 4 = r := ⟨_, rfl⟩
  have e1 : (dr : Int) % 4 = (r : Int) := by omega
  have hr3 : r ≤ 3 := by omega
  have a1 := below1 w (.cells #[.bool g, .slice A n c, .int .i64 e0] 24)
  have H1 := Lib.hid (ralive_any _ (hT.below a1))
  have HS := Lib.hid a1
  have Hb := Lib.hid (Bd.new w 24 g A n c e0)
  have HA := Lib.hid (hA.below a1)
  have HT := Lib.hid (hT.below a1)
  have hbl := hA.blen_le
  have q1 : decide ((20 : Int) < (n : Int)) = false := decide_eq_false (by omega)
  have q1' : decide (20 < n) = false := decide_eq_false (by omega)
  have q2 : decide ((4000 : Int) < e0) = false := decide_eq_false (by omega)
  have q3 : decide (e0 < -4000) = false := decide_eq_false (by omega)
  obtain ⟨sg, hsg⟩ : ∃ sg, sgD g (val xs) = sg := ⟨_, rfl⟩
  have Hsg := Lib.hid hsg
  have hcase : (val xs = 0 ∧ sg = 0) ∨ (val xs ≠ 0 ∧ sg ≠ 0) := by
    rw [← hsg]; unfold sgD
    by_cases h : val xs = 0
    · rw [if_pos h]; exact Or.inl ⟨h, rfl⟩
    · rw [if_neg h]; exact Or.inr ⟨h, by cases g <;> decide⟩
  clear a1 hA hT hsg hr h0
  rcases hcase with ⟨hV, rfl⟩ | ⟨hV, hs0⟩
  · clear hV hbl he he2
    go_enter Tryd.func5, Tryd.ntmps5
    go_wp2_with fail
    refine H1.out.mono ?_
    rintro e w1 ⟨rfl, hb⟩
    have k1 := Hb.out.below hb
    have a2 := below1 w1 (.cells #[.bool g, .slice A n c, .int .i64 e0] 35)
    have H2 := Lib.hid (sign_l 0 g A n c xs e0 _ ((HA.out.below hb).below a2) (by omega) Hsg)
    have HS1 := Lib.hid ((HS.out.trans (hb.mono HS.out.size)).trans (a2.mono (HS.out.trans (hb.mono HS.out.size)).size))
    have x0 := k1.c0
    have x1 := k1.c1
    have x2 := k1.c2
    clear k1 hb H1 Hb HS a2
    go_wp2_with fail
    refine H2.out.mono ?_
    rintro e w2 ⟨rfl, hb⟩
    have Hfin := Lib.hid (HS1.out.trans (hb.mono HS1.out.size))
    clear hb HS1 H2
    go_wp2
    go_ret
    exact ⟨rfl, Hfin.out⟩
  · obtain ⟨d, Z, f1, f2, f3, f4, f5⟩ := rmore_facts (g := g) (n := n) (e0 := e0) hV hbl hn he2 he
    obtain ⟨X, F, t1, t2⟩ := f5 (r : Int) (by omega)
    have hx1 : val [1] = 1 := by decide
    have H4 : Hid (addO (mk g (val xs) e0) (mk g (val [1]) (-6000)) = some ⟨g, Z, -6000⟩) := by rw [hx1]; exact f4
    have T1 := Lib.hid t1
    have T2 := Lib.hid t2
    have c1 : (sg == 0) = false := beq_no hs0
    clear f1 f2 f3 f4 f5 t1 t2 hV hs0 hx1 he he2 hbl
    go_enter Tryd.func5, Tryd.ntmps5
    go_wp2_with fail
    refine H1.out.mono ?_
    rintro e w1 ⟨rfl, hb⟩
    have k1 := Hb.out.below hb
    have a2 := below1 w1 (.cells #[.bool g, .slice A n c, .int .i64 e0] 35)
    have H2 := Lib.hid (sign_l sg g A n c xs e0 _ ((HA.out.below hb).below a2) (by omega) Hsg)
    have HS1 := Lib.hid ((HS.out.trans (hb.mono HS.out.size)).trans (a2.mono (HS.out.trans (hb.mono HS.out.size)).size))
    have HA1 := Lib.hid ((HA.out.below hb).below a2)
    have HT1 := Lib.hid ((HT.out.below hb).below a2)
    have HX1 := Lib.hid (Bd.new w1 35 g A n c e0)
    have HD1 := Lib.hid (k1.below a2)
    have x0 := k1.c0
    have x1 := k1.c1
    have x2 := k1.c2
    clear k1 hb H1 Hb HS a2 HA HT
    go_wp2_with fail
    refine H2.out.mono ?_
    rintro e w2 ⟨rfl, hb⟩
    have HS2 := Lib.hid (HS1.out.trans (hb.mono HS1.out.size))
    have HA2 := Lib.hid (HA1.out.below hb)
    have HT2 := Lib.hid (HT1.out.below hb)
    have HX2 := Lib.hid (HX1.out.below hb)
    have HD2 := Lib.hid (HD1.out.below hb)
    have H3 := Lib.hid (to_l X F 0 g A n c xs e0 true (r : Int) w2 HA2.out (by omega) HT2.out T1)
    clear hb HS1 H2 HA1 HT1 HX1 HD1 x0 x1 x2
    have x0 := HX2.out.c0
    have x1 := HX2.out.c1
    have x2 := HX2.out.c2
    go_wp2_with fail
    refine H3.out.mono ?_
    rintro e w3 ⟨rfl, hb⟩
    have a4 := below1 w3 (.cells #[.int .u64 1] 30)
    have n1 := lim_new1 w3 30 1 1 rfl (by decide)
    have hb4 := hb.trans (a4.mono hb.size)
    have HS3 := Lib.hid (HS2.out.trans (hb4.mono HS2.out.size))
    have HT3 := Lib.hid (HT2.out.below hb4)
    have H5 := Lib.hid (dadd_any (some ⟨g, Z, -6000⟩) g A n c xs e0 g _ 1 1 [1] (-6000) _ (HA2.out.below hb4) n1 (by omega) (by decide) HT3.out H4)
    clear x0 x1 x2
    have kx := HX2.out.below hb
    have kd := HD2.out.below hb
    have x0 := kx.c0
    have x1 := kx.c1
    have x2 := kx.c2
    have y0 := kd.c0
    clear hb hb4 a4 n1 HS2 HT2 HX2 HD2 HA2 kx kd H3 H4 T1
    go_wp2_with fail
    refine H5.out.mono ?_
    rintro e w4 ⟨g4, A4, m4, c4, zs, E4, r4, rfl, hm4, hl4, hb4, ⟨rfl, rfl, hz, rfl⟩, hB4⟩
    have a5 := below1 w4 (.cells #[.bool g4, .slice A4 m4 c4, .int .i64 (-6000)] 35)
    have hB5 := hB4.trans (a5.mono hB4.size)
    have HS4 := Lib.hid (HS3.out.trans (hB5.mono HS3.out.size))
    have hm9 : m4 ≤ 4294967000 := by omega
    have H6 := Lib.hid (to_l X F 0 g4 A4 m4 c4 zs (-6000) false (r : Int) _ (hl4.below a5) hm9 (HT3.out.below hB5) (by rw [hz]; exact T2))
    clear x0 x1 x2 y0 hl4 hb4 hz hB4 a5 hB5 HS3 HT3 T2 H5
    go_wp2_with fail
    refine H6.out.mono ?_
    rintro e w5 ⟨rfl, hb⟩
    have Hfin := Lib.hid (HS4.out.trans (hb.mono HS4.out.size))
    clear hb HS4 H6
    go_wp2
    go_ret
    exact ⟨rfl, Hfin.out⟩
end Go.Proofs.YtjdlnfmeciodnaaDoor
