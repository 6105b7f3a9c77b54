/- All that DdPairs reckons. -/
import Derived.Test.YtfccpjjdemanbaaDdPairM
import Derived.Test.YtfccpjjdemanbaaDdAbs
import Derived.Test.YtfccpjjdemanbaaDdFar
import Derived.Test.YtfccpjjdemanbaaDdAny
import Derived.Test.YtfccpjjdemanbaaDdWithW
namespace Go.Proofs.Ytfccpjjdemanbaa
open Go.RowKit

/-- A number that isn't below 0. -/
theorem wu_pos {d : Dy} {x : Int} (h : Wu d x) (hx : 0 ≤ x) : dw d.neg d.V d.e = (sz d.V d.e : Int) ∧ (sz d.V d.e : Int) = x * ((2 ^ kb : Nat) : Int) := by
  have h1 : dw d.neg d.V d.e = x * ((2 ^ kb : Nat) : Int) := h
  have h2 : 0 ≤ x * ((2 ^ kb : Nat) : Int) := Int.mul_nonneg hx (Int.natCast_nonneg _)
  have h3 := dw_abs d.neg d.V d.e
  constructor <;> omega
/-- The pair of a sum of two safe numbers without a sign. -/
theorem pair_of {a b k : Nat} (hk : k = 1675) (sa : Sf a) (sb : Sf b) : ∃ xh xl : Nat, ∃ M : Int, SumEqs (a % 9223372036854775808) (b % 9223372036854775808) xh xl ∧ Nb (k + 1) xh ∧ Nb (k + 1) xl ∧ 0 ≤ M ∧ M = fvI xh + fvI xl ∧ fvI xh = rn M ∧ 9007199254740992 * (fvI xl).natAbs ≤ M.natAbs ∧ (M = 0 ∨ 2 ^ 474 ≤ M.natAbs) ∧ M.natAbs ≤ 2 ^ (k + 1) := by
  obtain ⟨a1, a2⟩ := abs_facts sa
  obtain ⟨b1, b2⟩ := abs_facts sb
  have na := sf_nb hk (b := a % 9223372036854775808) (by omega) a1
  have nb := sf_nb hk (b := b % 9223372036854775808) (by omega) b1
  obtain ⟨s, r, q1, q2, q3, q4, q5⟩ := nb_sum (by omega) na nb
  have big : ∀ x : Nat, Sf x → fvI x = 0 ∨ 2 ^ 474 ≤ (fvI x).natAbs := fun x hx => by
    rcases sf_val hx with h0 | ⟨h1, h2, h3, h4, h5⟩
    · exact Or.inl h0
    · refine Or.inr ?_
      obtain ⟨z, hz⟩ : ∃ z : Nat, z = 474 := ⟨_, rfl⟩
      rw [fvI_abs, ← hz, show z = 52 + (z - 52) by omega, Nat.pow_add]
      exact Nat.mul_le_mul (by rw [← p52]; exact h4) (Nat.pow_le_pow_right (by decide) (by omega))
  refine ⟨s, r, fvI (a % 9223372036854775808) + fvI (b % 9223372036854775808), q1, q2, q3, by omega, by omega, q4, ?_, ?_, add_le na.2.2 nb.2.2⟩
  · have := rn_rel (fvI (a % 9223372036854775808) + fvI (b % 9223372036854775808))
    rw [q5, q4]
    rw [show ∀ x : Int, (x - rn x).natAbs = (rn x - x).natAbs from fun x => by omega]
    exact this
  · rcases big _ a1 with h | h
    · rcases big _ b1 with h9 | h9
      · exact Or.inl (by omega)
      · refine Or.inr ?_
        rw [h, Int.zero_add]; exact h9
    · refine Or.inr (Nat.le_trans h ?_)
      rw [a2, b2]
      clear h
      omega
/-- A float64 that is great enough is of 53 bits at a place. -/
theorem place_of {x z : Nat} (hz : z = 474) (h : 2 ^ z ≤ (fvI x).natAbs) : ∃ (X : Int) (α : Nat), Nm X ∧ fvI x = X * ((2 ^ α : Nat) : Int) ∧ blen (fvI x).natAbs = α + 53 := by
  have hp := f_parts x
  have hE : 0 < fE x := by
    rcases Nat.eq_zero_or_pos (fE x) with h0 | h0
    · rw [fvI_abs, h0, Nat.pow_zero, Nat.mul_one] at h
      have h9 : (2 : Nat) ^ 53 ≤ 2 ^ z := Nat.pow_le_pow_right (by decide) (by omega)
      rw [p53] at h9
      have := hp.2.1
      omega
    · exact h0
  have h4 := hp.2.2.1 hE
  have hA : fvI x = (if fng x then -(fm x : Int) else (fm x : Int)) * ((2 ^ fE x : Nat) : Int) := by
    unfold fvI
    cases fng x
    · simp only [Bool.false_eq_true, if_false]; exact Int.natCast_mul _ _
    · simp only [if_true]; rw [Int.neg_mul, ← Int.natCast_mul]
  have hab : (if fng x then -(fm x : Int) else (fm x : Int)).natAbs = fm x := by split <;> omega
  refine ⟨_, fE x, Or.inr (by rw [hab]; exact ⟨h4, hp.2.1⟩), hA, ?_⟩
  rw [fvI_abs, blen_shl (by omega)]
  have hB : blen (fm x) = 53 := by
    refine Nat.le_antisymm (blen_le_iff.2 (by rw [p53]; exact hp.2.1)) ?_
    rcases Nat.lt_or_ge (blen (fm x)) 53 with h9 | h9
    · have := blen_le_iff.1 (show blen (fm x) ≤ 52 by omega)
      rw [← p52] at this
      omega
    · exact h9
  omega
/-- Rounding leaves the greatest bit, or moves it by one. -/
theorem blen_rn {x : Int} (h0 : x ≠ 0) : blen x.natAbs ≤ blen (rn x).natAbs ∧ blen (rn x).natAbs ≤ blen x.natAbs + 1 := by
  have hx : x.natAbs ≠ 0 := by omega
  have h1 := blen_le hx
  have h2 := lt_blen x.natAbs
  have hF : ∀ k : Nat, Fl ((2 ^ k : Nat) : Int) := fun k => Fl.grid (P := 2 ^ k) (k := k) rfl ⟨1, by rw [Int.mul_one]⟩ (by rw [Int.natAbs_natCast]; omega)
  have g1 := rn_ge (x := x) (hF (blen x.natAbs - 1)) (by rw [Int.natAbs_natCast]; exact h1)
  have g2 := rn_le (x := x) (hF (blen x.natAbs)) (by rw [Int.natAbs_natCast]; omega)
  rw [Int.natAbs_natCast] at g1 g2
  have hb := blen_pos hx
  constructor
  · rcases Nat.lt_or_ge (blen (rn x).natAbs) (blen x.natAbs) with h9 | h9
    · have := blen_le_iff.1 (show blen (rn x).natAbs ≤ blen x.natAbs - 1 by omega)
      omega
    · exact h9
  · refine blen_le_iff.2 ?_
    rw [Nat.pow_succ]
    have := Nat.two_pow_pos (blen x.natAbs)
    omega
/-- The greatest bit, by units. -/
theorem rtop_wu {d : Dy} {x : Int} (h : Wu d x) (h1 : -1074 ≤ d.e) (h2 : d.e ≤ 10000) (h0 : d.V ≠ 0) : rtop d.V d.e = (blen x.natAbs : Int) - 1 - 1074 := by
  have h3 := wu_nat (a := 0) (b := (d.e + 1074).toNat) h (by omega) (by omega) (by omega)
  rw [Nat.pow_zero, Nat.mul_one] at h3
  have h4 := congrArg blen h3
  rw [blen_shl h0] at h4
  unfold rtop
  omega
/-- The worth of a product, in whatever unit. -/
theorem dw_pair {d1 d2 : Dy} {x y : Int} {u : Nat} (hu : u = 1074) (h1 : Wu d1 x) (h2 : Wu d2 y) (a1 : -10000 ≤ d1.e) (a2 : d1.e ≤ 10000) (b1 : -10000 ≤ d2.e) (b2 : d2.e ≤ 10000) : dw (d1.neg ^^ d2.neg) (d1.V * d2.V) (d1.e + d2.e) * ((2 ^ u : Nat) : Int) = x * y * ((2 ^ kb : Nat) : Int) := by
  have k1 := kb_sh (e := d1.e) (by omega) (by omega)
  have k2 := kb_sh (e := d2.e) (by omega) (by omega)
  have k3 := kb_sh (e := d1.e + d2.e) (by omega) (by omega)
  have hs : sz d1.V d1.e * sz d2.V d2.e = sz (d1.V * d2.V) (d1.e + d2.e) * 2 ^ (u + kb) := by
    unfold sz
    have e : sh d1.e + sh d2.e = sh (d1.e + d2.e) + (u + kb) := by omega
    have e2 : d1.V * 2 ^ sh d1.e * (d2.V * 2 ^ sh d2.e) = d1.V * d2.V * 2 ^ (sh d1.e + sh d2.e) := by rw [Nat.pow_add]; ac_rfl
    rw [e2, e, Nat.pow_add, ← Nat.mul_assoc]
  have hm := dw_prod d1.neg d2.neg d1.V d2.V d1.e d2.e
  unfold Wu at h1 h2
  rw [h1, h2, hs] at hm
  have hp : ((2 ^ kb : Nat) : Int) ≠ 0 := by have := Nat.two_pow_pos kb; omega
  refine Int.eq_of_mul_eq_mul_right hp ?_
  have e3 : x * y * ((2 ^ kb : Nat) : Int) * ((2 ^ kb : Nat) : Int) = x * ((2 ^ kb : Nat) : Int) * (y * ((2 ^ kb : Nat) : Int)) := by ac_rfl
  rw [e3, hm, Int.mul_assoc, ← Int.natCast_mul, ← Nat.pow_add]
  unfold dw
  rw [Int.natCast_mul]
  cases d1.neg ^^ d2.neg
  · simp
  · simp [Int.neg_mul]

/-- What a law may ask of within. -/
def Wth (h l b : Nat) (g : Bool) (V : Nat) (e0 : Int) : Prop := ∀ (A : Option Addr) (n c : Nat) (ds : List Nat) (w : World), Mn w V A n c ds → n ≤ 240 →
  Calls Try.prog 26 #[.agg #[.float .f64 h, .float .f64 l], .agg #[.bool g, .slice A n c, .int .i64 e0], .int .i64 (b : Int)] w fun e w' => e = .returned (.bool true) ∧ Below w.heap.size w w'
theorem wth_of {h l k K b : Nat} {g : Bool} {V : Nat} {e0 : Int} (hh : Nb k h) (hl : Nb k l) (hk : k ≤ 2090) (hb : b ≤ 100) (hK2 : K ≤ 2750) (h1 : -2148 ≤ e0) (h2 : e0 ≤ 2048) (hD : dw g V e0 = (sz V e0 : Int)) (hK : sz V e0 ≤ 2 ^ K * 2 ^ kb)
    (hc : ((fvI h + fvI l) * ((2 ^ kb : Nat) : Int) - (sz V e0 : Int)).natAbs * 2 ^ b ≤ sz V e0) : Wth h l b g V e0 := fun A n c ds w hM hn => by
  obtain ⟨m1, m2, rfl⟩ := hM
  exact within_w hh hl hk hb hK2 g A n c ds e0 w m1 m2 hn h1 h2 hD hK hc
theorem p100 : (1267650600228229401496703205376 : Nat) = 2 ^ 100 := by decide
theorem p98 : (316912650057057350374175801344 : Nat) = 2 ^ 98 := by decide
theorem p120 : (1329227995784915872903807060280344576 : Nat) = 2 ^ 120 := by decide

/-- The sum of both. -/
theorem pairs_sum {k xh xl yh yl : Nat} {M N : Int} (hk : k = 1676) (h1 : Nb k xh) (h2 : Nb k xl) (h3 : Nb k yh) (h4 : Nb k yl) (hM : 0 ≤ M) (hN : 0 ≤ N) (hx : M = fvI xh + fvI xl) (hy : N = fvI yh + fvI yl)
    (bx : 9007199254740992 * (fvI xl).natAbs ≤ M.natAbs) (by_ : 9007199254740992 * (fvI yl).natAbs ≤ N.natAbs) (lM : M.natAbs ≤ 2 ^ k) (lN : N.natAbs ≤ 2 ^ k) {d1 d2 : Dy} (w1 : Wu d1 M) (w2 : Wu d2 N) (a1 : -1074 ≤ d1.e) (a2 : d1.e ≤ 1024) (b1 : -1074 ≤ d2.e) (b2 : d2.e ≤ 1024) :
    ∃ hi lo : Nat, ∃ o : Dy, AddEqs xh xl yh yl hi lo ∧ AddsTo d1.neg d2.neg d1.V d2.V d1.e d2.e o ∧ o.V ≤ 2 ^ (k + 1) ∧ Wth hi lo 100 o.neg o.V o.e := by
  obtain ⟨hi, lo, i1, i2, i3, i4⟩ := nb_padd (by omega) h1 h2 h3 h4 hM hN hx hy bx by_
  obtain ⟨o, j1, j2, j3, j4, j5, j6, j7⟩ := gadd_spec d1.neg d2.neg d1.V d2.V d1.e d2.e (by omega) (by omega) (by omega) (by omega) (by omega) (by omega)
  have hw := wu_add w1 w2 j1
  obtain ⟨q1, q2⟩ := wu_pos hw (by omega)
  have hl : (M + N).natAbs ≤ 2 ^ (k + 1) := add_le lM lN
  refine ⟨hi, lo, o, i1, j7, wu_bits (q := 0) hw j2 j3 hl (by omega), wth_of (K := k + 1) i2 i3 (by omega) (by decide) (by omega) (by omega) (by omega) q1 ?_ ?_⟩
  · have h9 : (sz o.V o.e) = (M + N).natAbs * 2 ^ kb := by
      have := congrArg Int.natAbs q2
      rw [Int.natAbs_natCast, Int.natAbs_mul, Int.natAbs_natCast] at this
      exact this
    rw [h9]
    exact Nat.mul_le_mul_right _ hl
  · have h9 : (sz o.V o.e) = (M + N).natAbs * 2 ^ kb := by
      have := congrArg Int.natAbs q2
      rw [Int.natAbs_natCast, Int.natAbs_mul, Int.natAbs_natCast] at this
      exact this
    rw [q2, ← Int.sub_mul, Int.natAbs_mul, Int.natAbs_natCast, h9, Nat.mul_right_comm]
    refine Nat.mul_le_mul_right _ ?_
    rw [← p100]
    exact i4
/-- The product of both. -/
theorem pairs_mul {k xh xl yh yl : Nat} {M N : Int} (hk : k = 1676) (h1 : Nb k xh) (h2 : Nb k xl) (h3 : Nb k yh) (h4 : Nb k yl) (hM : 0 ≤ M) (hN : 0 ≤ N) (hx : M = fvI xh + fvI xl) (hy : N = fvI yh + fvI yl)
    (rx : fvI xh = rn M) (ry : fvI yh = rn N) (gx : M = 0 ∨ 2 ^ 474 ≤ M.natAbs) (gy : N = 0 ∨ 2 ^ 474 ≤ N.natAbs)
    (bx : 9007199254740992 * (fvI xl).natAbs ≤ M.natAbs) (by_ : 9007199254740992 * (fvI yl).natAbs ≤ N.natAbs) {d1 d2 : Dy} (w1 : Wu d1 M) (w2 : Wu d2 N) (a1 : -1074 ≤ d1.e) (a2 : d1.e ≤ 1024) (b1 : -1074 ≤ d2.e) (b2 : d2.e ≤ 1024) (hf : farB d1.V d2.V d1.e d2.e = false) :
    ∃ hi lo : Nat, MulEqs xh xl yh yl hi lo ∧ Wth hi lo 98 (d1.neg ^^ d2.neg) (d1.V * d2.V) (d1.e + d2.e) := by
  obtain ⟨u, hu⟩ : ∃ u : Nat, u = 1074 := ⟨_, rfl⟩
  obtain ⟨z, hz⟩ : ∃ z : Nat, z = 474 := ⟨_, rfl⟩
  obtain ⟨K, hK⟩ : ∃ K : Nat, K = 1990 := ⟨_, rfl⟩
  unfold farB at hf
  simp only [Bool.or_eq_false_iff, decide_eq_false_iff_not] at hf
  obtain ⟨⟨⟨f1, f2⟩, f3⟩, f4⟩ := hf
  rw [rtop_wu w1 a1 (by omega) f1, rtop_wu w2 b1 (by omega) f2] at f3 f4
  have m0 := (wu_sign w1 f1).2
  have n0 := (wu_sign w2 f2).2
  have gx := gx.resolve_left m0
  have gy := gy.resolve_left n0
  rw [← hz] at gx gy
  have hF : Fl ((2 ^ z : Nat) : Int) := Fl.grid (P := 2 ^ z) (k := z) rfl ⟨1, by rw [Int.mul_one]⟩ (by rw [Int.natAbs_natCast]; omega)
  have gx2 := rn_ge (x := M) hF (by rw [Int.natAbs_natCast]; exact gx)
  have gy2 := rn_ge (x := N) hF (by rw [Int.natAbs_natCast]; exact gy)
  rw [Int.natAbs_natCast, ← rx] at gx2
  rw [Int.natAbs_natCast, ← ry] at gy2
  obtain ⟨X, α, hX, ex, lx⟩ := place_of hz gx2
  obtain ⟨Y, β, hY, ey, ly⟩ := place_of hz gy2
  have bx2 := blen_rn m0
  have by2 := blen_rn n0
  rw [← rx, lx] at bx2
  rw [← ry, ly] at by2
  have lM := blen_le (x := M.natAbs) (by omega)
  have lN := blen_le (x := N.natAbs) (by omega)
  have uM := lt_blen M.natAbs
  have uN := lt_blen N.natAbs
  have pM := blen_pos (x := M.natAbs) (by omega)
  have pN := blen_pos (x := N.natAbs) (by omega)
  have hlo : 2 ^ u * 1329227995784915872903807060280344576 ≤ (M * N).natAbs := by
    rw [p120, ← Nat.pow_add, Int.natAbs_mul]
    refine Nat.le_trans ?_ (Nat.mul_le_mul lM lN)
    rw [← Nat.pow_add]
    exact Nat.pow_le_pow_right (by decide) (by omega)
  have hhi : (M * N).natAbs ≤ 2 ^ K * 2 ^ u := by
    rw [Int.natAbs_mul, ← Nat.pow_add]
    refine Nat.le_trans (Nat.mul_le_mul (Nat.le_of_lt uM) (Nat.le_of_lt uN)) ?_
    rw [← Nat.pow_add]
    exact Nat.pow_le_pow_right (by decide) (by omega)
  obtain ⟨hi, lo, i1, i2, i3, i4⟩ := nb_pmul (g := α + β - u) hu (by omega) h1 h2 h3 h4 hx hy bx by_ hX hY ex ey (by omega) (by omega) hlo (by rw [← hK]; exact hhi)
  have hd := dw_pair hu w1 w2 (by omega) (by omega) (by omega) (by omega)
  have hMN : 0 ≤ M * N := Int.mul_nonneg hM hN
  have hp := Nat.two_pow_pos u
  have hab := congrArg Int.natAbs hd
  rw [Int.natAbs_mul, Int.natAbs_mul, Int.natAbs_natCast, Int.natAbs_natCast, dw_abs] at hab
  have hD : dw (d1.neg ^^ d2.neg) (d1.V * d2.V) (d1.e + d2.e) = (sz (d1.V * d2.V) (d1.e + d2.e) : Int) := by
    have h9 : 0 ≤ dw (d1.neg ^^ d2.neg) (d1.V * d2.V) (d1.e + d2.e) := by
      rcases (show 0 ≤ dw (d1.neg ^^ d2.neg) (d1.V * d2.V) (d1.e + d2.e) ∨ dw (d1.neg ^^ d2.neg) (d1.V * d2.V) (d1.e + d2.e) < 0 by omega) with h | h
      · exact h
      · have h8 := Int.mul_neg_of_neg_of_pos h (show 0 < ((2 ^ u : Nat) : Int) by omega)
        have h7 := Int.mul_nonneg hMN (Int.natCast_nonneg (2 ^ kb))
        omega
    have := dw_abs (d1.neg ^^ d2.neg) (d1.V * d2.V) (d1.e + d2.e)
    omega
  refine ⟨hi, lo, i1, wth_of (K := K) i2 i3 (by decide) (by decide) (by omega) (by omega) (by omega) hD ?_ ?_⟩
  · refine Nat.le_of_mul_le_mul_right (c := 2 ^ u) ?_ hp
    rw [hab, Nat.mul_right_comm]
    exact Nat.mul_le_mul_right _ hhi
  · rw [hD] at hd
    refine Nat.le_of_mul_le_mul_right (c := 2 ^ u) ?_ hp
    have e1 : ((fvI hi + fvI lo) * ((2 ^ kb : Nat) : Int) - (sz (d1.V * d2.V) (d1.e + d2.e) : Int)).natAbs * 2 ^ u = ((fvI hi + fvI lo) * ((2 ^ u : Nat) : Int) - M * N).natAbs * 2 ^ kb := by
      have e2 : ((fvI hi + fvI lo) * ((2 ^ kb : Nat) : Int) - (sz (d1.V * d2.V) (d1.e + d2.e) : Int)) * ((2 ^ u : Nat) : Int) = ((fvI hi + fvI lo) * ((2 ^ u : Nat) : Int) - M * N) * ((2 ^ kb : Nat) : Int) := by
        rw [Int.sub_mul, Int.sub_mul, hd]
        congr 1
        ac_rfl
      have := congrArg Int.natAbs e2
      rw [Int.natAbs_mul, Int.natAbs_natCast, Int.natAbs_mul, Int.natAbs_natCast] at this
      exact this
    rw [Nat.mul_right_comm, e1, hab, Nat.mul_right_comm]
    refine Nat.mul_le_mul_right _ ?_
    rw [← p98]
    exact i4
end Go.Proofs.Ytfccpjjdemanbaa
