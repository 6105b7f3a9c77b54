/- RtMath, RtFit, RtPower, RtPow, RtLaw, RtQuick, RtRef, RtRCmp, RtAbove, RtSplit, RtProd, RtOf, RtInv, RtCmp, RtAlive, RtTwo, RtTo, GnSum, GnAdd, GnCmp, RtRuleM: joined. -/
import Derived.Test.YtmmeejofepmgaaaGreatDoorK4
import Derived.Test.YtmmeejofepmgaaaGreatDoorK2
import Derived.Test.YtmmeejofepmgaaaGreatDoorK1
import Derived.Deep.RegionHeld3
import Derived.BigQuiet
import Derived.Deep.Cut
/- Powers held against each other, and one divided by a power: numbers alone. -/
namespace Go.Proofs.YtmmeejofepmgaaaGreatDoor

theorem cmpZ_pow {x y t : Nat} (ht : t ≠ 0) : cmpZ (x ^ t) (y ^ t) = cmpZ x y := by
  rcases Nat.lt_trichotomy x y with h | h | h
  · rw [cmpZ_lt h, cmpZ_lt (Nat.pow_lt_pow_left h ht)]
  · rw [cmpZ_eq h, cmpZ_eq (by rw [h])]
  · rw [cmpZ_gt h, cmpZ_gt (Nat.pow_lt_pow_left h ht)]
theorem cmpZ_flip (x y : Nat) : cmpZ y x = - cmpZ x y := by
  rcases Nat.lt_trichotomy x y with h | h | h
  · rw [cmpZ_gt h, cmpZ_lt h]; rfl
  · rw [cmpZ_eq h, cmpZ_eq h.symm]; rfl
  · rw [cmpZ_lt h, cmpZ_gt h]
/-- Against a greater one. -/
theorem cmpZ_anti2 {x y z : Nat} (h : y ≤ z) : cmpZ x z ≤ cmpZ x y := by
  rcases Nat.lt_trichotomy x z with h1 | h1 | h1
  · rw [cmpZ_lt h1]
    rcases Nat.lt_trichotomy x y with h2 | h2 | h2
    · rw [cmpZ_lt h2]; decide
    · rw [cmpZ_eq h2]; decide
    · rw [cmpZ_gt h2]; decide
  · rw [cmpZ_eq h1]
    rcases Nat.lt_trichotomy x y with h2 | h2 | h2
    · omega
    · rw [cmpZ_eq h2]; decide
    · rw [cmpZ_gt h2]; decide
  · rw [cmpZ_gt h1, cmpZ_gt (by omega)]; decide

/-- How V 2^e is to U 2^f. -/
def cq (V : Nat) (e : Int) (U : Nat) (f : Int) : Int := cmpZ (V * 2 ^ (e - f).toNat) (U * 2 ^ (f - e).toNat)
theorem cq_at {V U : Nat} {e f l : Int} (h1 : l ≤ e) (h2 : l ≤ f) : cq V e U f = cmpZ (V * 2 ^ (e - l).toNat) (U * 2 ^ (f - l).toNat) := by
  unfold cq
  rcases Int.le_total e f with h | h
  · rw [show (e - f).toNat = 0 by omega, show (f - l).toNat = (f - e).toNat + (e - l).toNat by omega, Nat.pow_zero, Nat.mul_one, Nat.pow_add, ← Nat.mul_assoc]
    exact (cmpZ_times (Nat.two_pow_pos _)).symm
  · rw [show (f - e).toNat = 0 by omega, show (e - l).toNat = (e - f).toNat + (f - l).toNat by omega, Nat.pow_zero, Nat.mul_one, Nat.pow_add, ← Nat.mul_assoc]
    exact (cmpZ_times (Nat.two_pow_pos _)).symm
theorem cq_flip (V U : Nat) (e f : Int) : cq U f V e = - cq V e U f := by unfold cq; exact cmpZ_flip _ _
theorem cq_bd (V U : Nat) (e f : Int) : -1 ≤ cq V e U f ∧ cq V e U f ≤ 1 := by
  unfold cq
  rcases Nat.lt_trichotomy (V * 2 ^ (e - f).toNat) (U * 2 ^ (f - e).toNat) with h | h | h
  · rw [cmpZ_lt h]; decide
  · rw [cmpZ_eq h]; decide
  · rw [cmpZ_gt h]; decide
theorem cq_self (V : Nat) (e : Int) : cq V e V e = 0 := by unfold cq; exact cmpZ_eq rfl
/-- Both to a power. -/
theorem cq_pow {V U t : Nat} {e f : Int} (ht : t ≠ 0) : cq (V ^ t) (e * t) (U ^ t) (f * t) = cq V e U f := by
  unfold cq
  have k : ∀ x y : Int, (x * t - y * t).toNat = (x - y).toNat * t := fun x y => by
    rw [← Int.sub_mul]
    rcases Int.le_total 0 (x - y) with h | h
    · obtain ⟨n, hn⟩ := Int.eq_ofNat_of_zero_le h
      rw [hn, ← Int.natCast_mul, Int.toNat_natCast, Int.toNat_natCast]
    · rw [Int.toNat_of_nonpos h, Nat.zero_mul]
      exact Int.toNat_of_nonpos (Int.mul_nonpos_of_nonpos_of_nonneg h (Int.natCast_nonneg t))
  rw [k, k, Nat.pow_mul, Nat.pow_mul, ← Nat.mul_pow, ← Nat.mul_pow]
  exact cmpZ_pow ht
/-- Both times one. -/
theorem cq_mul {V U W : Nat} {e f g : Int} (hW : 0 < W) : cq (V * W) (e + g) (U * W) (f + g) = cq V e U f := by
  unfold cq
  rw [show e + g - (f + g) = e - f by omega, show f + g - (e + g) = f - e by omega, Nat.mul_right_comm, Nat.mul_right_comm U]
  exact cmpZ_times hW
/-- Against a greater one. -/
theorem cq_anti {V U T : Nat} {e f g : Int} (h : cq U f T g ≤ 0) : cq V e T g ≤ cq V e U f := by
  obtain ⟨l, l1, l2, l3⟩ : ∃ l : Int, l ≤ e ∧ l ≤ f ∧ l ≤ g := ⟨min e (min f g), by omega, by omega, by omega⟩
  rw [cq_at l1 l3, cq_at l1 l2]
  rw [cq_at l2 l3] at h
  refine cmpZ_anti2 ?_
  rcases Nat.lt_or_ge (T * 2 ^ (g - l).toNat) (U * 2 ^ (f - l).toNat) with h9 | h9
  · rw [cmpZ_gt h9] at h
    exact absurd h (by decide)
  · exact h9
/-- Powers keep the order. -/
theorem cq_pow_le {U T t : Nat} {f g : Int} (h : cq U f T g ≤ 0) : cq (U ^ t) (f * t) (T ^ t) (g * t) ≤ 0 := by
  by_cases ht : t = 0
  · subst ht
    unfold cq
    simp [cmpZ_eq]
  · rw [cq_pow ht]; exact h
/-- By worths. -/
theorem cq_dw {V U : Nat} {e f : Int} (h1 : -1073741824 ≤ e) (h2 : e ≤ 1073741824) (h3 : -1073741824 ≤ f) (h4 : f ≤ 1073741824) : cmpI (dw false V e) (dw false U f) = cq V e U f := by
  have k1 := sh_eq h1 h2
  have k2 := sh_eq h3 h4
  rw [cq_at (l := -2147483648) (by omega) (by omega)]
  have e1 : (e - -2147483648).toNat = sh e := by omega
  have e2 : (f - -2147483648).toNat = sh f := by omega
  rw [e1, e2]
  show cmpI (sz V e : Int) (sz U f : Int) = cmpZ (sz V e) (sz U f)
  rcases Nat.lt_trichotomy (sz V e) (sz U f) with h | h | h
  · rw [cmpZ_lt h, cmpI_lt (by omega)]
  · rw [cmpZ_eq h, cmpI_eq (by omega)]
  · rw [cmpZ_gt h, cmpI_gt (by omega)]

/-- How V 2^e to the power m is to U 2^f to the power k; m below 0: one divided by it. -/
def ratC (V : Nat) (e m : Int) (U : Nat) (f : Int) (k : Nat) : Int :=
  if 0 ≤ m then cq (V ^ m.toNat) (e * m) (U ^ k) (f * k) else cq 1 0 (V ^ (-m).toNat * U ^ k) (e * -m + f * k)
theorem ratC_pos {V : Nat} {e : Int} {m U : Nat} {f : Int} {k : Nat} : ratC V e (m : Int) U f k = cq (V ^ m) (e * m) (U ^ k) (f * k) := by
  unfold ratC
  rw [if_pos (Int.natCast_nonneg m), Int.toNat_natCast]
theorem ratC_neg {V : Nat} {e : Int} {m U : Nat} {f : Int} {k : Nat} (hm : m ≠ 0) : ratC V e (-(m : Int)) U f k = cq 1 0 (V ^ m * U ^ k) (e * m + f * k) := by
  unfold ratC
  rw [if_neg (by omega), Int.neg_neg, Int.toNat_natCast]
/-- Both exponents times one number. -/
theorem ratC_times {V : Nat} {e m : Int} {U : Nat} {f : Int} {k t : Nat} (ht : t ≠ 0) : ratC V e (m * t) U f (k * t) = ratC V e m U f k := by
  rcases Int.le_total 0 m with h | h
  · obtain ⟨n, rfl⟩ := Int.eq_ofNat_of_zero_le h
    rw [← Int.natCast_mul, ratC_pos, ratC_pos, Nat.pow_mul, Nat.pow_mul, Int.natCast_mul, Int.natCast_mul, ← Int.mul_assoc, ← Int.mul_assoc]
    exact cq_pow ht
  · by_cases h0 : m = 0
    · subst h0
      rw [Int.zero_mul, show (0 : Int) = ((0 : Nat) : Int) from rfl, ratC_pos, ratC_pos, Nat.pow_mul, Int.natCast_mul, ← Int.mul_assoc]
      have := cq_pow (V := 1) (e := 0) (U := U ^ k) (f := f * k) ht
      rw [Nat.one_pow, Int.zero_mul] at this
      simpa using this
    · obtain ⟨n, hn⟩ : ∃ n : Nat, m = -(n : Int) := ⟨(-m).toNat, by omega⟩
      subst hn
      have n0 : n ≠ 0 := fun h9 => h0 (by rw [h9]; rfl)
      rw [Int.neg_mul, ← Int.natCast_mul, ratC_neg (Nat.mul_ne_zero n0 ht), ratC_neg n0, Nat.pow_mul, Nat.pow_mul, ← Nat.mul_pow, Int.natCast_mul, Int.natCast_mul, ← Int.mul_assoc, ← Int.mul_assoc, ← Int.add_mul]
      have := cq_pow (V := 1) (e := 0) (U := V ^ n * U ^ k) (f := e * n + f * k) ht
      rw [Nat.one_pow, Int.zero_mul] at this
      exact this
/-- Of a greater b the answer isn't greater. -/
theorem ratC_anti {V : Nat} {e m : Int} {U T : Nat} {f g : Int} {k : Nat} (hV : 0 < V) (h : cq U f T g ≤ 0) : ratC V e m T g k ≤ ratC V e m U f k := by
  have hk := cq_pow_le (t := k) h
  unfold ratC
  split
  · exact cq_anti hk
  · refine cq_anti ?_
    rw [Nat.mul_comm (V ^ _), Nat.mul_comm (V ^ _), Int.add_comm (e * -m), Int.add_comm (e * -m), cq_mul (Nat.pow_pos hV)]
    exact hk
/-- A power is held for itself. -/
theorem ratC_self (V : Nat) (e : Int) (k : Nat) : ratC V e (k : Int) (V ^ k) (e * k) 1 = 0 := by
  rw [ratC_pos, Nat.pow_one, show e * (k : Int) * ((1 : Nat) : Int) = e * k by simp]
  exact cq_self _ _
/-- Turned about. -/
theorem ratC_flip (V U : Nat) (e f : Int) (m k : Nat) : ratC U f (k : Int) V e m = - ratC V e (m : Int) U f k := by
  rw [ratC_pos, ratC_pos]
  exact cq_flip _ _ _ _
theorem ratC_both {V U : Nat} {e f : Int} {m k : Nat} (hm : m ≠ 0) (hk : k ≠ 0) : ratC V e (-(m : Int)) U f k = ratC U f (-(k : Int)) V e m := by
  rw [ratC_neg hm, ratC_neg hk, Nat.mul_comm, Int.add_comm]
/-- Against 1. -/
theorem ratC_one {V m : Nat} {e : Int} (hm : m ≠ 0) : ratC V e (m : Int) 1 0 1 = cq V e 1 0 := by
  rw [ratC_pos]
  have := cq_pow (V := V) (e := e) (U := 1) (f := 0) hm
  rw [Nat.one_pow, Int.zero_mul] at this
  simpa using this
theorem ratC_one_neg {V m : Nat} {e : Int} (hm : m ≠ 0) : ratC V e (-(m : Int)) 1 0 1 = - cq V e 1 0 := by
  rw [ratC_neg hm, Nat.one_pow, Nat.mul_one, Int.zero_mul, Int.add_zero]
  have := cq_pow (V := V) (e := e) (U := 1) (f := 0) hm
  rw [Nat.one_pow, Int.zero_mul] at this
  rw [← this]
  exact cq_flip _ _ _ _

/-- Powers of odd numbers are odd. -/
theorem odd_pow {V : Nat} (h : V % 2 = 1) (m : Nat) : V ^ m % 2 = 1 := by
  induction m with
  | zero => rfl
  | succ m ih => rw [Nat.pow_succ, Nat.mul_mod, ih, h]
theorem pow_bits (V m : Nat) : V ^ m ≤ 2 ^ (blen V * m) := by
  rw [Nat.pow_mul]
  exact Nat.pow_le_pow_left (Nat.le_of_lt (lt_blen V)) m
theorem low_odd {V : Nat} (h : V % 2 = 1) : low V = 0 := low_eq (m := V / 2) (by rw [Nat.pow_zero, Nat.one_mul]; omega)
/-- What a document's number is: odd, or 0. -/
theorem nO_is (g : Bool) (V : Nat) (e : Int) : (nO g V e).V = 0 ∨ (nO g V e).V % 2 = 1 := by
  by_cases h : V = 0
  · subst h; exact Or.inl rfl
  · refine Or.inr ?_
    rw [nO_pos _ _ h]
    obtain ⟨q, hq⟩ := low_spec (Nat.pos_of_ne_zero h)
    have h2 : V / 2 ^ low V = 2 * q + 1 := by
      have := Nat.mul_div_cancel_left (2 * q + 1) (Nat.two_pow_pos (low V))
      rw [← hq] at this
      exact this
    show V / 2 ^ low V % 2 = 1
    rw [h2]; omega
end Go.Proofs.YtmmeejofepmgaaaGreatDoor
/- The walks of ratio.size, within, short and above. -/
namespace Go.Proofs.YtmmeejofepmgaaaGreatDoor
open Go.RowKit

theorem rsize_l (n : Int) (a : Nat) (w : World) (h1 : -9223372036854775808 ≤ n) (h2 : n ≤ 9223372036854775807) (ha : Hid (n.natAbs = a)) :
    Calls Tryz.prog 81 #[.int .i64 n] w fun e w' => e = .returned (.int .u64 (a : Int)) ∧ w = w' := by
  have ha' := ha.out
  clear ha
  by_cases hn : n < 0
  · have b1 : decide (n < 0) = true := decide_eq_true hn
    obtain ⟨q, hq⟩ : ∃ q : Nat, -(n + 1) = (q : Int) := ⟨(-(n + 1)).toNat, by omega⟩
    have hq2 : q < 9223372036854775808 := by omega
    have e3 : (q : Int) + 1 = (a : Int) := by omega
    have ha3 : a < 18446744073709551616 := by omega
    clear ha'
    go_enter Tryz.func81, Tryz.ntmps81
    go_wp2
    go_ret
    exact ⟨rfl, rfl⟩
  · have b1 : decide (n < 0) = false := decide_eq_false hn
    obtain rfl : n = (a : Int) := by omega
    clear ha' hn
    go_enter Tryz.func81, Tryz.ntmps81
    go_wp2
    go_ret
    exact ⟨rfl, rfl⟩

theorem within_l (v : Bool) (n t : Nat) (w : World) (ht : t < 18446744073709551616) (hv : Hid (decide (n * t ≤ 60000) = v)) :
    Calls Tryz.prog 82 #[.int .u64 (n : Int), .int .u64 (t : Int)] w fun e w' => e = .returned (.bool v) ∧ w = w' := by
  have hv' := hv.out
  clear hv
  by_cases h0 : t = 0
  · subst h0
    obtain rfl : v = true := by rw [← hv', Nat.mul_zero]; rfl
    clear hv'
    go_enter Tryz.func82, Tryz.ntmps82
    go_wp2
    go_ret
    exact ⟨rfl, rfl⟩
  · have b0 : ((t : Int) == 0) = false := beq_eq_false_iff_ne.2 (by omega)
    obtain ⟨q, hq⟩ : ∃ q, 60000 / t = q := ⟨_, rfl⟩
    have e1 : (60000 : Int) / (t : Int) = (q : Int) := by rw [← hq]; exact (Int.natCast_ediv 60000 t).symm
    have hq2 : q ≤ 60000 := by rw [← hq]; exact Nat.div_le_self _ _
    have ht0 : (t : Int) ≠ 0 := by omega
    have b1 : Hid (decide (n ≤ q) = v) := by
      show _ = _
      rw [← hv']
      refine decide_eq_decide.2 ?_
      rw [← hq]
      exact Nat.le_div_iff_mul_le (by omega)
    clear hv' hq
    go_enter Tryz.func82, Tryz.ntmps82
    go_wp2
    go_ret
    exact ⟨congrArg (fun v => Ending.returned (.bool v)) b1.out, rfl⟩

/-- A power is short enough. -/
def fitB (V : Nat) (e m : Int) : Bool := decide (blen V * m.natAbs ≤ 60000) && decide (e.natAbs * m.natAbs ≤ 60000)

set_option maxHeartbeats 1000000 in
theorem short_l (v : Bool) (g : Bool) (A : Option Addr) (n c : Nat) (xs : List Nat) (e0 m : Int) (w : World) (hA : Lim w A n c xs) (hn : n ≤ 4294967296) (he1 : -1073741824 ≤ e0) (he2 : e0 ≤ 1073741824) (h1 : -9223372036854775808 ≤ m) (h2 : m ≤ 9223372036854775807) (hv : Hid (fitB (val xs) e0 m = v)) :
    Calls Tryz.prog 73 #[.agg #[.bool g, .slice A n c, .int .i64 e0], .int .i64 m] w fun e w' => e = .returned (.bool v) ∧ Below w.heap.size w w' := by
  obtain ⟨b, hb⟩ : ∃ b, blen (val xs) = b := ⟨_, rfl⟩
  obtain ⟨t, ht⟩ : ∃ t, m.natAbs = t := ⟨_, rfl⟩
  obtain ⟨z, hz⟩ : ∃ z, e0.natAbs = z := ⟨_, rfl⟩
  have hv' := hv.out
  rw [fitB, hb, ht, hz] at hv'
  have hbl := hA.blen_le
  rw [hb] at hbl
  have hb9 : b < 9223372036854775808 := by omega
  have hbb : (b : Int).natAbs = b := Int.natAbs_natCast b
  have ht9 : t < 18446744073709551616 := by omega
  have hz9 : z < 18446744073709551616 := by omega
  have a1 := below1 w (.cells #[.bool g, .slice A n c, .int .i64 e0] 32)
  have HS := Lib.hid a1
  have Hb := Lib.hid (bits_l b A n c xs _ (hA.below a1) (by omega) hb)
  have H1 : Hid (∀ u, Calls Tryz.prog 81 #[.int .i64 m] u fun e w' => e = .returned (.int .u64 (t : Int)) ∧ u = w') := fun u => rsize_l m t u h1 h2 ht
  have H2 : Hid (∀ u, Calls Tryz.prog 81 #[.int .i64 (b : Int)] u fun e w' => e = .returned (.int .u64 (b : Int)) ∧ u = w') := fun u => rsize_l b b u (by omega) (by omega) hbb
  have H3 : Hid (∀ u, Calls Tryz.prog 81 #[.int .i64 e0] u fun e w' => e = .returned (.int .u64 (z : Int)) ∧ u = w') := fun u => rsize_l e0 z u (by omega) (by omega) hz
  obtain ⟨v1, hv1⟩ : ∃ v1, decide (b * t ≤ 60000) = v1 := ⟨_, rfl⟩
  obtain ⟨v2, hv2⟩ : ∃ v2, decide (z * t ≤ 60000) = v2 := ⟨_, rfl⟩
  have H4 : Hid (∀ u, Calls Tryz.prog 82 #[.int .u64 (b : Int), .int .u64 (t : Int)] u fun e w' => e = .returned (.bool v1) ∧ u = w') := fun u => within_l v1 b t u (by omega) hv1
  have H5 : Hid (∀ u, Calls Tryz.prog 82 #[.int .u64 (z : Int), .int .u64 (t : Int)] u fun e w' => e = .returned (.bool v2) ∧ u = w') := fun u => within_l v2 z t u (by omega) hv2
  rw [hv1, hv2] at hv'
  clear hv hv1 hv2 hA hbl hbb a1 hb ht hz he1 he2 h1 h2
  cases v1 with
  | false =>
    obtain rfl : false = v := hv'
    go_enter Tryz.func73, Tryz.ntmps73
    go_wp2_with fail
    refine (H1.out _).mono ?_
    rintro e w' ⟨rfl, rfl⟩
    go_wp2_with fail
    refine Hb.out.mono ?_
    rintro e w' ⟨rfl, rfl⟩
    go_wp2_with fail
    refine (H2.out _).mono ?_
    rintro e w' ⟨rfl, rfl⟩
    go_wp2_with fail
    refine (H4.out _).mono ?_
    rintro e w' ⟨rfl, rfl⟩
    go_wp2
    go_ret
    exact ⟨rfl, HS.out⟩
  | true =>
    obtain rfl : v2 = v := hv'
    go_enter Tryz.func73, Tryz.ntmps73
    go_wp2_with fail
    refine (H1.out _).mono ?_
    rintro e w' ⟨rfl, rfl⟩
    go_wp2_with fail
    refine Hb.out.mono ?_
    rintro e w' ⟨rfl, rfl⟩
    go_wp2_with fail
    refine (H2.out _).mono ?_
    rintro e w' ⟨rfl, rfl⟩
    go_wp2_with fail
    refine (H4.out _).mono ?_
    rintro e w' ⟨rfl, rfl⟩
    go_wp2_with fail
    refine (H3.out _).mono ?_
    rintro e w' ⟨rfl, rfl⟩
    go_wp2_with fail
    refine (H5.out _).mono ?_
    rintro e w' ⟨rfl, rfl⟩
    go_wp2
    go_ret
    exact ⟨rfl, HS.out⟩

/-- What above tells of what Bare tells. -/
def IsAb (o : Option Dy) (g : Bool) (V : Nat) (E : Int) (b : Bool) : Prop :=
  match o with
  | none => b = false
  | some d => b = decide (0 < sgD d.neg d.V) ∧ g = d.neg ∧ V = d.V ∧ E = d.e
def Above (w : World) (o : Option Dy) (L : Nat) (e : Ending) (w' : World) : Prop :=
  ∃ g A m c zs E b, e = .returned (.tuple #[.agg #[.bool g, .slice A m c, .int .i64 E], .bool b]) ∧ m ≤ L ∧ Lim w' A m c zs ∧ Bare zs ∧ IsAb o g (val zs) E b ∧ Below w.heap.size w w'

/-- While above is walked: the result's block, the bare one's. -/
def HoldA (w : World) (gr : Bool) (Ar : Option Addr) (nr cr : Nat) (er : Int) (p : Nat) (g : Bool) (A : Option Addr) (n c : Nat) (xs : List Nat) (e0 : Int) (u : World) : Prop :=
  Bd u (w.heap.size + 1) 32 gr Ar nr cr er ∧ Bd u p 32 g A n c e0 ∧ Lim u A n c xs ∧ w.heap.size + 1 < p ∧ Below w.heap.size w u
section
variable {w : World} {gr : Bool} {Ar : Option Addr} {nr cr : Nat} {er : Int} {p : Nat} {g : Bool} {A : Option Addr} {n c : Nat} {xs : List Nat} {e0 : Int} {u u' : World}
theorem HoldA.below (h : HoldA w gr Ar nr cr er p g A n c xs e0 u) (hb : Below u.heap.size u u') : HoldA w gr Ar nr cr er p g A n c xs e0 u' :=
  ⟨h.1.below hb, h.2.1.below hb, h.2.2.1.below hb, h.2.2.2.1, h.2.2.2.2.trans (hb.mono h.2.2.2.2.size)⟩
theorem HoldA.cells (h : HoldA w gr Ar nr cr er p g A n c xs e0 u) : u.cell? ⟨p, 0, none⟩ = some (.bool g) ∧ u.cell? ⟨p, 1, none⟩ = some (.slice A n c) ∧ u.cell? ⟨p, 2, none⟩ = some (.int .i64 e0) := ⟨h.2.1.c0, h.2.1.c1, h.2.1.c2⟩
theorem HoldA.put (h : HoldA w gr Ar nr cr er p g A n c xs e0 u) (g' : Bool) (A' : Option Addr) (n' c' : Nat) (e' : Int) : HoldA w g' A' n' c' e' p g A n c xs e0 (World.put u (w.heap.size + 1) g' A' n' c' e') :=
  ⟨h.1.put _ _ _ _ _, h.2.1.other (by have := h.2.2.2.1; omega) _ _ _ _ _, h.1.lim h.2.2.1 _ _ _ _ _, h.2.2.2.1, below_put h.2.2.2.2 (by omega) _ _ _ _ _⟩
theorem HoldA.r0 (h : HoldA w gr Ar nr cr er p g A n c xs e0 u) : u.cell? ⟨w.heap.size + 1, 0, none⟩ = some (.bool gr) := h.1.c0
theorem HoldA.r1 (h : HoldA w gr Ar nr cr er p g A n c xs e0 u) : u.cell? ⟨w.heap.size + 1, 1, none⟩ = some (.slice Ar nr cr) := h.1.c1
theorem HoldA.r2 (h : HoldA w gr Ar nr cr er p g A n c xs e0 u) : u.cell? ⟨w.heap.size + 1, 2, none⟩ = some (.int .i64 er) := h.1.c2
theorem HoldA.rf (h : HoldA w gr Ar nr cr er p g A n c xs e0 u) (o : Nat) : u.frozen? ⟨w.heap.size + 1, o, none⟩ = false := h.1.fz o
theorem HoldA.lim (h : HoldA w gr Ar nr cr er p g A n c xs e0 u) : Lim u A n c xs := h.2.2.1
theorem HoldA.old (h : HoldA w gr Ar nr cr er p g A n c xs e0 u) : Below w.heap.size w u := h.2.2.2.2
end
end Go.Proofs.YtmmeejofepmgaaaGreatDoor
/- The walk of ratio.power. -/
namespace Go.Proofs.YtmmeejofepmgaaaGreatDoor
open Go.RowKit

/-- A power of a number: odd, or 0. -/
def powD (d : Dy) (m : Nat) : Dy := ⟨d.neg && decide (m % 2 = 1), d.V ^ m, d.e * m⟩
theorem powD_odd {d : Dy} (h : Odd d) (m : Nat) : Odd (powD d m) := by
  rcases h with ⟨k, hk⟩ | h
  · refine Or.inl ⟨d.V ^ m / 2, ?_⟩
    have h2 := odd_pow (V := d.V) (by omega) m
    show d.V ^ m = _
    omega
  · subst h
    rcases Nat.eq_zero_or_pos m with h0 | h0
    · subst h0; exact Or.inl ⟨0, rfl⟩
    · refine Or.inr ?_
      unfold powD
      rw [Nat.zero_pow h0]
      simp
theorem mk_odd_self {d : Dy} (h : Odd d) (h1 : -1073741824 ≤ d.e) (h2 : d.e ≤ 1073741824) : mk d.neg d.V d.e = some d := by
  rw [mk_nO, nO_self h (by omega) (by omega)]
  unfold toldD
  rcases h with ⟨k, hk⟩ | h
  · rw [if_neg (by omega), if_neg (by omega)]
  · subst h; rfl
theorem mk_odd_of {g : Bool} {V : Nat} {e : Int} {d : Dy} (h : mk g V e = some d) : Odd d ∧ -1073741824 ≤ d.e ∧ d.e ≤ 1073741824 := by
  have h1 := (mk_fine h).1
  refine ⟨?_, h1.1, h1.2.1⟩
  have h2 := nO_odd g V e
  rw [mk_nO] at h
  obtain ⟨_, h4, h5⟩ := toldD_fine h
  rcases h2 with ⟨k, hk⟩ | h2
  · exact Or.inl ⟨k, by rw [h4]; exact hk⟩
  · rw [h2] at h
    exact Or.inr (Option.some.inj h).symm
theorem abs_mul_le {e : Int} {m L : Nat} (h : e.natAbs * m ≤ L) : -(L : Int) ≤ e * m ∧ e * m ≤ L := by
  have h1 : (e * (m : Int)).natAbs ≤ L := by rw [Int.natAbs_mul, Int.natAbs_natCast]; exact h
  omega
theorem blen_pow_fit {V m : Nat} (h : blen V * m ≤ 60000) : blen (V ^ m) ≤ 60001 := by
  rcases Nat.eq_zero_or_pos m with h0 | h0
  · subst h0; rw [Nat.pow_zero]; decide
  · have := blen_pow_le V m h0
    rw [Nat.mul_comm] at this
    omega

set_option maxHeartbeats 1000000 in
theorem power_any (d : Dy) (A : Option Addr) (n c : Nat) (zs : List Nat) (m : Nat) (w : World) (hA : Lim w A n c zs) (hn : n ≤ 1000000) (hT : Tab w) (hz : val zs = d.V) (hodd : Odd d) (hm : m ≤ 9223372036854775807) (hf1 : blen d.V * m ≤ 60000) (hf2 : d.e.natAbs * m ≤ 60000) :
    Calls Tryz.prog 74 #[.agg #[.bool d.neg, .slice A n c, .int .i64 d.e], .int .i64 (m : Int)] w (Tells1 w (powD d m).neg (powD d m).V 1024 (powD d m).e) := by
  have a3 : Below w.heap.size w ((w.alloc (.cells #[.bool d.neg, .slice A n c, .int .i64 d.e] 32)).alloc (.cells #[.bool false, .slice none 0 0, .int .i64 0] 32)) := ((Below.refl _ _).alloc (Nat.le_refl _) _).alloc (by simp) _
  have hbl := blen_pow_fit hf1
  have H1 := pow_ok A n c zs m _ (hA.below a3) hn hm (by rw [hz]; omega)
  rw [hz] at H1
  replace H1 := Lib.hid H1
  have he := abs_mul_le hf2
  have hmk := mk_odd_self (powD_odd hodd m) (by show -1073741824 ≤ d.e * m; omega) (by show d.e * m ≤ 1073741824; omega)
  obtain ⟨o, ho⟩ : ∃ o, powD d m = o := ⟨_, rfl⟩
  rw [ho] at hmk ⊢
  have ho1 : (d.neg && decide (m % 2 = 1)) = o.neg := by rw [← ho]; rfl
  have ho2 : d.V ^ m = o.V := by rw [← ho]; rfl
  have ho3 : d.e * m = o.e := by rw [← ho]; rfl
  rw [ho2] at H1
  rw [ho3] at he
  have b1 := (Bd.new w 32 d.neg A n c d.e).alloc (.cells #[.bool false, .slice none 0 0, .int .i64 0] 32)
  have b2 := Bd.new (w.alloc (.cells #[.bool d.neg, .slice A n c, .int .i64 d.e] 32)) 32 false none 0 0 0
  rw [World.size_alloc] at b2
  have Hb1 := Lib.hid b1
  have Hb2 := Lib.hid b2
  have HT := Lib.hid (hT.below a3)
  have HS := Lib.hid a3
  have Hmk := Lib.hid hmk
  obtain ⟨dg, dV, dE⟩ := d
  simp only at ho1 ho2 ho3 H1 Hb1 Hb2 HT HS
  clear a3 hA hT b1 b2 hz hodd hf1 hf2 hbl ho ho2 hmk
  go_enter Tryz.func74, Tryz.ntmps74
  go_wp2_with fail
  refine H1.out.mono ?_
  rintro e w1 ⟨A1, m1, c1, us, rfl, hm1, hl1, hb1, hv1, hB1⟩
  have k1 := Hb1.out.below hB1
  replace Hb2 := Lib.hid (Hb2.out.below hB1)
  have s1 := HS.out.trans (hB1.mono HS.out.size)
  replace HS := Lib.hid s1
  have HM := make_any o.neg A1 m1 c1 us o.e w1 hl1 (by omega) (HT.out.below hB1)
  rw [hv1, Hmk.out] at HM
  replace HM := Lib.hid HM
  have x0 := k1.c0
  have x2 := k1.c2
  clear k1 hB1 hl1 hb1 hv1 H1 Hb1 s1 HT Hmk
  cases dg with
  | false =>
    obtain ⟨og, oV, oe⟩ := o
    simp only at ho1 ho3 he HM
    obtain rfl : false = og := ho1
    go_wp2_with fail
    refine HM.out.mono ?_
    rintro e w2 ⟨g2, A2, m2, c2, ts, E2, r2, rfl, hm2, hl2, hb2, his2, hB2⟩
    obtain ⟨rfl, rfl, hv2, rfl⟩ := his2
    have k2 := (Hb2.out.below hB2).alloc (.cells #[.bool false, .slice A2 m2 c2, .int .i64 E2] 32)
    have s2 := HS.out.trans (hB2.mono HS.out.size)
    have Hfin : Hid (Tells1 w false oV 1024 E2 (.returned (.agg #[.bool false, .slice A2 m2 c2, .int .i64 E2])) (World.put (w2.alloc (.cells #[.bool false, .slice A2 m2 c2, .int .i64 E2] 32)) (w.heap.size + 1) false A2 m2 c2 E2)) :=
      ⟨A2, m2, c2, ts, rfl, by omega, k2.lim (hl2.alloc _) _ _ _ _ _, hb2, hv2, below_put (s2.alloc s2.size _) (Nat.le_succ _) _ _ _ _ _⟩
    have y0 := k2.c0
    have y1 := k2.c1
    have y2 := k2.c2
    have yf := k2.fz
    clear k2 s2 hB2 hl2 hb2 hv2 HM Hb2 HS x0 x2 he ho3
    go_wp2
    exact bodyPost_ret (v := .agg #[.bool false, .slice A2 m2 c2, .int .i64 E2]) (by simp [results, Tryz.results74, go_sem, y0, y1, y2]) rfl Hfin.out
  | true =>
    obtain ⟨og, oV, oe⟩ := o
    simp only at ho1 ho3 he HM
    by_cases hr : m % 2 = 1
    · have e9 : (m : Int) % 2 = 1 := by omega
      obtain rfl : true = og := by rw [← ho1]; simp [hr]
      go_wp2_with fail
      refine HM.out.mono ?_
      rintro e w2 ⟨g2, A2, m2, c2, ts, E2, r2, rfl, hm2, hl2, hb2, his2, hB2⟩
      obtain ⟨rfl, rfl, hv2, rfl⟩ := his2
      have k2 := (Hb2.out.below hB2).alloc (.cells #[.bool true, .slice A2 m2 c2, .int .i64 E2] 32)
      have s2 := HS.out.trans (hB2.mono HS.out.size)
      have Hfin : Hid (Tells1 w true oV 1024 E2 (.returned (.agg #[.bool true, .slice A2 m2 c2, .int .i64 E2])) (World.put (w2.alloc (.cells #[.bool true, .slice A2 m2 c2, .int .i64 E2] 32)) (w.heap.size + 1) true A2 m2 c2 E2)) :=
        ⟨A2, m2, c2, ts, rfl, by omega, k2.lim (hl2.alloc _) _ _ _ _ _, hb2, hv2, below_put (s2.alloc s2.size _) (Nat.le_succ _) _ _ _ _ _⟩
      have y0 := k2.c0
      have y1 := k2.c1
      have y2 := k2.c2
      have yf := k2.fz
      clear k2 s2 hB2 hl2 hb2 hv2 HM Hb2 HS x0 x2 he ho3
      go_wp2
      exact bodyPost_ret (v := .agg #[.bool true, .slice A2 m2 c2, .int .i64 E2]) (by simp [results, Tryz.results74, go_sem, y0, y1, y2]) rfl Hfin.out
    · have e9 : (m : Int) % 2 = 0 := by omega
      obtain rfl : false = og := by rw [← ho1]; simp [hr]
      go_wp2_with fail
      refine HM.out.mono ?_
      rintro e w2 ⟨g2, A2, m2, c2, ts, E2, r2, rfl, hm2, hl2, hb2, his2, hB2⟩
      obtain ⟨rfl, rfl, hv2, rfl⟩ := his2
      have k2 := (Hb2.out.below hB2).alloc (.cells #[.bool false, .slice A2 m2 c2, .int .i64 E2] 32)
      have s2 := HS.out.trans (hB2.mono HS.out.size)
      have Hfin : Hid (Tells1 w false oV 1024 E2 (.returned (.agg #[.bool false, .slice A2 m2 c2, .int .i64 E2])) (World.put (w2.alloc (.cells #[.bool false, .slice A2 m2 c2, .int .i64 E2] 32)) (w.heap.size + 1) false A2 m2 c2 E2)) :=
        ⟨A2, m2, c2, ts, rfl, by omega, k2.lim (hl2.alloc _) _ _ _ _ _, hb2, hv2, below_put (s2.alloc s2.size _) (Nat.le_succ _) _ _ _ _ _⟩
      have y0 := k2.c0
      have y1 := k2.c1
      have y2 := k2.c2
      have yf := k2.fz
      clear k2 s2 hB2 hl2 hb2 hv2 HM Hb2 HS x0 x2 he ho3
      go_wp2
      exact bodyPost_ret (v := .agg #[.bool false, .slice A2 m2 c2, .int .i64 E2]) (by simp [results, Tryz.results74, go_sem, y0, y1, y2]) rfl Hfin.out
end Go.Proofs.YtmmeejofepmgaaaGreatDoor
/- The walks of ratio.Fits and ratio.Pow. -/
namespace Go.Proofs.YtmmeejofepmgaaaGreatDoor
open Go.RowKit

def fitO (o : Option Dy) (m : Int) : Bool :=
  match o with
  | none => false
  | some d => fitB d.V d.e m
/-- What Pow tells: a dyad and an error. -/
def powR (o : Option Dy) (m : Int) : Dy × Int :=
  match o with
  | none => (⟨false, 0, 0⟩, 1)
  | some d => if m < 0 then (⟨false, 0, 0⟩, 1) else if fitB d.V d.e m then (powD d m.toNat, 0) else (⟨false, 0, 0⟩, 2)
def ToldR (w : World) (p : Dy) (r : Int) (e : Ending) (w' : World) : Prop :=
  ∃ A m c zs, e = .returned (.tuple #[.agg #[.bool p.neg, .slice A m c, .int .i64 p.e], .int .i64 r]) ∧ m ≤ 1024 ∧ Lim w' A m c zs ∧ Bare zs ∧ val zs = p.V ∧ Below w.heap.size w w'


set_option maxHeartbeats 2000000 in
theorem rpow_l (p : Dy) (r : Int) (g : Bool) (A : Option Addr) (n c : Nat) (xs : List Nat) (e0 m : Int) (w : World) (hA : Lim w A n c xs) (hn : n ≤ 1000000) (hT : Tab w) (h1 : -9223372036854775808 ≤ m) (h2 : m ≤ 9223372036854775807) (hv : Hid (powR (mk g (val xs) e0) m = (p, r))) :
    Calls Tryz.prog 61 #[.agg #[.bool g, .slice A n c, .int .i64 e0], .int .i64 m] w (ToldR w p r) := by
  have a3 : Below w.heap.size w ((w.alloc (.cells #[.bool g, .slice A n c, .int .i64 e0] 32)).alloc (.cells #[.bool false, .slice none 0 0, .int .i64 0] 32)) := ((Below.refl _ _).alloc (Nat.le_refl _) _).alloc (by simp) _
  have H1 := dbare_any g A n c xs e0 _ (hA.below a3) (by omega) (hT.below a3)
  obtain ⟨o, ho⟩ : ∃ o, mk g (val xs) e0 = o := ⟨_, rfl⟩
  have hv' := hv.out
  rw [ho] at H1 hv'
  replace H1 := Lib.hid H1
  have b1 := (Bd.new w 32 g A n c e0).alloc (.cells #[.bool false, .slice none 0 0, .int .i64 0] 32)
  have b2 := Bd.new (w.alloc (.cells #[.bool g, .slice A n c, .int .i64 e0] 32)) 32 false none 0 0 0
  rw [World.size_alloc] at b2
  have Hb1 := Lib.hid b1
  have Hb2 := Lib.hid b2
  have HS := Lib.hid a3
  have HO := Lib.hid ho
  have HT := Lib.hid (hT.below a3)
  clear a3 hA hT hv ho b1 b2
  go_enter Tryz.func61, Tryz.ntmps61
  go_wp2_with fail
  refine H1.out.mono ?_
  rintro e w1 ⟨g1, A1, m1, c1, zs, E1, r1, rfl, hm1, hl1, hb1, his1, hB1⟩
  have k1 := Hb1.out.below hB1
  have k2 := (Hb2.out.below hB1).other (b' := w.heap.size) (by omega) g1 A1 m1 c1 E1
  have x0 := k1.c0
  have x1 := k1.c1
  have x2 := k1.c2
  have xf := k1.fz
  have HT1 := Lib.hid (k1.tab (HT.out.below hB1) g1 A1 m1 c1 E1)
  have Hp := Lib.hid (k1.put g1 A1 m1 c1 E1)
  have HL := Lib.hid (k1.lim hl1 g1 A1 m1 c1 E1)
  have HS1 := Lib.hid (below_put (HS.out.trans (hB1.mono HS.out.size)) (Nat.le_refl _) g1 A1 m1 c1 E1)
  replace Hb2 := Lib.hid k2
  clear k1 k2 hl1 hb1 hB1 H1 Hb1 HS HT
  have z0 := Hb2.out.c0
  have z1 := Hb2.out.c1
  have z2 := Hb2.out.c2
  have zf := Hb2.out.fz
  cases o with
  | none =>
    obtain ⟨rfl, rfl, hz, rfl⟩ := his1
    obtain ⟨rfl, rfl⟩ : p = ⟨false, 0, 0⟩ ∧ r = 1 := by injection hv' with a b; exact ⟨a.symm, b.symm⟩
    have Hfin : Hid (ToldR w ⟨false, 0, 0⟩ 1 (.returned (.tuple #[.agg #[.bool false, .slice none 0 0, .int .i64 0], .int .i64 1])) (World.put (World.put w1 w.heap.size false A1 m1 c1 0) (w.heap.size + 1) false none 0 0 0)) :=
      ⟨none, 0, 0, [], rfl, by omega, Lim.nil _ _ _, rfl, rfl, below_put HS1.out (Nat.le_succ _) _ _ _ _ _⟩
    clear Hp HL hz HO Hb2 HS1 HT1
    go_wp2
    exact bodyPost_ret (v := .tuple #[.agg #[.bool false, .slice none 0 0, .int .i64 0], .int .i64 1]) (by simp [results, Tryz.results61, go_sem, z0, z1, z2]) rfl Hfin.out
  | some d =>
    obtain ⟨rfl, h3, hz, h4⟩ := his1
    obtain ⟨od, o1, o2⟩ := mk_odd_of HO.out
    unfold powR at hv'
    simp only at hv'
    by_cases hneg : m < 0
    · rw [if_pos hneg] at hv'
      obtain ⟨rfl, rfl⟩ : p = ⟨false, 0, 0⟩ ∧ r = 1 := by injection hv' with a b; exact ⟨a.symm, b.symm⟩
      have b3 : decide (m < 0) = true := decide_eq_true hneg
      have Hfin : Hid (ToldR w ⟨false, 0, 0⟩ 1 (.returned (.tuple #[.agg #[.bool false, .slice none 0 0, .int .i64 0], .int .i64 1])) (World.put (World.put w1 w.heap.size g1 A1 m1 c1 E1) (w.heap.size + 1) false none 0 0 0)) :=
        ⟨none, 0, 0, [], rfl, by omega, Lim.nil _ _ _, rfl, rfl, below_put HS1.out (Nat.le_succ _) _ _ _ _ _⟩
      clear Hp HL hz HO Hb2 HS1 HT1 h3 h4 od o1 o2 hv' hneg
      go_wp2
      exact bodyPost_ret (v := .tuple #[.agg #[.bool false, .slice none 0 0, .int .i64 0], .int .i64 1]) (by simp [results, Tryz.results61, go_sem, z0, z1, z2]) rfl Hfin.out
    · rw [if_neg hneg] at hv'
      have b3 : decide (m < 0) = false := decide_eq_false hneg
      obtain ⟨mm, rfl⟩ : ∃ mm : Nat, m = (mm : Int) := ⟨m.toNat, by omega⟩
      rw [Int.toNat_natCast] at hv'
      obtain ⟨F, hF⟩ : ∃ F, fitB d.V d.e (mm : Int) = F := ⟨_, rfl⟩
      have H2 := Lib.hid (short_l F g1 A1 m1 c1 zs E1 mm _ HL.out (by omega) (by rw [h4]; exact o1) (by rw [h4]; exact o2) h1 h2 (by show _ = _; rw [hz, h4]; exact hF))
      have y0 := Hp.out.c0
      have y1 := Hp.out.c1
      have y2 := Hp.out.c2
      rw [hF] at hv'
      have H34 : Hid (g1 = d.neg ∧ val zs = d.V ∧ E1 = d.e ∧ fitB d.V d.e (mm : Int) = F ∧ Odd d) := ⟨h3, hz, h4, hF, od⟩
      clear o1 o2 h3 hz h4 hF od HO
      go_wp2_with fail
      refine H2.out.mono ?_
      rintro e w2 ⟨rfl, hB2⟩
      clear H2 x0 x1 x2 xf y0 y1 y2 z0 z1 z2 zf
      replace Hb2 := Lib.hid (Hb2.out.below hB2)
      replace Hp := Lib.hid (Hp.out.below hB2)
      replace HL := Lib.hid (HL.out.below hB2)
      replace HT1 := Lib.hid (HT1.out.below hB2)
      replace HS1 := Lib.hid (HS1.out.trans (hB2.mono HS1.out.size))
      clear hB2
      cases F with
      | false =>
        obtain ⟨rfl, rfl⟩ : p = ⟨false, 0, 0⟩ ∧ r = 2 := by injection hv' with a b; exact ⟨a.symm, b.symm⟩
        have z0 := Hb2.out.c0
        have z1 := Hb2.out.c1
        have z2 := Hb2.out.c2
        have zf := Hb2.out.fz
        have Hfin : Hid (ToldR w ⟨false, 0, 0⟩ 2 (.returned (.tuple #[.agg #[.bool false, .slice none 0 0, .int .i64 0], .int .i64 2])) (World.put w2 (w.heap.size + 1) false none 0 0 0)) :=
          ⟨none, 0, 0, [], rfl, by omega, Lim.nil _ _ _, rfl, rfl, below_put HS1.out (Nat.le_succ _) _ _ _ _ _⟩
        clear Hp HL Hb2 HS1 HT1 H34 hv'
        go_wp2
        exact bodyPost_ret (v := .tuple #[.agg #[.bool false, .slice none 0 0, .int .i64 0], .int .i64 2]) (by simp [results, Tryz.results61, go_sem, z0, z1, z2]) rfl Hfin.out
      | true =>
        obtain ⟨hpp, rfl⟩ : p = powD d mm ∧ r = 0 := by injection hv' with a b; exact ⟨a.symm, b.symm⟩
        obtain ⟨h3, hz, h4, hF, od⟩ := H34.out
        unfold fitB at hF
        rw [Bool.and_eq_true, Int.natAbs_natCast] at hF
        have H3 := power_any d A1 m1 c1 zs mm w2 HL.out (by omega) HT1.out hz od (by omega) (of_decide_eq_true hF.1) (of_decide_eq_true hF.2)
        rw [← h3, ← h4, ← hpp] at H3
        replace H3 := Lib.hid H3
        have y0 := Hp.out.c0
        have y1 := Hp.out.c1
        have y2 := Hp.out.c2
        obtain ⟨pg, pV, pE⟩ := p
        simp only at H3
        clear hpp hF hv' hz HL Hp HT1 od h3 h4 H34
        go_wp2_with fail
        refine H3.out.mono ?_
        rintro e w3 ⟨A3, m3, c3, us, rfl, hm3, hl3, hb3, hv3, hB3⟩
        have k2 := Hb2.out.below hB3
        have z0 := k2.c0
        have z1 := k2.c1
        have z2 := k2.c2
        have zf := k2.fz
        have Hfin : Hid (ToldR w ⟨pg, pV, pE⟩ 0 (.returned (.tuple #[.agg #[.bool pg, .slice A3 m3 c3, .int .i64 pE], .int .i64 0])) (World.put w3 (w.heap.size + 1) pg A3 m3 c3 pE)) :=
          ⟨A3, m3, c3, us, rfl, hm3, k2.lim hl3 _ _ _ _ _, hb3, hv3, below_put (HS1.out.trans (hB3.mono HS1.out.size)) (Nat.le_succ _) _ _ _ _ _⟩
        clear k2 hl3 hb3 hv3 hB3 HS1 Hb2 H3 y0 y1 y2
        go_wp2
        exact bodyPost_ret (v := .tuple #[.agg #[.bool pg, .slice A3 m3 c3, .int .i64 pE], .int .i64 0]) (by simp [results, Tryz.results61, go_sem, z0, z1, z2]) rfl Hfin.out
end Go.Proofs.YtmmeejofepmgaaaGreatDoor
/- The walks of the law's size, bits and fits. -/
namespace Go.Proofs.YtmmeejofepmgaaaGreatDoor
open Go.RowKit

/-- A size, up to 100000. -/
def lsz (n : Int) : Nat := if 100000 < n.natAbs then 100000 else n.natAbs
theorem lsz_le (n : Int) : lsz n ≤ 100000 := by unfold lsz; split <;> omega
theorem lsz_fit (a : Nat) (m : Int) : a * lsz m ≤ 60000 ↔ a * m.natAbs ≤ 60000 := by
  unfold lsz
  split
  · rename_i h
    rcases Nat.eq_zero_or_pos a with h0 | h0
    · subst h0; simp
    · have h1 : 100000 ≤ a * 100000 := by omega
      have h2 : m.natAbs ≤ a * m.natAbs := Nat.le_mul_of_pos_left _ h0
      constructor
      · intro h3; omega
      · intro h3; omega
  · exact Iff.rfl
theorem lsz_fit2 (e m : Int) : lsz e * lsz m ≤ 60000 ↔ e.natAbs * m.natAbs ≤ 60000 := by
  rw [lsz_fit, Nat.mul_comm, lsz_fit, Nat.mul_comm]


/-- A number of the document in a block b. -/
def HoldL (w : World) (b : Nat) (g : Bool) (A : Option Addr) (n c : Nat) (ds : List Nat) (e0 : Int) (u : World) : Prop :=
  Bd u b 30 g A n c e0 ∧ Dig u A n c ds ∧ Below w.heap.size w u
section
variable {w : World} {b : Nat} {g : Bool} {A : Option Addr} {n c : Nat} {ds : List Nat} {e0 : Int} {u u' : World}
theorem HoldL.below (h : HoldL w b g A n c ds e0 u) (hb : Below u.heap.size u u') : HoldL w b g A n c ds e0 u' := ⟨h.1.below hb, h.2.1.below hb, h.2.2.trans (hb.mono h.2.2.size)⟩
theorem HoldL.three (h : HoldL w b g A n c ds e0 u) : u.cell? ⟨b, 0, none⟩ = some (.bool g) ∧ u.cell? ⟨b, 1, none⟩ = some (.slice A n c) ∧ u.cell? ⟨b, 2, none⟩ = some (.int .i64 e0) := ⟨h.1.c0, h.1.c1, h.1.c2⟩
theorem HoldL.dig (h : HoldL w b g A n c ds e0 u) : Dig u A n c ds := h.2.1
theorem HoldL.old (h : HoldL w b g A n c ds e0 u) : Below w.heap.size w u := h.2.2
theorem HoldL.start (w : World) (g : Bool) (A : Option Addr) (n c : Nat) (ds : List Nat) (e0 : Int) (h : Dig w A n c ds) : HoldL w w.heap.size g A n c ds e0 (w.alloc (.cells #[.bool g, .slice A n c, .int .i64 e0] 30)) :=
  ⟨Bd.new w _ _ _ _ _ _, h.alloc _, below1 _ _⟩
end


/-- What the law's fits tells. -/
def lawfit (V : Nat) (e m : Int) : Bool := decide (-1073741824 ≤ e ∧ e ≤ 1073741824) && (decide (blen V * lsz m ≤ 60000) && decide (lsz e * lsz m ≤ 60000))
theorem lawfit_O (g : Bool) (V : Nat) (e m : Int) : lawfit (nO g V e).V (nO g V e).e m = fitO (mk g V e) m := by
  rw [mk_nO]
  obtain ⟨d, hd⟩ : ∃ d, nO g V e = d := ⟨_, rfl⟩
  have ho := nO_odd g V e
  rw [hd] at ho ⊢
  unfold lawfit
  rw [show decide (blen d.V * lsz m ≤ 60000) = decide (blen d.V * m.natAbs ≤ 60000) from decide_eq_decide.2 (lsz_fit _ _), show decide (lsz d.e * lsz m ≤ 60000) = decide (d.e.natAbs * m.natAbs ≤ 60000) from decide_eq_decide.2 (lsz_fit2 _ _)]
  unfold toldD
  rcases ho with ⟨k, hk⟩ | ho
  · rw [if_neg (by omega)]
    by_cases h : d.e < -1073741824 ∨ 1073741824 < d.e
    · rw [if_pos h, decide_eq_false (by omega)]; rfl
    · rw [if_neg h, decide_eq_true (by omega)]; rfl
  · subst ho; rfl
theorem fits_nay (g : Bool) (A : Option Addr) (n c : Nat) (e0 : Int) (w : World) (h : ¬ (-1073741824 ≤ e0 ∧ e0 ≤ 1073741824)) :
    Calls Tryz.prog 7 #[.agg #[.bool g, .slice A n c, .int .i64 e0]] w fun e w' => e = .returned (.bool false) ∧ Below w.heap.size w w' := by
  have H1 := Lib.hid (below1 w (.cells #[.bool g, .slice A n c, .int .i64 e0] 30))
  by_cases h2 : -1073741824 ≤ e0
  · have b1 : decide (-1073741824 ≤ e0) = true := decide_eq_true (by omega)
    have b2 : decide (e0 ≤ 1073741824) = false := decide_eq_false (by omega)
    clear h h2
    go_enter Tryz.func7, Tryz.ntmps7
    go_wp2
    go_ret
    exact ⟨rfl, H1.out⟩
  · have b1 : decide (-1073741824 ≤ e0) = false := decide_eq_false (by omega)
    clear h h2
    go_enter Tryz.func7, Tryz.ntmps7
    go_wp2
    go_ret
    exact ⟨rfl, H1.out⟩
theorem fits_b (v : Bool) (g : Bool) (A : Option Addr) (n c : Nat) (e0 : Int) (w : World) (hv : Hid (decide (-1073741824 ≤ e0 ∧ e0 ≤ 1073741824) = v)) :
    Calls Tryz.prog 7 #[.agg #[.bool g, .slice A n c, .int .i64 e0]] w fun e w' => e = .returned (.bool v) ∧ Below w.heap.size w w' := by
  have hv' := hv.out
  by_cases h : -1073741824 ≤ e0 ∧ e0 ≤ 1073741824
  · rw [decide_eq_true h] at hv'
    subst hv'
    exact fits_yes g A n c e0 w h.1 h.2
  · rw [decide_eq_false h] at hv'
    subst hv'
    exact fits_nay g A n c e0 w h


end Go.Proofs.YtmmeejofepmgaaaGreatDoor
/- The walk of planimeterref02.Quick: a power by halves. -/
namespace Go.Proofs.YtmmeejofepmgaaaGreatDoor
open Go.RowKit

theorem DTells.fit {w w' : World} {V L M : Nat} {e : Ending} (h : DTells w V L e w') (hM : V < D.pw M) : DTells w V M e w' := by
  obtain ⟨A, m, c, zs, h1, h2, h3, h4, h5, h6⟩ := h
  refine ⟨A, m, c, zs, h1, ?_, h3, h4, h5, h6⟩
  rw [← h3.len]
  exact D.len_of_lt h4 (by rw [h5]; exact hM)

set_option maxHeartbeats 1000000 in
theorem quick_any (M : Nat) (hM : M ≤ 10000) (k : Nat) : ∀ (A : Option Addr) (n c : Nat) (us : List Nat) (w : World), Dig w A n c us → 1 ≤ D.val us → n ≤ 10000 → k ≤ 1000000000 → D.val us ^ k < D.pw M →
    Calls Tryz.prog 62 #[.slice A n c, .int .i64 (k : Int)] w (DTells w (D.val us ^ k) M) := by
  induction k using Nat.strongRecOn with
  | _ k ih =>
    intro A n c us w hA hX hn hk hlt
    by_cases h0 : k = 0
    · subst h0
      have H1 := Lib.hid ((num_any 1 (by decide) w).mono fun _ _ h => h.fit (M := M) (by rw [Nat.pow_zero] at hlt; exact hlt))
      clear ih hA hlt
      go_enter Tryz.func62, Tryz.ntmps62
      go_wp2_with fail
      refine H1.out.mono ?_
      rintro e w1 ⟨A1, m1, c1, es, rfl, h1, h2, h3, h4, h5⟩
      have Hfin : Hid (DTells w (D.val us ^ 0) M (.returned (.slice A1 m1 c1)) w1) := ⟨A1, m1, c1, es, rfl, h1, h2, h3, by rw [Nat.pow_zero]; exact h4, h5⟩
      clear h2 h3 h4 h5 H1
      go_wp2
      go_ret
      exact Hfin.out
    · have b0 : ((k : Int) == 0) = false := beq_eq_false_iff_ne.2 (by omega)
      obtain ⟨X, hXe⟩ : ∃ X, D.val us = X := ⟨_, rfl⟩
      rw [hXe] at hX hlt
      obtain ⟨h, hh⟩ : ∃ h, k / 2 = h := ⟨_, rfl⟩
      have e1 : (k : Int) / 2 = (h : Int) := by omega
      have l1 : X ^ h < D.pw M := Nat.lt_of_le_of_lt (Nat.pow_le_pow_right hX (by omega)) hlt
      have l2 : X ^ (2 * h) < D.pw M := Nat.lt_of_le_of_lt (Nat.pow_le_pow_right hX (by omega)) hlt
      have H1 := ih h (by omega) A n c us w hA (by rw [hXe]; exact hX) hn (by omega) (by rw [hXe]; exact l1)
      rw [hXe] at H1 ⊢
      replace H1 := Lib.hid H1
      have HA := Lib.hid hA
      have HX := Lib.hid hXe
      have L2 := Lib.hid l2
      have Llt := Lib.hid hlt
      clear ih hA hXe l1 l2 hlt
      go_enter Tryz.func62, Tryz.ntmps62
      go_wp2_with fail
      refine H1.out.mono ?_
      rintro e w1 ⟨A1, m1, c1, es, rfl, hm1, h2, h3, h4, h5⟩
      have hR := (rmul_any A1 m1 c1 es A1 m1 c1 es w1 h2 h2 (by omega) (by omega)).mono fun _ _ h9 => h9.fit (M := M) (by rw [h4, ← Nat.pow_add, show h + h = 2 * h by omega]; exact L2.out)
      rw [h4, ← Nat.pow_add, show h + h = 2 * h by omega] at hR
      have HR := Lib.hid hR
      have HB := Lib.hid h5
      clear hR h2 h3 h4 h5 H1 L2
      go_wp2_with fail
      refine HR.out.mono ?_
      rintro e w2 ⟨A2, m2, c2, fs, rfl, hm2, g2, g3, g4, g5⟩
      have s2 := HB.out.trans (g5.mono HB.out.size)
      by_cases hr : k % 2 = 1
      · have e2 : (k : Int) % 2 = 1 := by omega
        have hk2 : (2 * h).succ = k := by omega
        have hR2 := (rmul_any A2 m2 c2 fs A n c us w2 g2 (HA.out.below s2) (by omega) (by omega)).mono fun _ _ h9 => h9.fit (M := M) (by rw [g4, HX.out, ← Nat.pow_succ, hk2]; exact Llt.out)
        rw [g4, HX.out, ← Nat.pow_succ, hk2] at hR2
        have HR2 := Lib.hid hR2
        have HS := Lib.hid s2
        clear hR2 g2 g3 g4 g5 HR HB s2 HA HX Llt hh hk2 hr
        go_wp2_with fail
        refine HR2.out.mono ?_
        rintro e w3 ⟨A3, m3, c3, gs, rfl, hm3, q2, q3, q4, q5⟩
        have Hfin : Hid (DTells w (X ^ k) M (.returned (.slice A3 m3 c3)) w3) := ⟨A3, m3, c3, gs, rfl, hm3, q2, q3, q4, HS.out.trans (q5.mono HS.out.size)⟩
        clear q2 q3 q4 q5 HR2 HS
        go_wp2
        go_ret
        exact Hfin.out
      · have e2 : (k : Int) % 2 = 0 := by omega
        have hk2 : 2 * h = k := by omega
        have Hfin : Hid (DTells w (X ^ k) M (.returned (.slice A2 m2 c2)) w2) := ⟨A2, m2, c2, fs, rfl, hm2, g2, g3, by rw [g4, hk2], s2⟩
        clear g2 g3 g4 g5 HR HB s2 HA HX Llt hh hk2 hr
        go_wp2
        go_ret
        exact Hfin.out
end Go.Proofs.YtmmeejofepmgaaaGreatDoor
/- The walk of planimeterref10.Pow. -/
namespace Go.Proofs.YtmmeejofepmgaaaGreatDoor
open Go.RowKit

/-- While it is walked: the number in its box, the result's block. -/
def HoldQ10 (w : World) (g : Bool) (A : Option Addr) (n c : Nat) (ds : List Nat) (e0 : Int) (u : World) : Prop :=
  Bd u w.heap.size 30 g A n c e0 ∧ Bd u (w.heap.size + 1) 30 false none 0 0 0 ∧ Dig u A n c ds ∧ Below w.heap.size w u
section
variable {w : World} {g : Bool} {A : Option Addr} {n c : Nat} {ds : List Nat} {e0 : Int} {u u' : World}
theorem HoldQ10.below (h : HoldQ10 w g A n c ds e0 u) (hb : Below u.heap.size u u') : HoldQ10 w g A n c ds e0 u' := ⟨h.1.below hb, h.2.1.below hb, h.2.2.1.below hb, h.2.2.2.trans (hb.mono h.2.2.2.size)⟩
theorem HoldQ10.three (h : HoldQ10 w g A n c ds e0 u) : u.cell? ⟨w.heap.size, 0, none⟩ = some (.bool g) ∧ u.cell? ⟨w.heap.size, 1, none⟩ = some (.slice A n c) ∧ u.cell? ⟨w.heap.size, 2, none⟩ = some (.int .i64 e0) := ⟨h.1.c0, h.1.c1, h.1.c2⟩
theorem HoldQ10.dig (h : HoldQ10 w g A n c ds e0 u) : Dig u A n c ds := h.2.2.1
theorem HoldQ10.old (h : HoldQ10 w g A n c ds e0 u) : Below w.heap.size w u := h.2.2.2
theorem HoldQ10.start (w : World) (g : Bool) (A : Option Addr) (n c : Nat) (ds : List Nat) (e0 : Int) (h : Dig w A n c ds) : HoldQ10 w g A n c ds e0 ((w.alloc (.cells #[.bool g, .slice A n c, .int .i64 e0] 30)).alloc (.cells #[.bool false, .slice none 0 0, .int .i64 0] 30)) := by
  have b2 := Bd.new (w.alloc (.cells #[.bool g, .slice A n c, .int .i64 e0] 30)) 30 false none 0 0 0
  rw [World.size_alloc] at b2
  exact ⟨(Bd.new w _ _ _ _ _ _).alloc _, b2, (h.alloc _).alloc _, ((Below.refl _ _).alloc (Nat.le_refl _) _).alloc (by simp) _⟩
end

set_option maxHeartbeats 2000000 in
set_option maxRecDepth 20000 in
theorem pow10_pos (M V : Nat) (E : Int) (A : Option Addr) (n c : Nat) (ds : List Nat) (m : Nat) (w : World) (hA : Dig w A n c ds) (hb : D.Bare ds) (hV : D.val ds = V) (hV1 : 1 ≤ V) (hn : n ≤ 10000) (hm : m ≤ 1000000000) (hM : M ≤ 10000) (hlt : V ^ m < D.pw M) (h1 : -1073741824 ≤ E * m) (h2 : E * m ≤ 1073741824) :
    Calls Tryz.prog 47 #[.agg #[.bool false, .slice A n c, .int .i64 E], .int .i64 (m : Int)] w (NTold w (powD ⟨false, V, E⟩ m) M) := by
  have hz := dnil_iff hA hb
  have c1 : ((n : Int) == 0) = false := beq_no (by omega)
  have HQ : Hid (∀ u, HoldQ10 w false A n c ds E u → Calls Tryz.prog 62 #[.slice A n c, .int .i64 (m : Int)] u (DTells u (V ^ m) M)) := fun u hu => by
    have h := quick_any M hM m A n c ds u hu.dig (by omega) hn hm (by rw [hV]; exact hlt)
    rw [hV] at h
    exact h
  obtain ⟨P, hP⟩ : ∃ P, V ^ m = P := ⟨_, rfl⟩
  obtain ⟨T, hT⟩ : ∃ T, E * (m : Int) = T := ⟨_, rfl⟩
  have hpd : powD ⟨false, V, E⟩ m = ⟨false, P, T⟩ := by unfold powD; simp only [Bool.false_and]; rw [hP, hT]
  rw [hpd]
  rw [hP] at HQ
  rw [hT] at h1 h2
  have hw : IntKind.i64.wrap T = T := by rw [IntKind.wrap_i64]; omega
  have K0 := Lib.hid ((HoldQ10.start w false A n c ds E hA).below (below_drew _))
  clear hA hb hz hV hlt hP hpd h1 h2
  go_enter Tryz.func47, Tryz.ntmps47
  go_wp2_with fail
  refine wp_region_noPanic ?_
  refine wp_region_held_drew (S := fun w' => w'.cell? ⟨w.heap.size, 0, none⟩ = some (.bool false) ∧ w'.cell? ⟨w.heap.size, 1, none⟩ = some (.slice A n c) ∧ w'.cell? ⟨w.heap.size, 2, none⟩ = some (.int .i64 E)) (by kernel_rfl) K0.out.three (fun hHeld => ?_)
  refine wpAnyH_take (i := 0) (v := ?_) rfl (by kernel_rfl) (by kernel_rfl) (by kernel_rfl) (fun _ _ _ h => h) (Or.inl ⟨by rfl, ?_⟩) hHeld ?_
  rotate_left
  · intro w' hSw
    (try dsimp only at hSw)
    go_simp
    all_goals (with_reducible rfl)
  simp only [List.getElem_toArray, List.getElem_cons_zero, Act.put, List.setIfInBounds_toArray, List.set_cons_zero, List.set_cons_succ]
  refine wpAnyH_take (i := 1) (v := ?_) rfl (by kernel_rfl) (by kernel_rfl) (by kernel_rfl) (fun _ _ _ h => h) (Or.inl ⟨by rfl, ?_⟩) hHeld ?_
  rotate_left
  · intro w' hSw
    (try dsimp only at hSw)
    go_simp
    all_goals (with_reducible rfl)
  simp only [List.getElem_toArray, List.getElem_cons_succ, List.getElem_cons_zero, Act.put, List.setIfInBounds_toArray, List.set_cons_zero, List.set_cons_succ]
  refine wpAnyH_take (i := 2) (v := ?_) rfl (by kernel_rfl) (by kernel_rfl) (by kernel_rfl) (fun _ _ _ h => h) (Or.inl ⟨by rfl, ?_⟩) hHeld ?_
  rotate_left
  · intro w' hSw
    (try dsimp only at hSw)
    go_simp
    all_goals (with_reducible rfl)
  simp only [List.getElem_toArray, List.getElem_cons_succ, List.getElem_cons_zero, Act.put, List.setIfInBounds_toArray, List.set_cons_zero, List.set_cons_succ]
  refine wpAnyH_take (i := 3) (v := undef) rfl (by kernel_rfl) (by kernel_rfl) (by kernel_rfl) (fun _ _ _ h => h) (Or.inr ⟨by rfl, rfl⟩) hHeld ?_
  simp only [List.getElem_toArray, List.getElem_cons_succ, List.getElem_cons_zero, Act.put, List.setIfInBounds_toArray, List.set_cons_zero, List.set_cons_succ]
  refine wpAnyH_take (i := 4) (v := undef) rfl (by kernel_rfl) (by kernel_rfl) (by kernel_rfl) (fun _ _ _ h => h) (Or.inr ⟨by rfl, rfl⟩) hHeld ?_
  simp only [List.getElem_toArray, List.getElem_cons_succ, List.getElem_cons_zero, Act.put, List.setIfInBounds_toArray, List.set_cons_zero, List.set_cons_succ]
  refine wpAnyH_take (i := 5) (v := undef) rfl (by kernel_rfl) (by kernel_rfl) (by kernel_rfl) (fun _ _ _ h => h) (Or.inr ⟨by rfl, rfl⟩) hHeld ?_
  simp only [List.getElem_toArray, List.getElem_cons_succ, List.getElem_cons_zero, Act.put, List.setIfInBounds_toArray, List.set_cons_zero, List.set_cons_succ]
  refine wpAnyH_take (i := 6) (v := ?_) rfl (by kernel_rfl) (by kernel_rfl) (by kernel_rfl) (fun _ _ _ h => h) (Or.inl ⟨by rfl, ?_⟩) hHeld ?_
  rotate_left
  · intro w' hSw
    (try dsimp only at hSw)
    go_simp
    all_goals (with_reducible rfl)
  simp only [List.getElem_toArray, List.getElem_cons_succ, List.getElem_cons_zero, Act.put, List.setIfInBounds_toArray, List.set_cons_zero, List.set_cons_succ]
  refine wpAnyH_take (i := 7) (v := ?_) rfl (by kernel_rfl) (by kernel_rfl) (by kernel_rfl) (fun _ _ _ h => h) (Or.inl ⟨by rfl, ?_⟩) hHeld ?_
  rotate_left
  · intro w' hSw
    (try dsimp only at hSw)
    go_simp
    all_goals (with_reducible rfl)
  simp only [List.getElem_toArray, List.getElem_cons_succ, List.getElem_cons_zero, Act.put, List.setIfInBounds_toArray, List.set_cons_zero, List.set_cons_succ]
  refine wpAnyH_take (i := 8) (v := ?_) rfl (by kernel_rfl) (by kernel_rfl) (by kernel_rfl) (fun _ _ _ h => h) (Or.inl ⟨by rfl, ?_⟩) hHeld ?_
  rotate_left
  · intro w' hSw
    (try dsimp only at hSw)
    go_simp
    all_goals (with_reducible rfl)
  simp only [List.getElem_toArray, List.getElem_cons_succ, List.getElem_cons_zero, Act.put, List.setIfInBounds_toArray, List.set_cons_zero, List.set_cons_succ]
  refine wpAnyH_take (i := 9) (v := ?_) rfl (by kernel_rfl) (by kernel_rfl) (by kernel_rfl) (fun _ _ _ h => h) (Or.inl ⟨by rfl, ?_⟩) hHeld ?_
  rotate_left
  · intro w' hSw
    (try dsimp only at hSw)
    go_simp
    all_goals (with_reducible rfl)
  simp only [List.getElem_toArray, List.getElem_cons_succ, List.getElem_cons_zero, Act.put, List.setIfInBounds_toArray, List.set_cons_zero, List.set_cons_succ]
  refine wpAnyH_take (i := 11) (v := ?_) rfl (by kernel_rfl) (by kernel_rfl) (by kernel_rfl) (fun _ _ _ h => h) (Or.inl ⟨by rfl, ?_⟩) hHeld ?_
  rotate_left
  · intro w' hSw
    (try dsimp only at hSw)
    go_simp
    all_goals (with_reducible rfl)
  simp only [List.getElem_toArray, List.getElem_cons_succ, List.getElem_cons_zero, Act.put, List.setIfInBounds_toArray, List.set_cons_zero, List.set_cons_succ]
  refine wpAnyH_take (i := 12) (v := ?_) rfl (by kernel_rfl) (by kernel_rfl) (by kernel_rfl) (fun _ _ _ h => h) (Or.inl ⟨by rfl, ?_⟩) hHeld ?_
  rotate_left
  · intro w' hSw
    (try dsimp only at hSw)
    go_simp
    all_goals (with_reducible rfl)
  simp only [List.getElem_toArray, List.getElem_cons_succ, List.getElem_cons_zero, Act.put, List.setIfInBounds_toArray, List.set_cons_zero, List.set_cons_succ]
  refine wpAnyH_take (i := 13) (v := ?_) rfl (by kernel_rfl) (by kernel_rfl) (by kernel_rfl) (fun _ _ _ h => h) (Or.inl ⟨by rfl, ?_⟩) hHeld ?_
  rotate_left
  · intro w' hSw
    (try dsimp only at hSw)
    go_simp
    all_goals (with_reducible rfl)
  simp only [List.getElem_toArray, List.getElem_cons_succ, List.getElem_cons_zero, Act.put, List.setIfInBounds_toArray, List.set_cons_zero, List.set_cons_succ]
  refine wpAnyH_take (i := 14) (v := ?_) rfl (by kernel_rfl) (by kernel_rfl) (by kernel_rfl) (fun _ _ _ h => h) (Or.inl ⟨by rfl, ?_⟩) hHeld ?_
  rotate_left
  · intro w' hSw
    (try dsimp only at hSw)
    go_simp
    all_goals (with_reducible rfl)
  simp only [List.getElem_toArray, List.getElem_cons_succ, List.getElem_cons_zero, Act.put, List.setIfInBounds_toArray, List.set_cons_zero, List.set_cons_succ]
  refine wpAnyH_ready (rs := [10]) (by kernel_rfl) (by simp) ?_
  refine AllReadyH.cons rfl (fun K' hK' => ?_) AllReadyH.nil
  go_simp
  refine (HQ.out _ K0.out).mono ?_
  rintro e w1 ⟨A1, m1, c1, es, rfl, hm1, hl1, hb1, hv1, hB1⟩
  have K1 := Lib.hid (K0.out.below hB1)
  refine hK'.out _ _ ?_ (fun hHeld => ?_)
  · exact K1.out.three
  clear hK' K'
  have y0 := K1.out.2.1.c0
  have y1 := K1.out.2.1.c1
  have y2 := K1.out.2.1.c2
  have yf := K1.out.2.1.fz
  have K2 := Lib.hid (K1.out.1.other (b' := w.heap.size + 1) (by omega) false A1 m1 c1 T)
  have Fin : Hid (NTold w ⟨false, P, T⟩ M (.returned (.agg #[.bool false, .slice A1 m1 c1, .int .i64 T])) (World.put w1 (w.heap.size + 1) false A1 m1 c1 T)) := ⟨A1, m1, c1, es, rfl, hm1, K1.out.2.1.dig hl1 _ _ _ _ _, hb1, hv1, below_put K1.out.old (Nat.le_succ _) _ _ _ _ _⟩
  clear hl1 hb1 hv1 hB1 K1 K0 HQ
  refine wpAnyH_take (i := 15) (v := ?_) rfl (by kernel_rfl) (by kernel_rfl) (by kernel_rfl) (fun _ _ _ h => h) (Or.inl ⟨by rfl, ?_⟩) hHeld ?_
  rotate_left
  · intro w' hSw
    (try dsimp only at hSw)
    go_simp
    all_goals (with_reducible rfl)
  simp only [List.getElem_toArray, List.getElem_cons_succ, List.getElem_cons_zero, Act.put, List.setIfInBounds_toArray, List.set_cons_zero, List.set_cons_succ]
  refine wpAnyH_ready (rs := [16]) (by kernel_rfl) (by simp) ?_
  refine AllReadyH.cons rfl (fun K' hK' => ?_) AllReadyH.nil
  go_simp
  refine hK'.out _ _ ?_ (fun hHeld => ?_)
  · exact ⟨K2.out.c0, K2.out.c1, K2.out.c2⟩
  clear hK' K'
  refine wpAnyH_done (by kernel_rfl) ?_ _
  refine NoPanic.normal ?_
  clear K2 hHeld
  go_wp2
  exact bodyPost_ret (v := .agg #[.bool false, .slice A1 m1 c1, .int .i64 T]) (by simp [results, Tryz.results47, go_sem, y0, y1, y2]) rfl Fin.out
end Go.Proofs.YtmmeejofepmgaaaGreatDoor
/- The walk of planimeterref10.Cmp. -/
namespace Go.Proofs.YtmmeejofepmgaaaGreatDoor
open Go.RowKit

/-- Two numbers of the document, each in a block. -/
def RelC (w : World) (b1 : Nat) (A : Option Addr) (n c : Nat) (ds : List Nat) (e1 : Int) (b2 : Nat) (B : Option Addr) (m d : Nat) (es : List Nat) (e2 : Int) (u : World) : Prop :=
  HoldL w b1 false A n c ds e1 u ∧ HoldL w b2 false B m d es e2 u
section
variable {w : World} {b1 : Nat} {A : Option Addr} {n c : Nat} {ds : List Nat} {e1 : Int} {b2 : Nat} {B : Option Addr} {m d : Nat} {es : List Nat} {e2 : Int} {u u' : World}
theorem RelC.below (h : RelC w b1 A n c ds e1 b2 B m d es e2 u) (hb : Below u.heap.size u u') : RelC w b1 A n c ds e1 b2 B m d es e2 u' := ⟨h.1.below hb, h.2.below hb⟩
theorem RelC.six (h : RelC w b1 A n c ds e1 b2 B m d es e2 u) : Six u b1 false A n c e1 b2 false B m d e2 := h.1.1.six h.2.1
theorem RelC.dig1 (h : RelC w b1 A n c ds e1 b2 B m d es e2 u) : Dig u A n c ds := h.1.dig
theorem RelC.dig2 (h : RelC w b1 A n c ds e1 b2 B m d es e2 u) : Dig u B m d es := h.2.dig
theorem RelC.old (h : RelC w b1 A n c ds e1 b2 B m d es e2 u) : Below w.heap.size w u := h.1.old
end
/-- .. and a third. -/
def RelD (w : World) (b1 : Nat) (A : Option Addr) (n c : Nat) (ds : List Nat) (e1 : Int) (b2 : Nat) (B : Option Addr) (m d : Nat) (es : List Nat) (e2 : Int) (b3 : Nat) (C : Option Addr) (p q : Nat) (fs : List Nat) (e3 : Int) (u : World) : Prop :=
  RelC w b1 A n c ds e1 b2 B m d es e2 u ∧ HoldL w b3 false C p q fs e3 u
section
variable {w : World} {b1 : Nat} {A : Option Addr} {n c : Nat} {ds : List Nat} {e1 : Int} {b2 : Nat} {B : Option Addr} {m d : Nat} {es : List Nat} {e2 : Int} {b3 : Nat} {C : Option Addr} {p q : Nat} {fs : List Nat} {e3 : Int} {u u' : World}
theorem RelD.below (h : RelD w b1 A n c ds e1 b2 B m d es e2 b3 C p q fs e3 u) (hb : Below u.heap.size u u') : RelD w b1 A n c ds e1 b2 B m d es e2 b3 C p q fs e3 u' := ⟨h.1.below hb, h.2.below hb⟩
theorem RelD.nine (h : RelD w b1 A n c ds e1 b2 B m d es e2 b3 C p q fs e3 u) : Six u b1 false A n c e1 b2 false B m d e2 ∧ u.cell? ⟨b3, 0, none⟩ = some (.bool false) ∧ u.cell? ⟨b3, 1, none⟩ = some (.slice C p q) ∧ u.cell? ⟨b3, 2, none⟩ = some (.int .i64 e3) := ⟨h.1.six, h.2.three⟩
theorem RelD.dig1 (h : RelD w b1 A n c ds e1 b2 B m d es e2 b3 C p q fs e3 u) : Dig u A n c ds := h.1.dig1
theorem RelD.dig2 (h : RelD w b1 A n c ds e1 b2 B m d es e2 b3 C p q fs e3 u) : Dig u B m d es := h.1.dig2
theorem RelD.dig3 (h : RelD w b1 A n c ds e1 b2 B m d es e2 b3 C p q fs e3 u) : Dig u C p q fs := h.2.dig
theorem RelD.old (h : RelD w b1 A n c ds e1 b2 B m d es e2 b3 C p q fs e3 u) : Below w.heap.size w u := h.1.old
end
theorem cq_sz {V U : Nat} {e f : Int} (h1 : -1073741824 ≤ e) (h2 : e ≤ 1073741824) (h3 : -1073741824 ≤ f) (h4 : f ≤ 1073741824) : cmpZ (sz V e) (sz U f) = cq V e U f := by
  rw [← cq_dw h1 h2 h3 h4]
  show _ = cmpI (sz V e : Int) (sz U f : Int)
  rcases Nat.lt_trichotomy (sz V e) (sz U f) with h | h | h
  · rw [cmpZ_lt h, cmpI_lt (by omega)]
  · rw [cmpZ_eq h, cmpI_eq (by omega)]
  · rw [cmpZ_gt h, cmpI_gt (by omega)]
theorem pow_digits_of {V m K : Nat} (h : blen V * m < 16 * K) : V ^ m < D.pw K := by
  rw [D.pw_two]
  exact Nat.lt_of_le_of_lt (pow_bits V m) (Nat.pow_lt_pow_right (by decide) h)
theorem pow_digits {V m : Nat} (h : blen V * m ≤ 3000) : V ^ m < D.pw 188 := pow_digits_of (by omega)

set_option maxHeartbeats 4000000 in
set_option maxRecDepth 20000 in
theorem cmp10_l (v : Int) (V : Nat) (E : Int) (A : Option Addr) (n c : Nat) (ds : List Nat) (i : Int) (U : Nat) (F : Int) (B : Option Addr) (m d : Nat) (es : List Nat) (k : Nat) (w : World) (hA : Dig w A n c ds) (hB : Dig w B m d es) (ba : D.Bare ds) (bb : D.Bare es) (hn : n ≤ 1000) (hm : m ≤ 1000) (hV : D.val ds = V) (hU : D.val es = U) (hV1 : 1 ≤ V) (hU1 : 1 ≤ U)
    (hk : k ≤ 1000000) (hi1 : -1000000 ≤ i) (hi2 : i ≤ 1000000) (q1 : blen V * i.natAbs ≤ 3000) (q2 : blen U * k ≤ 3000) (q3 : E.natAbs * i.natAbs ≤ 200000) (q4 : F.natAbs * k ≤ 200000) (hv : Hid (ratC V E i U F k = v)) :
    Calls Tryz.prog 28 #[.agg #[.bool false, .slice A n c, .int .i64 E], .int .i64 i, .agg #[.bool false, .slice B m d, .int .i64 F], .int .i64 (k : Int)] w fun e w' => e = .returned (.int .i64 v) ∧ Below w.heap.size w w' := by
  have h0 := HN.start w false A n c ds E false B m d es F hA hB
  have p2 := abs_mul_le q4
  have HP2 := pow10_pos 188 U F B m d es k _ h0.2.2.2.1 bb hU hU1 (by omega) (by omega) (by decide) (pow_digits q2) (by omega) (by omega)
  obtain ⟨Q, hQ⟩ : ∃ Q, U ^ k = Q := ⟨_, rfl⟩
  obtain ⟨T, hT⟩ : ∃ T, F * (k : Int) = T := ⟨_, rfl⟩
  rw [show powD ⟨false, U, F⟩ k = ⟨false, Q, T⟩ by unfold powD; simp only [Bool.false_and]; rw [hQ, hT]] at HP2
  replace HP2 := Lib.hid HP2
  rw [hT] at p2
  have hQ1 : 1 ≤ Q := by rw [← hQ]; exact Nat.pow_pos hU1
  have hv' := hv.out
  have HL1 : Hid (HoldL w w.heap.size false A n c ds E _) := ⟨h0.1, h0.2.2.1, h0.2.2.2.2⟩
  have pT1 : -200000 ≤ T := by omega
  have pT2 : T ≤ 200000 := by omega
  clear hA hB h0 hv bb hU q2 q4 p2
  go_enter Tryz.func28, Tryz.ntmps28
  go_wp2_with fail
  refine HP2.out.mono ?_
  rintro e w1 ⟨B1, m1, d1, fs, rfl, hm1, hl1, hb1, hv1, hB1⟩
  simp only at hv1
  have s1 := (HL1.out.below hB1).old
  have HR : Hid (RelC w w.heap.size A n c ds E w1.heap.size B1 m1 d1 fs T (w1.alloc (.cells #[.bool false, .slice B1 m1 d1, .int .i64 T] 30))) :=
    ⟨(HL1.out.below hB1).below (below1 _ _), ⟨Bd.new w1 _ _ _ _ _ _, hl1.alloc _, s1.alloc s1.size _⟩⟩
  have HF : Hid (D.Bare fs ∧ D.val fs = Q) := ⟨hb1, hv1⟩
  clear hB1 hl1 hb1 hv1 HL1 HP2 s1
  by_cases hneg : i < 0
  · have b1 : decide (0 ≤ i) = false := decide_eq_false (by omega)
    obtain ⟨ii, hii⟩ : ∃ ii : Nat, -i = (ii : Int) := ⟨(-i).toNat, by omega⟩
    have hia : i.natAbs = ii := by omega
    rw [hia] at q1 q3
    have p1 := abs_mul_le q3
    have hii0 : ii ≠ 0 := by omega
    have HP1 := pow10_pos 188 V E A n c ds ii _ HR.out.dig1 ba hV hV1 (by omega) (by omega) (by decide) (pow_digits q1) (by omega) (by omega)
    obtain ⟨P, hP⟩ : ∃ P, V ^ ii = P := ⟨_, rfl⟩
    obtain ⟨S, hS⟩ : ∃ S, E * (ii : Int) = S := ⟨_, rfl⟩
    rw [show powD ⟨false, V, E⟩ ii = ⟨false, P, S⟩ by unfold powD; simp only [Bool.false_and]; rw [hP, hS]] at HP1
    replace HP1 := Lib.hid HP1
    rw [hS] at p1
    have hP1 : 1 ≤ P := by rw [← hP]; exact Nat.pow_pos hV1
    have hvv : cq 1 0 (P * Q) (S + T) = v := by
      rw [← hv', show i = -(ii : Int) by omega, ratC_neg hii0, hP, hS, hQ, hT]
    have pS1 : -200000 ≤ S := by omega
    have pS2 : S ≤ 200000 := by omega
    obtain ⟨R, hR⟩ : ∃ R, S + T = R := ⟨_, rfl⟩
    rw [hR] at hvv
    have hwR : IntKind.i64.wrap R = R := by rw [IntKind.wrap_i64]; omega
    have pR1 : -400000 ≤ R := by omega
    have pR2 : R ≤ 400000 := by omega
    have x0 := HR.out.1.1.c0
    have x1 := HR.out.1.1.c1
    have x2 := HR.out.1.1.c2
    clear hv' hQ hT hP hS p1 q1 q3 hneg hia hii0 ba hV hV1 hU1
    go_wp2_with fail
    refine HP1.out.mono ?_
    rintro e w2 ⟨A2, m2, c2, gs, rfl, hm2, hl2, hb2, hv2, hB2⟩
    simp only at hv2
    have k2 := HR.out.2.below hB2
    have K3 : HoldL w w2.heap.size false A2 m2 c2 gs S (w2.alloc (.cells #[.bool false, .slice A2 m2 c2, .int .i64 S] 30)) :=
      ⟨Bd.new w2 _ _ _ _ _ _, hl2.alloc _, k2.old.alloc k2.old.size _⟩
    have KQ := k2.below (below1 w2 (.cells #[.bool false, .slice A2 m2 c2, .int .i64 S] 30))
    have HG : Hid (D.Bare gs ∧ D.val gs = P) := ⟨hb2, hv2⟩
    have a3 := below1 (w2.alloc (.cells #[.bool false, .slice A2 m2 c2, .int .i64 S] 30)) (.cells #[.int .u32 1] 50)
    have a4 := below1 ((w2.alloc (.cells #[.bool false, .slice A2 m2 c2, .int .i64 S] 30)).alloc (.cells #[.int .u32 1] 50)) (.cells #[.bool false, .slice (some ⟨w2.heap.size + 1, 0, none⟩) 1 1, .int .i64 0] 30)
    have n1 := dig_new1 (w2.alloc (.cells #[.bool false, .slice A2 m2 c2, .int .i64 S] 30)) 50 1 1 rfl (by decide)
    rw [World.size_alloc] at n1
    have b3 := Bd.new ((w2.alloc (.cells #[.bool false, .slice A2 m2 c2, .int .i64 S] 30)).alloc (.cells #[.int .u32 1] 50)) 30 false (some ⟨w2.heap.size + 1, 0, none⟩) 1 1 0
    rw [World.size_alloc, World.size_alloc] at b3
    have KP4 := (K3.below a3).below a4
    have KR : RelD w w2.heap.size A2 m2 c2 gs S w1.heap.size B1 m1 d1 fs T (w2.heap.size + 1 + 1) (some ⟨w2.heap.size + 1, 0, none⟩) 1 1 [1] 0 _ := ⟨⟨KP4, (KQ.below a3).below a4⟩, ⟨b3, n1.below a4, KP4.old⟩⟩
    have K0 := Lib.hid (KR.below (below_drew _))
    have HM : Hid (∀ u, RelD w w2.heap.size A2 m2 c2 gs S w1.heap.size B1 m1 d1 fs T (w2.heap.size + 1 + 1) (some ⟨w2.heap.size + 1, 0, none⟩) 1 1 [1] 0 u → Calls Tryz.prog 49 #[.slice A2 m2 c2, .slice B1 m1 d1] u (DTells u (P * Q) 400)) := fun u hu => by
      have h := rmul_any A2 m2 c2 gs B1 m1 d1 fs u hu.dig1 hu.dig2 (by omega) (by omega)
      rw [HG.out.2, HF.out.2] at h
      exact h.mono fun _ _ h9 => h9.wider (by omega)
    have HC : Hid (∀ u A5 m5 c5 us, RelD w w2.heap.size A2 m2 c2 gs S w1.heap.size B1 m1 d1 fs T (w2.heap.size + 1 + 1) (some ⟨w2.heap.size + 1, 0, none⟩) 1 1 [1] 0 u → Dig u A5 m5 c5 us → D.Bare us → D.val us = P * Q → m5 ≤ 400 → Calls Tryz.prog 48 #[.agg #[.bool false, .slice (some ⟨w2.heap.size + 1, 0, none⟩) 1 1, .int .i64 0], .agg #[.bool false, .slice A5 m5 c5, .int .i64 R]] u fun e w' => e = .returned (.int .i64 v) ∧ Below u.heap.size u w') := fun u A5 m5 c5 us hu r1 r2 r3 r4 =>
      rncmp_l v (some ⟨w2.heap.size + 1, 0, none⟩) 1 1 [1] 0 A5 m5 c5 us R u hu.dig3 r1 (dbare_one (by decide)) r2 (by decide) (by omega) (by rw [r3]; exact Nat.ne_of_gt (Nat.mul_pos hP1 hQ1)) (by decide) (by decide) (by omega) (by omega) (by show _ = _; rw [dval_one, r3, cq_sz (by decide) (by decide) (by omega) (by omega)]; exact hvv)
    clear hB2 hl2 hb2 hv2 HP1 HR K3 KQ k2 x0 x1 x2 a3 a4 n1 b3 KP4 KR HG HF hvv hP1 hQ1
    go_wp2_with fail
    go_region_held3 (fun w' => Six w' w2.heap.size false A2 m2 c2 S w1.heap.size false B1 m1 d1 T ∧ w'.cell? ⟨w2.heap.size + 1 + 1, 0, none⟩ = some (.bool false) ∧ w'.cell? ⟨w2.heap.size + 1 + 1, 1, none⟩ = some (.slice (some ⟨w2.heap.size + 1, 0, none⟩) 1 1) ∧ w'.cell? ⟨w2.heap.size + 1 + 1, 2, none⟩ = some (.int .i64 0))
      (first | (with_reducible exact K0.out.nine) | (with_reducible exact K1.out.nine) | (with_reducible exact K2.out.nine))
      (first
        | (go_at_call 49; (with_reducible refine (HM.out _ K0.out).mono ?_); rintro e w5 ⟨A5, m5, c5, us, rfl, hm5, hl5, hb5, hv5, hB5⟩; have K1 := Lib.hid (K0.out.below hB5); have L5 := Lib.hid hl5; have N5 := Lib.hid hb5; have V5 := Lib.hid hv5; clear hl5 hb5 hv5 hB5)
        | (go_at_call 48; (with_reducible refine (HC.out _ A5 m5 c5 us K1.out L5.out N5.out V5.out hm5).mono ?_); rintro e w6 ⟨rfl, hB6⟩; have K2 := Lib.hid (K1.out.below hB6); clear hB6))
    all_goals (
      have Hfin := Lib.hid K2.out.old
      clear K0 K1 K2 HM HC L5 N5 V5
      go_wp2_with fail
      go_ret
      exact ⟨rfl, Hfin.out⟩)
  · have b1 : decide (0 ≤ i) = true := decide_eq_true (by omega)
    obtain ⟨ii, rfl⟩ : ∃ ii : Nat, i = (ii : Int) := ⟨i.toNat, by omega⟩
    rw [Int.natAbs_natCast] at q1 q3
    have p1 := abs_mul_le q3
    obtain ⟨P, hP⟩ : ∃ P, V ^ ii = P := ⟨_, rfl⟩
    obtain ⟨S, hS⟩ : ∃ S, E * (ii : Int) = S := ⟨_, rfl⟩
    have HP1 : Hid (∀ u, RelC w w.heap.size A n c ds E w1.heap.size B1 m1 d1 fs T u → Calls Tryz.prog 47 #[.agg #[.bool false, .slice A n c, .int .i64 E], .int .i64 (ii : Int)] u (NTold u ⟨false, P, S⟩ 188)) := fun u hu => by
      have h := pow10_pos 188 V E A n c ds ii u hu.dig1 ba hV hV1 (by omega) (by omega) (by decide) (pow_digits q1) (by omega) (by omega)
      rw [show powD ⟨false, V, E⟩ ii = ⟨false, P, S⟩ by unfold powD; simp only [Bool.false_and]; rw [hP, hS]] at h
      exact h
    rw [hS] at p1
    have hvv : cq P S Q T = v := by rw [← hv', ratC_pos, hP, hS, hQ, hT]
    have pS1 : -200000 ≤ S := by omega
    have pS2 : S ≤ 200000 := by omega
    have HC : Hid (∀ u A5 m5 c5 us, RelC w w.heap.size A n c ds E w1.heap.size B1 m1 d1 fs T u → Dig u A5 m5 c5 us → D.Bare us → D.val us = P → m5 ≤ 188 → Calls Tryz.prog 48 #[.agg #[.bool false, .slice A5 m5 c5, .int .i64 S], .agg #[.bool false, .slice B1 m1 d1, .int .i64 T]] u fun e w' => e = .returned (.int .i64 v) ∧ Below u.heap.size u w') := fun u A5 m5 c5 us hu r1 r2 r3 r4 =>
      rncmp_l v A5 m5 c5 us S B1 m1 d1 fs T u r1 hu.dig2 r2 HF.out.1 (by omega) (by omega) (by rw [HF.out.2]; omega) (by omega) (by omega) (by omega) (by omega) (by show _ = _; rw [HF.out.2, r3, cq_sz (by omega) (by omega) (by omega) (by omega)]; exact hvv)
    have K0 := Lib.hid (HR.out.below (below_drew _))
    clear HR HF hvv hv' hQ hT hP hS p1 q1 q3 hneg ba hV hV1 hU1 hQ1
    go_wp2_with fail
    go_region_held3 (fun w' => Six w' w.heap.size false A n c E w1.heap.size false B1 m1 d1 T)
      (first | (with_reducible exact K0.out.six) | (with_reducible exact K1.out.six) | (with_reducible exact K2.out.six))
      (first
        | (go_at_call 47; (with_reducible refine (HP1.out _ K0.out).mono ?_); rintro e w5 ⟨A5, m5, c5, us, rfl, hm5, hl5, hb5, hv5, hB5⟩; have K1 := Lib.hid (K0.out.below hB5); have L5 := Lib.hid hl5; have N5 := Lib.hid hb5; have V5 := Lib.hid hv5; clear hl5 hb5 hv5 hB5)
        | (go_at_call 48; (with_reducible refine (HC.out _ A5 m5 c5 us K1.out L5.out N5.out V5.out hm5).mono ?_); rintro e w6 ⟨rfl, hB6⟩; have K2 := Lib.hid (K1.out.below hB6); clear hB6))
    all_goals (
      have Hfin := Lib.hid K2.out.old
      clear K0 K1 K2 HP1 HC L5 N5 V5
      go_wp2_with fail
      go_ret
      exact ⟨rfl, Hfin.out⟩)
end Go.Proofs.YtmmeejofepmgaaaGreatDoor
/- The walk of ratio.above. -/
namespace Go.Proofs.YtmmeejofepmgaaaGreatDoor
open Go.RowKit


end Go.Proofs.YtmmeejofepmgaaaGreatDoor
/- The walks of ratio.split and partial. -/
namespace Go.Proofs.YtmmeejofepmgaaaGreatDoor
open Go.RowKit

theorem Lim.drop {w : World} {b o n c : Nat} {xs : List Nat} (h : Lim w (some ⟨b, o, none⟩) n c xs) {l : Nat} (hn : 0 < n) : Lim w (some ⟨b, o + l, none⟩) (n - l) (c - l) (xs.drop l) := by
  obtain ⟨b', o', e, hb, hc⟩ := h.at_ hn
  obtain ⟨rfl, rfl⟩ : b = b' ∧ o = o' := by
    have := Option.some.inj e
    injection this with e1 e2
    exact ⟨e1, e2⟩
  refine ⟨by rw [List.length_drop, h.len], by have := h.le; omega, fun x hx => h.words x (List.mem_of_mem_drop hx), fun hn2 => ⟨b, o + l, rfl, hb, fun k hk => ?_⟩⟩
  have := hc (l + k) (by omega)
  rw [← Nat.add_assoc] at this
  rw [this, List.getD_eq_getElem?_getD, List.getD_eq_getElem?_getD, List.getElem?_drop]

/-- The two halves of a number. -/
def Splits (w : World) (xs : List Nat) (l : Nat) (e : Ending) (w' : World) : Prop :=
  ∃ A1 c1 A2 c2, e = .returned (.tuple #[.slice A1 l c1, .slice A2 (xs.length - l) c2]) ∧ Lim w' A1 l c1 (xs.take l) ∧ Lim w' A2 (xs.length - l) c2 (xs.drop l) ∧ Below w.heap.size w w'


/-- append(make([]uint64, q), a...). -/
theorem app_noughts (w : World) (A : Option Addr) (n c q : Nat) (ds : List Nat) (hA : Row .u64 w A n c ds) (hn : n ≤ 1000000) (hq : q ≤ 1000000) :
    ∃ A' c' w', (Builtin.append_ #[22, 22] 22 #[.slice (some ⟨w.heap.size, 0, none⟩) q q, .slice A n c]).run Tryz.prog (w.alloc (.cells (madeCells #[.int .u64 0] q) 65)) = .ok (.slice A' (q + n) c') w' ∧
      Own .u64 65 w' w.heap.size (.slice A' (q + n) c') (List.replicate q 0 ++ ds) ∧ Below w.heap.size w w' := by
  have hb : Below w.heap.size w (w.alloc (.cells (madeCells #[.int .u64 0] q) 65)) := (Below.refl _ _).alloc (Nat.le_refl _) _
  have hown : Own .u64 65 (w.alloc (.cells (madeCells #[.int .u64 0] q) 65)) w.heap.size (.slice (some ⟨w.heap.size, 0, none⟩) q q) (List.replicate q 0) := by
    refine ⟨by simp, Or.inr ⟨w.heap.size, q, madeCells #[.int .u64 0] q, by simp, Nat.le_refl _, heap_alloc_new w _, by simp, by unfold maxLen; omega, by rw [size_madeCells]; omega, ?_⟩⟩
    have hr := World.rowIs_made w (.int .u64 0) q 65
    apply List.ext_getElem?
    intro k
    by_cases hk : k < q
    · have hc := hr.cell hk
      rw [cell_of_row _ w.heap.size k (madeCells #[.int .u64 0] q) 65 (0, 0) (heap_alloc_new w _)] at hc
      rw [List.getElem?_take_of_lt (by simpa using hk), Array.getElem?_toList, hc, List.getElem?_map, List.getElem?_replicate, if_pos hk]
      rfl
    · rw [List.getElem?_eq_none (by rw [List.length_take, List.length_replicate]; omega), List.getElem?_eq_none (by simp; omega)]
  obtain ⟨v', w', hrun, ho, hb'⟩ := run_app (P := Tryz.prog) (T := 22) (ty := 22) Tryz.underlying22 info64 hown (hA.below hb) hb.size (by simp; omega) (by simp; omega)
  obtain ⟨A1, c1, rfl, hr⟩ := ho.row
  have el : (List.replicate q 0 ++ ds).length = q + n := by rw [List.length_append, List.length_replicate, hA.len]
  rw [el] at hrun ho
  exact ⟨A1, c1, w', hrun, ho, hb.trans hb'⟩


theorem val_up (q : Nat) (zs : List Nat) : val (List.replicate q 0 ++ zs) = pw q * val zs := by
  rw [val_append, List.length_replicate, val_zeros, Nat.zero_add]
theorem Own.lim {w : World} {B : Nat} {A : Option Addr} {n c : Nat} {zs : List Nat} (h : Own .u64 65 w B (.slice A n c) zs) (hl : zs.length = n) (hw : Words zs) : Lim w A n c zs := by
  obtain ⟨A', c', e, hr⟩ := h.row
  injection e with e1 e2 e3
  subst e1; subst e3
  rw [hl] at hr
  exact hr.toLim hw

/-- A number alone, which may have leading noughts. -/
def TellsL (w : World) (V L : Nat) (e : Ending) (w' : World) : Prop :=
  ∃ A m c zs, e = .returned (.slice A m c) ∧ m ≤ L ∧ Lim w' A m c zs ∧ val zs = V ∧ Below w.heap.size w w'


end Go.Proofs.YtmmeejofepmgaaaGreatDoor
/- The walk of ratio.product. -/
namespace Go.Proofs.YtmmeejofepmgaaaGreatDoor
open Go.RowKit


theorem val_half (xs : List Nat) {f l : Nat} (hl : l = min f xs.length) : val xs = val (xs.take l) + pw f * val (xs.drop l) := by
  rcases Nat.le_total f xs.length with h | h
  · rw [show l = f by omega]; exact val_split xs f h
  · rw [show l = xs.length by omega, List.take_length, List.drop_length]
    show val xs = val xs + pw f * 0
    omega
theorem prod_halves (La Ha Lb Hb f : Nat) : pw 0 * (La * Lb) + pw f * (La * Hb) + pw f * (Ha * Lb) + pw (2 * f) * (Ha * Hb) = (La + pw f * Ha) * (Lb + pw f * Hb) := by
  rw [show 2 * f = f + f by omega, pw_add]
  generalize pw f = p
  show 1 * _ + _ + _ + _ = _
  rw [Nat.add_mul, Nat.mul_add, Nat.mul_add]
  have e1 : p * (La * Hb) = La * (p * Hb) := by rw [← Nat.mul_assoc, ← Nat.mul_assoc, Nat.mul_comm p]
  have e2 : p * (Ha * Lb) = p * Ha * Lb := (Nat.mul_assoc _ _ _).symm
  have e3 : p * p * (Ha * Hb) = p * Ha * (p * Hb) := by
    rw [Nat.mul_assoc, Nat.mul_assoc, ← Nat.mul_assoc p Ha, Nat.mul_comm p Ha, Nat.mul_assoc]
  rw [e1, e2, e3]
  omega


end Go.Proofs.YtmmeejofepmgaaaGreatDoor
/- The walk of dyad.Of from 0 on. -/
namespace Go.Proofs.YtmmeejofepmgaaaGreatDoor
open Go.RowKit

theorem dsize_nat (n : Nat) (hn : n < 9223372036854775808) (w : World) : Calls Tryz.prog 36 #[.int .i64 (n : Int)] w fun e w' => e = .returned (.int .u64 (n : Int)) ∧ w = w' := by
  have b1 : decide ((n : Int) < 0) = false := decide_eq_false (by omega)
  go_enter Tryz.func36, Tryz.ntmps36
  go_wp2
  go_ret
  exact ⟨rfl, rfl⟩

set_option maxHeartbeats 2000000 in
theorem dof_nat (n : Nat) (hn : n < 9223372036854775808) (g : Bool) (V : Nat) (E : Int) (w : World) (hT : Tab w) (hd : mk false n 0 = some ⟨g, V, E⟩) : Calls Tryz.prog 14 #[.int .i64 (n : Int)] w (Tells1 w g V 1 E) := by
  have a3 := below1 w (.cells #[.bool false, .slice none 0 0, .int .i64 0] 32)
  have HT := Lib.hid (hT.below a3)
  have Hb := Lib.hid (Bd.new w 32 false none 0 0 0)
  have HS := Lib.hid a3
  have Hd := Lib.hid hd
  have b1 : decide ((n : Int) < 0) = false := decide_eq_false (by omega)
  clear a3 hT hd
  go_enter Tryz.func14, Tryz.ntmps14
  go_wp2_with fail
  refine (dsize_nat n hn _).mono ?_
  rintro e w' ⟨rfl, rfl⟩
  go_wp2_with fail
  refine (of_any n (by omega) _).mono ?_
  rintro e w1 ⟨A1, m1, c1, zs, rfl, hm1, hl1, hb1, hv1, hB1⟩
  have HM := Lib.hid (make_any false A1 m1 c1 zs 0 w1 hl1 (by omega) (HT.out.below hB1))
  rw [hv1, Hd.out] at HM
  have Hb1 := Lib.hid (Hb.out.below hB1)
  have HS1 := Lib.hid (HS.out.trans (hB1.mono HS.out.size))
  clear hl1 hb1 hv1 hB1 HT Hb HS Hd
  go_wp2_with fail
  refine HM.out.mono ?_
  rintro e w2 ⟨g2, A2, m2, c2, us, E2, r2, rfl, hm2, hl2, hb2, his, hB2⟩
  obtain ⟨rfl, rfl, hz, rfl⟩ := his
  have k2 := Hb1.out.below hB2
  have Hfin : Hid (Tells1 w g2 V 1 E2 (.returned (.agg #[.bool g2, .slice A2 m2 c2, .int .i64 E2])) (World.put (w2.alloc (.cells #[.bool g2, .slice A2 m2 c2, .int .i64 E2] 32)) w.heap.size g2 A2 m2 c2 E2)) :=
    ⟨A2, m2, c2, us, rfl, by omega, (k2.alloc _).lim (hl2.alloc _) _ _ _ _ _, hb2, hz, below_put ((HS1.out.trans (hB2.mono HS1.out.size)).alloc (HS1.out.trans (hB2.mono HS1.out.size)).size _) (Nat.le_refl _) _ _ _ _ _⟩
  have y0 := fun o => (k2.alloc o).c0
  have y1 := fun o => (k2.alloc o).c1
  have y2 := fun o => (k2.alloc o).c2
  have yf := fun o => (k2.alloc o).fz
  clear k2 hB2 hl2 hb2 HM Hb1 HS1 hz
  go_wp2
  exact bodyPost_ret (v := .agg #[.bool g2, .slice A2 m2 c2, .int .i64 E2]) (by simp [results, Tryz.results14, go_sem, y0, y1, y2]) rfl Hfin.out
end Go.Proofs.YtmmeejofepmgaaaGreatDoor
/- The walk of ratio.inverse. -/
namespace Go.Proofs.YtmmeejofepmgaaaGreatDoor
open Go.RowKit

/-- One, against a product, by the tops. -/
theorem pow_blen {V : Nat} (h : V ≠ 0) : 2 ^ (blen V - 1) ≤ V := by
  rcases Nat.lt_or_ge V (2 ^ (blen V - 1)) with h1 | h1
  · have h2 := blen_le_iff.2 h1
    have h3 : blen V ≠ 0 := fun h9 => h (blen_zero_iff.1 h9)
    omega
  · exact h1
theorem inv_high {V U : Nat} {e f : Int} (hV : V ≠ 0) (hU : U ≠ 0) (h : 0 < ((blen V : Int) - 1 + e) + ((blen U : Int) - 1 + f)) : cq 1 0 (V * U) (e + f) = -1 := by
  have h1 := Nat.mul_le_mul (pow_blen hV) (pow_blen hU)
  rw [← Nat.pow_add] at h1
  have n1 : blen V ≠ 0 := fun h9 => hV (blen_zero_iff.1 h9)
  have n2 : blen U ≠ 0 := fun h9 => hU (blen_zero_iff.1 h9)
  unfold cq
  refine cmpZ_lt ?_
  rw [Nat.one_mul]
  have h3 : 2 ^ (0 - (e + f)).toNat < 2 ^ (blen V - 1 + (blen U - 1)) * 2 ^ (e + f - 0).toNat := by
    rw [← Nat.pow_add]
    exact Nat.pow_lt_pow_right (by decide) (by omega)
  exact Nat.lt_of_lt_of_le h3 (Nat.mul_le_mul_right _ h1)
theorem inv_low {V U : Nat} {e f : Int} (hV : V ≠ 0) (hU : U ≠ 0) (h : ((blen V : Int) - 1 + e) + ((blen U : Int) - 1 + f) < -1) : cq 1 0 (V * U) (e + f) = 1 := by
  have h1 : V * U < 2 ^ (blen V + blen U) := by
    rw [Nat.pow_add]
    exact Nat.mul_lt_mul_of_lt_of_lt (lt_blen V) (lt_blen U)
  have n1 : blen V ≠ 0 := fun h9 => hV (blen_zero_iff.1 h9)
  have n2 : blen U ≠ 0 := fun h9 => hU (blen_zero_iff.1 h9)
  unfold cq
  refine cmpZ_gt ?_
  rw [Nat.one_mul, show (e + f - 0).toNat = 0 by omega, Nat.pow_zero, Nat.mul_one]
  exact Nat.lt_of_lt_of_le h1 (Nat.pow_le_pow_right (by decide) (by omega))

/-- Both numbers in their boxes, the product in a block q. -/
def RelI (w : World) (g : Bool) (A : Option Addr) (n c : Nat) (xs : List Nat) (e1 : Int) (k : Bool) (B : Option Addr) (m d : Nat) (ys : List Nat) (e2 : Int) (q : Nat) (A5 : Option Addr) (m5 c5 : Nat) (es : List Nat) (s : Int) (V : Nat) (u : World) : Prop :=
  Held2 w w.heap.size g A n c xs e1 (w.heap.size + 1) k B m d ys e2 u ∧ Bd u q 32 false A5 m5 c5 s ∧ Lim u A5 m5 c5 es ∧ val es = V ∧ m5 ≤ 2001
theorem RelI.below {w : World} {g : Bool} {A : Option Addr} {n c : Nat} {xs : List Nat} {e1 : Int} {k : Bool} {B : Option Addr} {m d : Nat} {ys : List Nat} {e2 : Int} {q : Nat} {A5 : Option Addr} {m5 c5 : Nat} {es : List Nat} {s : Int} {V : Nat} {u u' : World}
    (h : RelI w g A n c xs e1 k B m d ys e2 q A5 m5 c5 es s V u) (hb : Below u.heap.size u u') : RelI w g A n c xs e1 k B m d ys e2 q A5 m5 c5 es s V u' :=
  ⟨h.1.below hb, h.2.1.below hb, h.2.2.1.below hb, h.2.2.2.1, h.2.2.2.2⟩
theorem RelI.three {w : World} {g : Bool} {A : Option Addr} {n c : Nat} {xs : List Nat} {e1 : Int} {k : Bool} {B : Option Addr} {m d : Nat} {ys : List Nat} {e2 : Int} {q : Nat} {A5 : Option Addr} {m5 c5 : Nat} {es : List Nat} {s : Int} {V : Nat} {u : World}
    (h : RelI w g A n c xs e1 k B m d ys e2 q A5 m5 c5 es s V u) : u.cell? ⟨q, 0, none⟩ = some (.bool false) ∧ u.cell? ⟨q, 1, none⟩ = some (.slice A5 m5 c5) ∧ u.cell? ⟨q, 2, none⟩ = some (.int .i64 s) := ⟨h.2.1.c0, h.2.1.c1, h.2.1.c2⟩
theorem RelI.old {w : World} {g : Bool} {A : Option Addr} {n c : Nat} {xs : List Nat} {e1 : Int} {k : Bool} {B : Option Addr} {m d : Nat} {ys : List Nat} {e2 : Int} {q : Nat} {A5 : Option Addr} {m5 c5 : Nat} {es : List Nat} {s : Int} {V : Nat} {u : World}
    (h : RelI w g A n c xs e1 k B m d ys e2 q A5 m5 c5 es s V u) : Below w.heap.size w u := h.1.2.2.2.2.2
theorem Held2.six {w0 : World} {b1 : Nat} {g : Bool} {A : Option Addr} {n c : Nat} {xs : List Nat} {e1 : Int} {b2 : Nat} {k : Bool} {B : Option Addr} {m d : Nat} {ys : List Nat} {e2 : Int} {w : World}
    (h : Held2 w0 b1 g A n c xs e1 b2 k B m d ys e2 w) : Six w b1 g A n c e1 b2 k B m d e2 := h.1.six h.2.1
theorem Held2.lt {w0 : World} {b1 : Nat} {g : Bool} {A : Option Addr} {n c : Nat} {xs : List Nat} {e1 : Int} {b2 : Nat} {k : Bool} {B : Option Addr} {m d : Nat} {ys : List Nat} {e2 : Int} {w : World}
    (h : Held2 w0 b1 g A n c xs e1 b2 k B m d ys e2 w) : b1 < w.heap.size ∧ b2 < w.heap.size := ⟨h.1.lt, h.2.1.lt⟩
theorem Held2.put {w0 : World} {b1 : Nat} {g : Bool} {A : Option Addr} {n c : Nat} {xs : List Nat} {e1 : Int} {b2 : Nat} {k : Bool} {B : Option Addr} {m d : Nat} {ys : List Nat} {e2 : Int} {w : World}
    (h : Held2 w0 b1 g A n c xs e1 b2 k B m d ys e2 w) {q : Nat} (h1 : b1 ≠ q) (h2 : b2 ≠ q) (h3 : w0.heap.size ≤ q) {t : Nat} {g0 : Bool} {A0 : Option Addr} {n0 c0 : Nat} {e0 : Int} (hB : Bd w q t g0 A0 n0 c0 e0) (g' : Bool) (A' : Option Addr) (n' c' : Nat) (e' : Int) :
    Held2 w0 b1 g A n c xs e1 b2 k B m d ys e2 (World.put w q g' A' n' c' e') := by
  obtain ⟨k1, k2, k3, k4, k5, k6⟩ := h
  exact ⟨k1.other h1 _ _ _ _ _, k2.other h2 _ _ _ _ _, hB.lim k3 _ _ _ _ _, hB.lim k4 _ _ _ _ _, hB.tab k5 _ _ _ _ _, below_put k6 h3 _ _ _ _ _⟩


end Go.Proofs.YtmmeejofepmgaaaGreatDoor
/- The walk of ratio.Cmp. -/
namespace Go.Proofs.YtmmeejofepmgaaaGreatDoor
open Go.RowKit

/-- What Cmp tells of what Bare tells: the answer and the error. -/
def cmpR (o1 : Option Dy) (m : Int) (o2 : Option Dy) (k : Int) : Int × Int :=
  match o1, o2 with
  | some x, some b => if 0 < sgD x.neg x.V ∧ 0 < sgD b.neg b.V ∧ 1 ≤ k then (if fitB x.V x.e m && fitB b.V b.e k then (ratC x.V x.e m b.V b.e k.toNat, 0) else (0, 2)) else (0, 1)
  | _, _ => (0, 1)
theorem sgD_above {g : Bool} {V : Nat} (h : 0 < sgD g V) : V ≠ 0 ∧ g = false := by
  unfold sgD at h
  split at h
  · exact absurd h (by decide)
  · cases g
    · exact ⟨by assumption, rfl⟩
    · exact absurd h (by decide)

theorem power_pos (V : Nat) (E : Int) (A : Option Addr) (n c : Nat) (zs : List Nat) (m : Nat) (w : World) (hA : Lim w A n c zs) (hn : n ≤ 1000000) (hT : Tab w) (hz : val zs = V) (hodd : V % 2 = 1) (hm : m ≤ 9223372036854775807) (hf1 : blen V * m ≤ 60000) (hf2 : E.natAbs * m ≤ 60000) :
    Calls Tryz.prog 74 #[.agg #[.bool false, .slice A n c, .int .i64 E], .int .i64 (m : Int)] w (Tells1 w false (V ^ m) 998 (E * m)) := by
  refine (power_any ⟨false, V, E⟩ A n c zs m w hA hn hT hz (Or.inl ⟨V / 2, by show V = _; omega⟩) hm hf1 hf2).mono ?_
  rintro e w' ⟨A1, m1, c1, us, he, hm1, hl, hb, hv, hB⟩
  refine ⟨A1, m1, c1, us, he, ?_, hl, hb, hv, hB⟩
  have h1 : blen (val us) ≤ 60001 := by rw [hv]; exact blen_pow_fit hf1
  rw [← hl.len]
  exact len_of_blen hl.words hb h1 (by decide)

section
variable {w0 : World} {b1 : Nat} {g : Bool} {A : Option Addr} {n c : Nat} {xs : List Nat} {e1 : Int} {b2 : Nat} {k : Bool} {B : Option Addr} {m d : Nat} {ys : List Nat} {e2 : Int} {w : World}
theorem Held2.turn1 (h : Held2 w0 b1 g A n c xs e1 b2 k B m d ys e2 w) (hne : b2 ≠ b1) (hb : w0.heap.size ≤ b1) {A' : Option Addr} {n' c' : Nat} {xs' : List Nat} (hl : Lim w A' n' c' xs') (g' : Bool) (e' : Int) : Held2 w0 b1 g' A' n' c' xs' e' b2 k B m d ys e2 (World.put w b1 g' A' n' c' e') :=
  ⟨h.1.put _ _ _ _ _, h.2.1.other hne _ _ _ _ _, h.1.lim hl _ _ _ _ _, h.1.lim h.2.2.2.1 _ _ _ _ _, h.1.tab h.2.2.2.2.1 _ _ _ _ _, below_put h.2.2.2.2.2 hb _ _ _ _ _⟩
theorem Held2.turn2 (h : Held2 w0 b1 g A n c xs e1 b2 k B m d ys e2 w) (hne : b1 ≠ b2) (hb : w0.heap.size ≤ b2) {A' : Option Addr} {n' c' : Nat} {xs' : List Nat} (hl : Lim w A' n' c' xs') (g' : Bool) (e' : Int) : Held2 w0 b1 g A n c xs e1 b2 g' A' n' c' xs' e' (World.put w b2 g' A' n' c' e') :=
  ⟨h.1.other hne _ _ _ _ _, h.2.1.put _ _ _ _ _, h.2.1.lim h.2.2.1 _ _ _ _ _, h.2.1.lim hl _ _ _ _ _, h.2.1.tab h.2.2.2.2.1 _ _ _ _ _, below_put h.2.2.2.2.2 hb _ _ _ _ _⟩
theorem Held2.old (h : Held2 w0 b1 g A n c xs e1 b2 k B m d ys e2 w) : Below w0.heap.size w0 w := h.2.2.2.2.2
theorem Held2.lim1 (h : Held2 w0 b1 g A n c xs e1 b2 k B m d ys e2 w) : Lim w A n c xs := h.2.2.1
theorem Held2.lim2 (h : Held2 w0 b1 g A n c xs e1 b2 k B m d ys e2 w) : Lim w B m d ys := h.2.2.2.1
theorem Held2.tab_ (h : Held2 w0 b1 g A n c xs e1 b2 k B m d ys e2 w) : Tab w := h.2.2.2.2.1
end


end Go.Proofs.YtmmeejofepmgaaaGreatDoor
/- The law's example. -/
namespace Go.Proofs.YtmmeejofepmgaaaGreatDoor
open Go.RowKit

theorem alive_one : cmpR (mk false 1 1) 10 (mk false 125 3) 1 = (1, 0) := by decide
theorem alive_two : cmpR (mk false 1 1) 10 (mk false 0 0) 1 = (0, 1) := by decide

end Go.Proofs.YtmmeejofepmgaaaGreatDoor
/- Words for two numbers of the document that are laid into new blocks, in whatever order the blocks came; two dyads of a law in their boxes. -/
namespace Go.Proofs.YtmmeejofepmgaaaGreatDoor
open Go.RowKit

/-- Digits of a value. -/
def Mg (w : World) (V : Nat) (A : Option Addr) (m c : Nat) (es : List Nat) : Prop := Dig w A m c es ∧ D.Bare es ∧ D.val es = V
theorem Mg.below {w w' : World} {V : Nat} {A : Option Addr} {m c : Nat} {es : List Nat} (h : Mg w V A m c es) (hb : Below w.heap.size w w') : Mg w' V A m c es := ⟨h.1.below hb, h.2⟩
theorem Mg.put {w : World} {V : Nat} {A : Option Addr} {m c : Nat} {es : List Nat} (h : Mg w V A m c es) {p t : Nat} {g0 : Bool} {A0 : Option Addr} {n0 c0 : Nat} {e0 : Int} (hb : Bd w p t g0 A0 n0 c0 e0) (g : Bool) (A' : Option Addr) (n' c' : Nat) (e : Int) : Mg (World.put w p g A' n' c' e) V A m c es := ⟨hb.dig h.1 _ _ _ _ _, h.2⟩
theorem below_2 (w : World) (o1 o2 : Obj) : Below w.heap.size w ((w.alloc o1).alloc o2) := ((Below.refl _ _).alloc (Nat.le_refl _) _).alloc (by simp) _

/-- New blocks, each with a number that is 0 yet; the newest first. -/
def HoldV (u0 : World) (bs : List Nat) (w : World) : Prop :=
  Below u0.heap.size u0 w ∧ (∀ p ∈ bs, Bd w p 30 false none 0 0 0 ∧ u0.heap.size ≤ p) ∧ bs.Pairwise (fun x y => y < x)
section
variable {u0 : World} {bs : List Nat} {w w' : World}
theorem HoldV.below (hh : HoldV u0 bs w) (hb : Below w.heap.size w w') : HoldV u0 bs w' :=
  ⟨hh.1.trans (hb.mono hh.1.size), fun p hp => ⟨(hh.2.1 p hp).1.below hb, (hh.2.1 p hp).2⟩, hh.2.2⟩
theorem HoldV.one (hh : HoldV u0 bs w) : HoldV u0 (w.heap.size :: bs) (w.alloc (.cells #[.bool false, .slice none 0 0, .int .i64 0] 30)) := by
  have h2 := hh.below (below1 w (.cells #[.bool false, .slice none 0 0, .int .i64 0] 30))
  refine ⟨h2.1, fun p hp => ?_, ?_⟩
  · rcases List.mem_cons.1 hp with rfl | hp
    · exact ⟨Bd.new w _ _ _ _ _ _, hh.1.size⟩
    · exact h2.2.1 p hp
  · exact List.pairwise_cons.2 ⟨fun p hp => (hh.2.1 p hp).1.lt, hh.2.2⟩
theorem HoldV.two (hh : HoldV u0 bs w) : HoldV u0 ((w.heap.size + 1) :: w.heap.size :: bs) ((w.alloc (.cells #[.bool false, .slice none 0 0, .int .i64 0] 30)).alloc (.cells #[.bool false, .slice none 0 0, .int .i64 0] 30)) := by
  have h2 := hh.one.one
  rw [World.size_alloc] at h2
  exact h2
theorem HoldV.start (u0 : World) : HoldV u0 [] u0 := ⟨Below.refl _ _, fun _ hp => absurd hp (List.not_mem_nil), List.Pairwise.nil⟩
theorem HoldV.old (hh : HoldV u0 bs w) : Below u0.heap.size u0 w := hh.1
theorem HoldV.first {X : Nat} (hh : HoldV u0 (X :: bs) w) : Bd w X 30 false none 0 0 0 := (hh.2.1 X (List.mem_cons.2 (Or.inl rfl))).1
theorem HoldV.second {X Y : Nat} (hh : HoldV u0 (Y :: X :: bs) w) : Bd w X 30 false none 0 0 0 ∧ X < Y :=
  ⟨(hh.2.1 X (List.mem_cons.2 (Or.inr (List.mem_cons.2 (Or.inl rfl))))).1, (List.pairwise_cons.1 hh.2.2).1 X (List.mem_cons.2 (Or.inl rfl))⟩
theorem HoldV.a1 (hh : HoldV u0 bs w) (o : Obj) : Below u0.heap.size u0 (w.alloc o) := hh.1.alloc hh.1.size o
theorem HoldV.a2 (hh : HoldV u0 bs w) (o1 o2 : Obj) : Below u0.heap.size u0 ((w.alloc o1).alloc o2) := (hh.1.alloc hh.1.size o1).alloc (hh.1.alloc hh.1.size o1).size o2
variable {X Y : Nat}
theorem HoldV.at1 (hh : HoldV u0 (X :: bs) w) (g : Bool) (A : Option Addr) (n c : Nat) (e : Int) : Below u0.heap.size u0 (World.put w X g A n c e) :=
  below_put hh.1 (hh.2.1 X (List.mem_cons.2 (Or.inl rfl))).2 _ _ _ _ _
theorem HoldV.at1a (hh : HoldV u0 (X :: bs) w) (g : Bool) (A : Option Addr) (n c : Nat) (e : Int) (o : Obj) : Below u0.heap.size u0 ((World.put w X g A n c e).alloc o) := (hh.at1 g A n c e).alloc (hh.at1 g A n c e).size o
theorem HoldV.at2 (hh : HoldV u0 (Y :: X :: bs) w) (g : Bool) (A : Option Addr) (n c : Nat) (e : Int) : Below u0.heap.size u0 (World.put w X g A n c e) :=
  below_put hh.1 (hh.2.1 X (List.mem_cons.2 (Or.inr (List.mem_cons.2 (Or.inl rfl))))).2 _ _ _ _ _
theorem HoldV.at12 (hh : HoldV u0 (Y :: X :: bs) w) (g : Bool) (A : Option Addr) (n c : Nat) (e : Int) (g' : Bool) (A' : Option Addr) (n' c' : Nat) (e' : Int) : Below u0.heap.size u0 (World.put (World.put w Y g A n c e) X g' A' n' c' e') :=
  below_put (hh.at1 g A n c e) (hh.2.1 X (List.mem_cons.2 (Or.inr (List.mem_cons.2 (Or.inl rfl))))).2 _ _ _ _ _
theorem HoldV.at21 (hh : HoldV u0 (Y :: X :: bs) w) (g : Bool) (A : Option Addr) (n c : Nat) (e : Int) (g' : Bool) (A' : Option Addr) (n' c' : Nat) (e' : Int) : Below u0.heap.size u0 (World.put (World.put w X g A n c e) Y g' A' n' c' e') :=
  below_put (hh.at2 g A n c e) (hh.2.1 Y (List.mem_cons.2 (Or.inl rfl))).2 _ _ _ _ _
end
/-- Two numbers in new blocks. -/
def RelV (u0 : World) (p : Nat) (g1 : Bool) (A1 : Option Addr) (m1 c1 : Nat) (E1 : Int) (V1 : Nat) (es1 : List Nat) (q : Nat) (g2 : Bool) (A2 : Option Addr) (m2 c2 : Nat) (E2 : Int) (V2 : Nat) (es2 : List Nat) (w : World) : Prop :=
  Below u0.heap.size u0 w ∧ Bd w p 30 g1 A1 m1 c1 E1 ∧ Mg w V1 A1 m1 c1 es1 ∧ Bd w q 30 g2 A2 m2 c2 E2 ∧ Mg w V2 A2 m2 c2 es2
section
variable {u0 : World} {g1 : Bool} {A1 : Option Addr} {m1 c1 : Nat} {E1 : Int} {V1 : Nat} {es1 : List Nat} {g2 : Bool} {A2 : Option Addr} {m2 c2 : Nat} {E2 : Int} {V2 : Nat} {es2 : List Nat} {w w' : World} {p q : Nat}
theorem RelV.swap (hh : RelV u0 p g1 A1 m1 c1 E1 V1 es1 q g2 A2 m2 c2 E2 V2 es2 w) : RelV u0 q g2 A2 m2 c2 E2 V2 es2 p g1 A1 m1 c1 E1 V1 es1 w :=
  ⟨hh.1, hh.2.2.2.1, hh.2.2.2.2, hh.2.1, hh.2.2.1⟩
theorem RelV.below (hh : RelV u0 p g1 A1 m1 c1 E1 V1 es1 q g2 A2 m2 c2 E2 V2 es2 w) (hb : Below w.heap.size w w') : RelV u0 p g1 A1 m1 c1 E1 V1 es1 q g2 A2 m2 c2 E2 V2 es2 w' :=
  ⟨hh.1.trans (hb.mono hh.1.size), hh.2.1.below hb, hh.2.2.1.below hb, hh.2.2.2.1.below hb, hh.2.2.2.2.below hb⟩
theorem RelV.six (hh : RelV u0 p g1 A1 m1 c1 E1 V1 es1 q g2 A2 m2 c2 E2 V2 es2 w) : Six w p g1 A1 m1 c1 E1 q g2 A2 m2 c2 E2 := hh.2.1.six hh.2.2.2.1
theorem RelV.mem1 (hh : RelV u0 p g1 A1 m1 c1 E1 V1 es1 q g2 A2 m2 c2 E2 V2 es2 w) : Mg w V1 A1 m1 c1 es1 := hh.2.2.1
theorem RelV.mem2 (hh : RelV u0 p g1 A1 m1 c1 E1 V1 es1 q g2 A2 m2 c2 E2 V2 es2 w) : Mg w V2 A2 m2 c2 es2 := hh.2.2.2.2
theorem RelV.old (hh : RelV u0 p g1 A1 m1 c1 E1 V1 es1 q g2 A2 m2 c2 E2 V2 es2 w) : Below u0.heap.size u0 w := hh.1
/-- Both blocks came last. -/
theorem RelV.new2 (hh : HoldV u0 [] w) (h1 : Mg w V1 A1 m1 c1 es1) (h2 : Mg w V2 A2 m2 c2 es2) :
    RelV u0 w.heap.size g1 A1 m1 c1 E1 V1 es1 (w.heap.size + 1) g2 A2 m2 c2 E2 V2 es2 ((w.alloc (.cells #[.bool g1, .slice A1 m1 c1, .int .i64 E1] 30)).alloc (.cells #[.bool g2, .slice A2 m2 c2, .int .i64 E2] 30)) := by
  have hb := below_2 w (.cells #[.bool g1, .slice A1 m1 c1, .int .i64 E1] 30) (.cells #[.bool g2, .slice A2 m2 c2, .int .i64 E2] 30)
  have b2 := Bd.new (w.alloc (.cells #[.bool g1, .slice A1 m1 c1, .int .i64 E1] 30)) 30 g2 A2 m2 c2 E2
  rw [World.size_alloc] at b2
  exact ⟨hh.1.trans (hb.mono hh.1.size), (Bd.new w _ _ _ _ _ _).alloc _, h1.below hb, b2, h2.below hb⟩
/-- One came ahead. -/
theorem RelV.new1 {X : Nat} (hh : HoldV u0 [X] w) (h1 : Mg w V1 A1 m1 c1 es1) (h2 : Mg w V2 A2 m2 c2 es2) :
    RelV u0 X g1 A1 m1 c1 E1 V1 es1 w.heap.size g2 A2 m2 c2 E2 V2 es2 ((World.put w X g1 A1 m1 c1 E1).alloc (.cells #[.bool g2, .slice A2 m2 c2, .int .i64 E2] 30)) := by
  obtain ⟨k1, k2⟩ := hh.2.1 X (List.mem_cons.2 (Or.inl rfl))
  have e1 := below_put hh.1 k2 g1 A1 m1 c1 E1
  have hb := below1 (World.put w X g1 A1 m1 c1 E1) (.cells #[.bool g2, .slice A2 m2 c2, .int .i64 E2] 30)
  have b2 := Bd.new (World.put w X g1 A1 m1 c1 E1) 30 g2 A2 m2 c2 E2
  rw [put_size] at b2
  exact ⟨e1.trans (hb.mono e1.size), (k1.put _ _ _ _ _).below hb, (h1.put k1 _ _ _ _ _).below hb, b2, (h2.put k1 _ _ _ _ _).below hb⟩
/-- Both came ahead. -/
theorem RelV.new0 {X Y : Nat} (hh : HoldV u0 [Y, X] w) (h1 : Mg w V1 A1 m1 c1 es1) (h2 : Mg w V2 A2 m2 c2 es2) :
    RelV u0 X g1 A1 m1 c1 E1 V1 es1 Y g2 A2 m2 c2 E2 V2 es2 (World.put (World.put w X g1 A1 m1 c1 E1) Y g2 A2 m2 c2 E2) ∧
    RelV u0 X g1 A1 m1 c1 E1 V1 es1 Y g2 A2 m2 c2 E2 V2 es2 (World.put (World.put w Y g2 A2 m2 c2 E2) X g1 A1 m1 c1 E1) := by
  obtain ⟨x1, x2⟩ := hh.2.1 X (List.mem_cons.2 (Or.inr (List.mem_cons.2 (Or.inl rfl))))
  obtain ⟨y1, y2⟩ := hh.2.1 Y (List.mem_cons.2 (Or.inl rfl))
  have hXY := (List.pairwise_cons.1 hh.2.2).1 X (List.mem_cons.2 (Or.inl rfl))
  constructor
  · have q1 := x1.put g1 A1 m1 c1 E1
    have q2 := y1.other (b' := X) (by omega) g1 A1 m1 c1 E1
    exact ⟨below_put (below_put hh.1 x2 _ _ _ _ _) y2 _ _ _ _ _, q1.other (by omega) _ _ _ _ _, (h1.put x1 _ _ _ _ _).put q2 _ _ _ _ _, q2.put _ _ _ _ _, (h2.put x1 _ _ _ _ _).put q2 _ _ _ _ _⟩
  · have q1 := y1.put g2 A2 m2 c2 E2
    have q2 := x1.other (b' := Y) (by omega) g2 A2 m2 c2 E2
    exact ⟨below_put (below_put hh.1 y2 _ _ _ _ _) x2 _ _ _ _ _, q2.put _ _ _ _ _, (h1.put y1 _ _ _ _ _).put q2 _ _ _ _ _, q1.other (by omega) _ _ _ _ _, (h2.put y1 _ _ _ _ _).put q2 _ _ _ _ _⟩
end

/-- Two dyads of a law in their boxes. -/
def HeldX (w0 : World) (b1 : Nat) (g : Bool) (A : Option Addr) (n c : Nat) (xs : List Nat) (e1 : Int) (b2 : Nat) (k : Bool) (B : Option Addr) (m d : Nat) (ys : List Nat) (e2 : Int) (w : World) : Prop :=
  Bd w b1 24 g A n c e1 ∧ Bd w b2 24 k B m d e2 ∧ Lim w A n c xs ∧ Lim w B m d ys ∧ Tab w ∧ Below w0.heap.size w0 w
section
variable {w0 : World} {b1 : Nat} {g : Bool} {A : Option Addr} {n c : Nat} {xs : List Nat} {e1 : Int} {b2 : Nat} {k : Bool} {B : Option Addr} {m d : Nat} {ys : List Nat} {e2 : Int} {w w' : World}
theorem HeldX.below (h : HeldX w0 b1 g A n c xs e1 b2 k B m d ys e2 w) (hb : Below w.heap.size w w') : HeldX w0 b1 g A n c xs e1 b2 k B m d ys e2 w' := by
  obtain ⟨h1, h2, h3, h4, h5, h6⟩ := h
  exact ⟨h1.below hb, h2.below hb, h3.below hb, h4.below hb, h5.below hb, h6.trans (hb.mono h6.size)⟩
theorem HeldX.six (h : HeldX w0 b1 g A n c xs e1 b2 k B m d ys e2 w) : Six w b1 g A n c e1 b2 k B m d e2 := h.1.six h.2.1
theorem HeldX.lim1 (h : HeldX w0 b1 g A n c xs e1 b2 k B m d ys e2 w) : Lim w A n c xs := h.2.2.1
theorem HeldX.lim2 (h : HeldX w0 b1 g A n c xs e1 b2 k B m d ys e2 w) : Lim w B m d ys := h.2.2.2.1
theorem HeldX.tab_ (h : HeldX w0 b1 g A n c xs e1 b2 k B m d ys e2 w) : Tab w := h.2.2.2.2.1
theorem HeldX.old (h : HeldX w0 b1 g A n c xs e1 b2 k B m d ys e2 w) : Below w0.heap.size w0 w := h.2.2.2.2.2
theorem HeldX.start (w : World) (g : Bool) (A : Option Addr) (n c : Nat) (xs : List Nat) (e1 : Int) (k : Bool) (B : Option Addr) (m d : Nat) (ys : List Nat) (e2 : Int) (hA : Lim w A n c xs) (hB : Lim w B m d ys) (hT : Tab w) :
    HeldX w w.heap.size g A n c xs e1 (w.heap.size + 1) k B m d ys e2 ((w.alloc (.cells #[.bool g, .slice A n c, .int .i64 e1] 24)).alloc (.cells #[.bool k, .slice B m d, .int .i64 e2] 24)) := by
  have a3 := below_2 w (.cells #[.bool g, .slice A n c, .int .i64 e1] 24) (.cells #[.bool k, .slice B m d, .int .i64 e2] 24)
  have b2 := Bd.new (w.alloc (.cells #[.bool g, .slice A n c, .int .i64 e1] 24)) 24 k B m d e2
  rw [World.size_alloc] at b2
  exact ⟨(Bd.new w _ _ _ _ _ _).alloc _, b2, hA.below a3, hB.below a3, hT.below a3, a3⟩
end
end Go.Proofs.YtmmeejofepmgaaaGreatDoor
/- The walk of planimeterref05.To of a number of at most 197 digits that isn't 0. -/
namespace Go.Proofs.YtmmeejofepmgaaaGreatDoor
open Go.RowKit

theorem RelTf.of {w : World} {g : Bool} {V : Nat} {E : Int} {A : Option Addr} {m c : Nat} {ds : List Nat} {u : World} (dg : Bool) (dE : Int) (h : HoldT w g A m c ds E u) {p : Nat} (hp : w.heap.size + 1 < p) {g0 : Bool} {A0 : Option Addr} {n0 c0 : Nat} {e0 : Int} (hB : Bd u p 30 g0 A0 n0 c0 e0) {A5 : Option Addr} {m5 c5 : Nat} {es : List Nat} (hl : Dig u A5 m5 c5 es) (hd : D.Bare es) (hv : D.val es = V) (hm : m5 ≤ 200) : RelT w dg V dE p A5 m5 c5 es (World.put u p dg A5 m5 c5 dE) :=
  ⟨hB.put _ _ _ _ _, h.2.1.other (by omega) _ _ _ _ _, hB.dig hl _ _ _ _ _, hd, hv, hm, hp, below_put h.2.2.2 (by omega) _ _ _ _ _⟩

set_option maxHeartbeats 4000000 in
theorem rto_far (g : Bool) (V : Nat) (E : Int) (dg : Bool) (dV : Nat) (dE : Int) (A : Option Addr) (m c : Nat) (ds : List Nat) (w : World) (hA : Dig w A m c ds) (hd : D.Bare ds) (hv : D.val ds = V) (hm : m ≤ 197) (hN : nO g V E = ⟨dg, dV, dE⟩) (hV0 : dV ≠ 0) (hE1 : -1073741824 ≤ dE) (hE2 : dE ≤ 1073741824) :
    Calls Tryz.prog 12 #[.agg #[.bool g, .slice A m c, .int .i64 E]] w (TTold w ⟨dg, dV, dE⟩ 50) := by
  have a3 : Below w.heap.size w ((w.alloc (.cells #[.bool g, .slice A m c, .int .i64 E] 30)).alloc (.cells #[.bool false, .slice none 0 0, .int .i64 0] 24)) := ((Below.refl _ _).alloc (Nat.le_refl _) _).alloc (by simp) _
  have b1 := (Bd.new w 30 g A m c E).alloc (.cells #[.bool false, .slice none 0 0, .int .i64 0] 24)
  have b2 := Bd.new (w.alloc (.cells #[.bool g, .slice A m c, .int .i64 E] 30)) 24 false none 0 0 0
  rw [World.size_alloc] at b2
  have h0 : HoldT w g A m c ds E ((w.alloc (.cells #[.bool g, .slice A m c, .int .i64 E] 30)).alloc (.cells #[.bool false, .slice none 0 0, .int .i64 0] 24)) := ⟨b1, b2, hA.below a3, a3⟩
  have F0 := Lib.hid (h0.below (below_drew _))
  have F0c := Lib.hid F0.out.cells
  have F1 := Lib.hid ((h0.below (below1 _ (.cells #[.bool false, .slice none 0 0, .int .i64 0] 30))).below (below_drew _))
  have F1c := Lib.hid F1.out.cells
  have z1 := Bd.new ((w.alloc (.cells #[.bool g, .slice A m c, .int .i64 E] 30)).alloc (.cells #[.bool false, .slice none 0 0, .int .i64 0] 24)) 30 false none 0 0 0
  rw [World.size_alloc, World.size_alloc] at z1
  have Z1 := Lib.hid z1.drew
  have HL : Hid (∀ u, HoldT w g A m c ds E u → Calls Tryz.prog 32 #[.slice A m c] u (Tells u V ((m + 3) / 4))) := fun u hu => by
    have := limbs_t A m c ds u hu.2.2.1 hd (by omega)
    rw [hv] at this
    exact this
  have HO : Hid (∀ u A1 m1 c1 zs, Lim u A1 m1 c1 zs → val zs = V → m1 ≤ 50 → Calls Tryz.prog 5 #[.agg #[.bool g, .slice A1 m1 c1, .int .i64 E]] u (NTold u ⟨dg, dV, dE⟩ (4 * m1))) := fun u A1 m1 c1 zs h1 h2 h3 => by
    have := rof_any g A1 m1 c1 zs E u h1 (by omega)
    rw [h2, hN] at this
    exact this
  clear a3 b1 b2 hA h0 z1 hN hd hv
  go_enter Tryz.func12, Tryz.ntmps12
  go_wp2_with fail
  go_cut [4] from 5 (fun s4 wx => ∃ (p m5 c5 : Nat) (A5 : Option Addr) (es : List Nat), s4 = .pointer (some ⟨p, 0, none⟩) ∧ Hid (RelT w dg dV dE p A5 m5 c5 es wx))
  case first =>
    go_region_held3 (fun w' => w'.cell? ⟨w.heap.size, 0, none⟩ = some (.bool g) ∧ w'.cell? ⟨w.heap.size, 1, none⟩ = some (.slice A m c) ∧ w'.cell? ⟨w.heap.size, 2, none⟩ = some (.int .i64 E))
      (first | (with_reducible exact F0c.out) | (with_reducible exact F1c.out) | (with_reducible exact K1.out) | (with_reducible exact K1a.out _) | (with_reducible exact K2.out) | (with_reducible exact K2a.out _) | (with_reducible exact K2b.out))
      (first
        | (go_at_call 32; (with_reducible refine (HL.out _ F0.out).mono ?_); rintro e w1 ⟨A1, m1, c1, zs, rfl, hm1, hl1, hb1, hv1, hB1⟩; have h1 := F0.out.below hB1; have K1 := Lib.hid h1.cells; have K1a : Hid (∀ o, CellsT w g A m c E (w1.alloc o)) := fun o => (h1.below (below1 _ o)).cells; have h1 := Lib.hid h1; have L1 : Hid (Lim w1 A1 m1 c1 zs ∧ val zs = V) := ⟨hl1, hv1⟩; clear hl1 hb1 hv1 hB1)
        | (go_at_call 32; (with_reducible refine (HL.out _ F1.out).mono ?_); rintro e w1 ⟨A1, m1, c1, zs, rfl, hm1, hl1, hb1, hv1, hB1⟩; have g1 := F1.out.below hB1; have K1 := Lib.hid g1.cells; have G1 := Lib.hid (Z1.out.below hB1); have g1 := Lib.hid g1; have M1 : Hid (Lim w1 A1 m1 c1 zs ∧ val zs = V) := ⟨hl1, hv1⟩; clear hl1 hb1 hv1 hB1)
        | (go_at_call 5; (with_reducible refine (HO.out w1 A1 m1 c1 zs L1.out.1 L1.out.2 (by omega)).mono ?_); rintro e w2 ⟨A2, m2, c2, es, rfl, hm2, hl2, hd2, hv2, hB2⟩; have h2 := h1.out.below hB2; have K2 := Lib.hid h2.cells; have K2a : Hid (∀ o, CellsT w g A m c E (w2.alloc o)) := fun o => (h2.below (below1 _ o)).cells; have hsz : w.heap.size + 1 < w2.heap.size := h2.2.1.lt; have q2 := h2.below (below1 _ (.cells #[.bool false, .slice none 0 0, .int .i64 0] 30)); have z2 := Bd.new w2 30 false none 0 0 0; have u0 := z2.c0; have u1 := z2.c1; have u2 := z2.c2; have uf := z2.fz; have K2b := Lib.hid (q2.put hsz z2 dg A2 m2 c2 dE).cells; have Fin0 : Hid (RelT w dg dV dE w2.heap.size A2 m2 c2 es (w2.alloc (.cells #[.bool dg, .slice A2 m2 c2, .int .i64 dE] 30))) := ⟨Bd.new w2 _ _ _ _ _ _, h2.2.1.alloc _, hl2.alloc _, hd2, hv2, by omega, hsz, h2.2.2.2.trans ((below1 w2 _).mono h2.2.2.2.size)⟩; clear q2 z2 hl2 hd2 hv2 hB2 h2)
        | (go_at_call 5; (with_reducible refine (HO.out (w1.alloc (.cells #[.bool false, .slice none 0 0, .int .i64 0] 30)) A1 m1 c1 zs (L1.out.1.alloc _) L1.out.2 (by omega)).mono ?_); rintro e w2 ⟨A2, m2, c2, es, rfl, hm2, hl2, hd2, hv2, hB2⟩; have h2 := (h1.out.below (below1 _ (.cells #[.bool false, .slice none 0 0, .int .i64 0] 30))).below hB2; have K2 := Lib.hid h2.cells; have hsz : w.heap.size + 1 < w1.heap.size := h1.out.2.1.lt; have z2 := (Bd.new w1 30 false none 0 0 0).below hB2; have u0 := z2.c0; have u1 := z2.c1; have u2 := z2.c2; have uf := z2.fz; have K2b := Lib.hid (h2.put hsz z2 dg A2 m2 c2 dE).cells; have Fin1 := Lib.hid (RelTf.of dg dE h2 hsz z2 hl2 hd2 hv2 (by omega)); clear z2 hl2 hd2 hv2 hB2 h2)
        | (go_at_call 5; (with_reducible refine (HO.out w1 A1 m1 c1 zs M1.out.1 M1.out.2 (by omega)).mono ?_); rintro e w2 ⟨A2, m2, c2, es, rfl, hm2, hl2, hd2, hv2, hB2⟩; have h2 := g1.out.below hB2; have K2 := Lib.hid h2.cells; have hsz : w.heap.size + 1 < w.heap.size + 1 + 1 := Nat.lt_succ_self _; have z2 := G1.out.below hB2; have u0 := z2.c0; have u1 := z2.c1; have u2 := z2.c2; have uf := z2.fz; have K2b := Lib.hid (h2.put hsz z2 dg A2 m2 c2 dE).cells; have Fin1 := Lib.hid (RelTf.of dg dE h2 hsz z2 hl2 hd2 hv2 (by omega)); clear z2 hl2 hd2 hv2 hB2 h2))
    all_goals (go_wp2_with fail)
    all_goals go_meet
    all_goals (refine ⟨_, m2, c2, A2, es, rfl, ?_⟩)
    all_goals (first | (with_reducible exact Fin1) | (with_reducible exact Fin0))
  case rest =>
    obtain ⟨wA, rfl⟩ : ∃ wA, wA = wc := ⟨_, rfl⟩
    obtain ⟨p, m5, c5, A5, es, rfl, HR⟩ := hcut
    have x0 := HR.out.1.c0
    have x1 := HR.out.1.c1
    have x2 := HR.out.1.c2
    clear F0 F0c F1 F1c Z1 HL HO
    go_wp2_with fail
    refine (fits_yes dg A5 m5 c5 dE wA hE1 hE2).mono ?_
    rintro e w2 ⟨rfl, hB2⟩
    have HR2 := Lib.hid (HR.out.below hB2)
    have y0 := HR2.out.1.c0
    have y1 := HR2.out.1.c1
    have y2 := HR2.out.1.c2
    have z0 := HR2.out.2.1.c0
    have z1 := HR2.out.2.1.c1
    have z2 := HR2.out.2.1.c2
    have zf := HR2.out.2.1.fz
    have hV5 := HR2.out.2.2.2.2.1
    have hL5 := HR2.out.2.2.1.len
    have hm5 := HR2.out.2.2.2.2.2.1
    clear HR hB2 x0 x1 x2
    have hm0 : m5 ≠ 0 := by
      intro h
      apply hV0
      rw [← hV5]
      rw [h] at hL5
      rw [List.eq_nil_of_length_eq_zero hL5]; rfl
    have c0 : ((m5 : Int) == 0) = false := beq_no (by omega)
    have h9 := HR2.out.below (below_drew _)
    have H9 := limbs_t A5 m5 c5 es _ h9.2.2.1 h9.2.2.2.1 (by omega)
    rw [hV5] at H9
    have H9 := Lib.hid H9
    have K0 := Lib.hid (And.intro h9.1.c0 (And.intro h9.1.c1 h9.1.c2))
    have h9 := Lib.hid h9
    clear hV5 hL5 hV0 hm0
    go_wp2_with fail
    go_region_held3 (fun w' => w'.cell? ⟨p, 0, none⟩ = some (.bool dg) ∧ w'.cell? ⟨p, 1, none⟩ = some (.slice A5 m5 c5) ∧ w'.cell? ⟨p, 2, none⟩ = some (.int .i64 dE))
      (first | (with_reducible exact K0.out) | (with_reducible exact K1.out) | (with_reducible exact K2.out))
      (first | (go_at_call 32; (with_reducible refine H9.out.mono ?_); rintro e w3 ⟨A6, m6, c6, zs, rfl, hm6, hl6, hb6, hv6, hB6⟩; have h3 := h9.out.below hB6; have K1 := Lib.hid (And.intro h3.1.c0 (And.intro h3.1.c1 h3.1.c2)); have q3 := h3.1.other (b' := w.heap.size + 1) (by have := h3.2.2.2.2.2.2.1; omega) dg A6 m6 c6 dE; have K2 := Lib.hid (And.intro q3.c0 (And.intro q3.c1 q3.c2)); have u0 := h3.2.1.c0; have u1 := h3.2.1.c1; have u2 := h3.2.1.c2; have uf := h3.2.1.fz; have Hfin : Hid (TTold w ⟨dg, dV, dE⟩ 50 (.returned (.tuple #[.agg #[.bool dg, .slice A6 m6 c6, .int .i64 dE], .int .i64 0])) (World.put w3 (w.heap.size + 1) dg A6 m6 c6 dE)) := ⟨A6, m6, c6, zs, rfl, by omega, h3.2.1.lim hl6 _ _ _ _ _, hb6, hv6, below_put h3.2.2.2.2.2.2.2 (Nat.le_succ _) _ _ _ _ _⟩; clear q3 h3 hl6 hb6 hv6 hB6))
    all_goals (
      clear K0 K1 K2 h9 H9 HR2 y0 y1 y2 z0 z1 z2 zf
      go_wp2_with fail
      exact bodyPost_ret (v := .tuple #[.agg #[.bool dg, .slice A6 m6 c6, .int .i64 dE], .int .i64 0]) (by simp [results, Tryz.results12, go_sem, u0, u1, u2]) rfl Hfin.out)
end Go.Proofs.YtmmeejofepmgaaaGreatDoor
/- The document's numbers: planimeterref05.Add and Cmp of any two. Written by law_gsum.py and law_gcmp.py. -/
namespace Go.Proofs.YtmmeejofepmgaaaGreatDoor
open Go.RowKit

set_option maxHeartbeats 1000000 in
theorem radd_sumT_L (x y q : Nat) (A : Option Addr) (n c : Nat) (ds : List Nat) (e1 : Int) (B : Option Addr) (m d : Nat) (es : List Nat) (e2 : Int) (w : World) (hA : Dig w A n c ds) (hB : Dig w B m d es) (ba : D.Bare ds) (bb : D.Bare es) (hn : n ≤ 1000) (hm : m ≤ 1000) (hn0 : n ≠ 0) (hm0 : m ≠ 0)
    (hd : e1 - e2 = (q : Int)) (hq : q ≤ 16000) (hl : e2 < e1) (hx : Hid (D.val ds * 2 ^ q = x)) (hy : Hid (D.val es = y)) :
    Calls Tryz.prog 50 #[.agg #[.bool true, .slice A n c, .int .i64 e1], .agg #[.bool true, .slice B m d, .int .i64 e2]] w (NTold w ⟨true, x + y, e2⟩ 100001) := by
  have h0 : HS3 w w.heap.size true A n c ds e1 (w.heap.size + 1) true B m d es e2 (w.heap.size + 1 + 1) _ := HN.start3 w true A n c ds e1 true B m d es e2 hA hB
  have K0 := Lib.hid (h0.below (below_drew _)).cells
  have HP1 : Hid (∀ u, CellsS w w.heap.size true A n c ds e1 (w.heap.size + 1) true B m d es e2 (w.heap.size + 1 + 1) u → Calls Tryz.prog 64 #[.slice A n c, .int .i64 (q : Int)] u fun e w' => ∃ (A6 : Option Addr) (m6 c6 : Nat) (ps : List Nat), e = .returned (.slice A6 m6 c6) ∧ m6 ≤ 100000 ∧ CellsS w w.heap.size true A n c ds e1 (w.heap.size + 1) true B m d es e2 (w.heap.size + 1 + 1) w' ∧ Hid (Dig w' A6 m6 c6 ps ∧ D.Bare ps ∧ D.val ps = x ∧ Below u.heap.size u w')) := fun u hu => by
    have h := hu.2.2.2.2.2.2.out
    have this := rshl_any A n c ds q u h.1.2.2.1 ba (by omega) (by omega)
    rw [hx.out] at this
    refine this.mono ?_
    rintro e w' ⟨A6, m6, c6, ps, rfl, q1, q2, q3, q4, q5⟩
    exact ⟨A6, m6, c6, ps, rfl, q1, (h.below q5).cells, q2, q3, q4, q5⟩
  have HP2 : Hid (∀ u, CellsS w w.heap.size true A n c ds e1 (w.heap.size + 1) true B m d es e2 (w.heap.size + 1 + 1) u → Calls Tryz.prog 64 #[.slice B m d, .int .i64 0] u fun e w' => ∃ (A6 : Option Addr) (m6 c6 : Nat) (ps : List Nat), e = .returned (.slice A6 m6 c6) ∧ m6 ≤ 100000 ∧ CellsS w w.heap.size true A n c ds e1 (w.heap.size + 1) true B m d es e2 (w.heap.size + 1 + 1) w' ∧ Hid (Dig w' A6 m6 c6 ps ∧ D.Bare ps ∧ D.val ps = y ∧ Below u.heap.size u w')) := fun u hu => by
    have h := hu.2.2.2.2.2.2.out
    have this := rshl_any B m d es 0 u h.1.2.2.2.1 bb (by omega) (by omega)
    rw [show ((0 : Nat) : Int) = 0 from rfl, Nat.pow_zero, Nat.mul_one] at this
    rw [hy.out] at this
    refine this.mono ?_
    rintro e w' ⟨A6, m6, c6, ps, rfl, q1, q2, q3, q4, q5⟩
    exact ⟨A6, m6, c6, ps, rfl, q1, (h.below q5).cells, q2, q3, q4, q5⟩
  have hwq : IntKind.i64.wrap (q : Int) = (q : Int) := by rw [IntKind.wrap_i64]; omega
  have hw0 : IntKind.i64.wrap 0 = 0 := by decide
  have c1 : ((n : Int) == 0) = false := beq_no (by omega)
  have c2 : ((m : Int) == 0) = false := beq_no (by omega)
  have x1 := h0.1.1.c1
  have x2 := h0.1.1.c2
  have y1 := h0.1.2.1.c1
  have y2 := h0.1.2.1.c2
  have b1 : decide (e2 < e1) = true := decide_eq_true hl
  clear hA hB ba bb hx hy h0 hl hn0 hm0
  go_enter Tryz.func50, Tryz.ntmps50
  go_wp2_with fail
  go_region_held3 (fun w' => w'.cell? ⟨w.heap.size, 0, none⟩ = some (.bool true) ∧ w'.cell? ⟨w.heap.size, 1, none⟩ = some (.slice A n c) ∧ w'.cell? ⟨w.heap.size, 2, none⟩ = some (.int .i64 e1) ∧ w'.cell? ⟨w.heap.size + 1, 0, none⟩ = some (.bool true) ∧ w'.cell? ⟨w.heap.size + 1, 1, none⟩ = some (.slice B m d) ∧ w'.cell? ⟨w.heap.size + 1, 2, none⟩ = some (.int .i64 e2) ∧ Hid (HS3 w w.heap.size true A n c ds e1 (w.heap.size + 1) true B m d es e2 (w.heap.size + 1 + 1) w'))
    (first | (with_reducible exact K0.out) | (with_reducible assumption))
    (first | (go_at_call 64; (with_reducible refine (HP1.out _ (by first | (with_reducible exact K0.out) | (with_reducible assumption))).mono ?_); rintro e w1 ⟨A6, m6, c6, ps, rfl, hm6, hY, hP6⟩) | (go_at_call 64; (with_reducible refine (HP2.out _ (by first | (with_reducible exact K0.out) | (with_reducible assumption))).mono ?_); rintro e w2 ⟨A7, m7, c7, qs, rfl, hm7, hZ, hP7⟩))
  have G1 := hP6.out.1.below hP7.out.2.2.2
  have G2 := hP7.out.1
  have HZ := Lib.hid hZ.2.2.2.2.2.2.out
  have HB := Lib.hid (And.intro hP6.out.2.1 (And.intro hP6.out.2.2.1 (And.intro hP7.out.2.1 hP7.out.2.2.1)))
  have Z0 := Lib.hid (HZ.out.below (below_drew _)).cells
  have HC : Hid (∀ u, Dig u A6 m6 c6 ps → Dig u A7 m7 c7 qs → CellsS w w.heap.size true A n c ds e1 (w.heap.size + 1) true B m d es e2 (w.heap.size + 1 + 1) u → Calls Tryz.prog 65 #[.slice A6 m6 c6, .slice A7 m7 c7] u fun e w' => ∃ (A8 : Option Addr) (m8 c8 : Nat) (rs : List Nat), e = .returned (.slice A8 m8 c8) ∧ m8 ≤ 100001 ∧ CellsS w w.heap.size true A n c ds e1 (w.heap.size + 1) true B m d es e2 (w.heap.size + 1 + 1) w' ∧ Hid (Dig w' A8 m8 c8 rs ∧ D.Bare rs ∧ D.val rs = x + y)) := fun u d1 d2 hu => by
    have h := hu.2.2.2.2.2.2.out
    refine (radd_any A6 m6 c6 ps A7 m7 c7 qs u d1 d2 HB.out.1 HB.out.2.2.1 (by omega) (by omega)).mono ?_
    rintro e w' ⟨A8, m8, c8, rs, rfl, q1, q2, q3, q4, q5⟩
    exact ⟨A8, m8, c8, rs, rfl, by omega, (h.below q5).cells, q2, q3, by rw [q4, HB.out.2.1, HB.out.2.2.2]⟩
  have G1h := Lib.hid (G1.drew)
  have G2h := Lib.hid (G2.drew)
  clear K0 HP1 HP2 hY hP6 hP7 c1 c2 x1 x2 y1 y2 b1 G1 G2
  obtain ⟨x0, x1, x2, y0, y1, y2, _⟩ := hZ
  go_wp2_with fail
  go_region_held3 (fun w' => w'.cell? ⟨w.heap.size, 0, none⟩ = some (.bool true))
    (first | (with_reducible exact Z0.out.1) | (with_reducible exact Kp.out) | (with_reducible exact hX.1))
    ((go_at_call 65; (with_reducible refine (HC.out _ G1h.out G2h.out Z0.out).mono ?_); rintro e w9 ⟨A8, m8, c8, rs, rfl, hm8, hX, hP8⟩; have kb := hX.2.2.2.2.2.2.out.2; have u0 := kb.c0; have u1 := kb.c1; have u2 := kb.c2; have uf := kb.fz; have Hfin : Hid (NTold w ⟨true, x + y, e2⟩ 100001 (.returned (.agg #[.bool true, .slice A8 m8 c8, .int .i64 e2])) (World.put w9 (w.heap.size + 1 + 1) true A8 m8 c8 e2)) := ⟨A8, m8, c8, rs, rfl, hm8, kb.dig hP8.out.1 _ _ _ _ _, hP8.out.2.1, hP8.out.2.2, below_put hX.2.2.2.2.2.2.out.1.2.2.2.2 (by omega) _ _ _ _ _⟩; have hW := hX.2.2.2.2.2.2.out; have Kp : Hid (World.cell? (World.put w9 (w.heap.size + 1 + 1) true A8 m8 c8 e2) ⟨w.heap.size, 0, none⟩ = some (.bool true)) := (hW.1.1.other (by omega) _ _ _ _ _).c0; clear kb hP8 hW))
  all_goals (
    go_wp2_with fail
    exact bodyPost_ret (v := .agg #[.bool true, .slice A8 m8 c8, .int .i64 e2]) (by simp [results, Tryz.results50, go_sem, u0, u1, u2]) rfl Hfin.out)

set_option maxHeartbeats 1000000 in
theorem radd_sumT_G (x y q : Nat) (A : Option Addr) (n c : Nat) (ds : List Nat) (e1 : Int) (B : Option Addr) (m d : Nat) (es : List Nat) (e2 : Int) (w : World) (hA : Dig w A n c ds) (hB : Dig w B m d es) (ba : D.Bare ds) (bb : D.Bare es) (hn : n ≤ 1000) (hm : m ≤ 1000) (hn0 : n ≠ 0) (hm0 : m ≠ 0)
    (hd : e2 - e1 = (q : Int)) (hq : q ≤ 16000) (hx : Hid (D.val ds = x)) (hy : Hid (D.val es * 2 ^ q = y)) :
    Calls Tryz.prog 50 #[.agg #[.bool true, .slice A n c, .int .i64 e1], .agg #[.bool true, .slice B m d, .int .i64 e2]] w (NTold w ⟨true, x + y, e1⟩ 100001) := by
  have h0 : HS3 w w.heap.size true A n c ds e1 (w.heap.size + 1) true B m d es e2 (w.heap.size + 1 + 1) _ := HN.start3 w true A n c ds e1 true B m d es e2 hA hB
  have K0 := Lib.hid (h0.below (below_drew _)).cells
  have HP1 : Hid (∀ u, CellsS w w.heap.size true A n c ds e1 (w.heap.size + 1) true B m d es e2 (w.heap.size + 1 + 1) u → Calls Tryz.prog 64 #[.slice A n c, .int .i64 0] u fun e w' => ∃ (A6 : Option Addr) (m6 c6 : Nat) (ps : List Nat), e = .returned (.slice A6 m6 c6) ∧ m6 ≤ 100000 ∧ CellsS w w.heap.size true A n c ds e1 (w.heap.size + 1) true B m d es e2 (w.heap.size + 1 + 1) w' ∧ Hid (Dig w' A6 m6 c6 ps ∧ D.Bare ps ∧ D.val ps = x ∧ Below u.heap.size u w')) := fun u hu => by
    have h := hu.2.2.2.2.2.2.out
    have this := rshl_any A n c ds 0 u h.1.2.2.1 ba (by omega) (by omega)
    rw [show ((0 : Nat) : Int) = 0 from rfl, Nat.pow_zero, Nat.mul_one] at this
    rw [hx.out] at this
    refine this.mono ?_
    rintro e w' ⟨A6, m6, c6, ps, rfl, q1, q2, q3, q4, q5⟩
    exact ⟨A6, m6, c6, ps, rfl, q1, (h.below q5).cells, q2, q3, q4, q5⟩
  have HP2 : Hid (∀ u, CellsS w w.heap.size true A n c ds e1 (w.heap.size + 1) true B m d es e2 (w.heap.size + 1 + 1) u → Calls Tryz.prog 64 #[.slice B m d, .int .i64 (q : Int)] u fun e w' => ∃ (A6 : Option Addr) (m6 c6 : Nat) (ps : List Nat), e = .returned (.slice A6 m6 c6) ∧ m6 ≤ 100000 ∧ CellsS w w.heap.size true A n c ds e1 (w.heap.size + 1) true B m d es e2 (w.heap.size + 1 + 1) w' ∧ Hid (Dig w' A6 m6 c6 ps ∧ D.Bare ps ∧ D.val ps = y ∧ Below u.heap.size u w')) := fun u hu => by
    have h := hu.2.2.2.2.2.2.out
    have this := rshl_any B m d es q u h.1.2.2.2.1 bb (by omega) (by omega)
    rw [hy.out] at this
    refine this.mono ?_
    rintro e w' ⟨A6, m6, c6, ps, rfl, q1, q2, q3, q4, q5⟩
    exact ⟨A6, m6, c6, ps, rfl, q1, (h.below q5).cells, q2, q3, q4, q5⟩
  have hwq : IntKind.i64.wrap (q : Int) = (q : Int) := by rw [IntKind.wrap_i64]; omega
  have hw0 : IntKind.i64.wrap 0 = 0 := by decide
  have c1 : ((n : Int) == 0) = false := beq_no (by omega)
  have c2 : ((m : Int) == 0) = false := beq_no (by omega)
  have x1 := h0.1.1.c1
  have x2 := h0.1.1.c2
  have y1 := h0.1.2.1.c1
  have y2 := h0.1.2.1.c2
  have b1 : decide (e2 < e1) = false := decide_eq_false (by omega)
  clear hA hB ba bb hx hy h0 hn0 hm0
  go_enter Tryz.func50, Tryz.ntmps50
  go_wp2_with fail
  go_region_held3 (fun w' => w'.cell? ⟨w.heap.size, 0, none⟩ = some (.bool true) ∧ w'.cell? ⟨w.heap.size, 1, none⟩ = some (.slice A n c) ∧ w'.cell? ⟨w.heap.size, 2, none⟩ = some (.int .i64 e1) ∧ w'.cell? ⟨w.heap.size + 1, 0, none⟩ = some (.bool true) ∧ w'.cell? ⟨w.heap.size + 1, 1, none⟩ = some (.slice B m d) ∧ w'.cell? ⟨w.heap.size + 1, 2, none⟩ = some (.int .i64 e2) ∧ Hid (HS3 w w.heap.size true A n c ds e1 (w.heap.size + 1) true B m d es e2 (w.heap.size + 1 + 1) w'))
    (first | (with_reducible exact K0.out) | (with_reducible assumption))
    (first | (go_at_call 64; (with_reducible refine (HP1.out _ (by first | (with_reducible exact K0.out) | (with_reducible assumption))).mono ?_); rintro e w1 ⟨A6, m6, c6, ps, rfl, hm6, hY, hP6⟩) | (go_at_call 64; (with_reducible refine (HP2.out _ (by first | (with_reducible exact K0.out) | (with_reducible assumption))).mono ?_); rintro e w2 ⟨A7, m7, c7, qs, rfl, hm7, hZ, hP7⟩))
  have G1 := hP6.out.1.below hP7.out.2.2.2
  have G2 := hP7.out.1
  have HZ := Lib.hid hZ.2.2.2.2.2.2.out
  have HB := Lib.hid (And.intro hP6.out.2.1 (And.intro hP6.out.2.2.1 (And.intro hP7.out.2.1 hP7.out.2.2.1)))
  have Z0 := Lib.hid (HZ.out.below (below_drew _)).cells
  have HC : Hid (∀ u, Dig u A6 m6 c6 ps → Dig u A7 m7 c7 qs → CellsS w w.heap.size true A n c ds e1 (w.heap.size + 1) true B m d es e2 (w.heap.size + 1 + 1) u → Calls Tryz.prog 65 #[.slice A6 m6 c6, .slice A7 m7 c7] u fun e w' => ∃ (A8 : Option Addr) (m8 c8 : Nat) (rs : List Nat), e = .returned (.slice A8 m8 c8) ∧ m8 ≤ 100001 ∧ CellsS w w.heap.size true A n c ds e1 (w.heap.size + 1) true B m d es e2 (w.heap.size + 1 + 1) w' ∧ Hid (Dig w' A8 m8 c8 rs ∧ D.Bare rs ∧ D.val rs = x + y)) := fun u d1 d2 hu => by
    have h := hu.2.2.2.2.2.2.out
    refine (radd_any A6 m6 c6 ps A7 m7 c7 qs u d1 d2 HB.out.1 HB.out.2.2.1 (by omega) (by omega)).mono ?_
    rintro e w' ⟨A8, m8, c8, rs, rfl, q1, q2, q3, q4, q5⟩
    exact ⟨A8, m8, c8, rs, rfl, by omega, (h.below q5).cells, q2, q3, by rw [q4, HB.out.2.1, HB.out.2.2.2]⟩
  have G1h := Lib.hid (G1.drew)
  have G2h := Lib.hid (G2.drew)
  clear K0 HP1 HP2 hY hP6 hP7 c1 c2 x1 x2 y1 y2 b1 G1 G2
  obtain ⟨x0, x1, x2, y0, y1, y2, _⟩ := hZ
  go_wp2_with fail
  go_region_held3 (fun w' => w'.cell? ⟨w.heap.size, 0, none⟩ = some (.bool true))
    (first | (with_reducible exact Z0.out.1) | (with_reducible exact Kp.out) | (with_reducible exact hX.1))
    ((go_at_call 65; (with_reducible refine (HC.out _ G1h.out G2h.out Z0.out).mono ?_); rintro e w9 ⟨A8, m8, c8, rs, rfl, hm8, hX, hP8⟩; have kb := hX.2.2.2.2.2.2.out.2; have u0 := kb.c0; have u1 := kb.c1; have u2 := kb.c2; have uf := kb.fz; have Hfin : Hid (NTold w ⟨true, x + y, e1⟩ 100001 (.returned (.agg #[.bool true, .slice A8 m8 c8, .int .i64 e1])) (World.put w9 (w.heap.size + 1 + 1) true A8 m8 c8 e1)) := ⟨A8, m8, c8, rs, rfl, hm8, kb.dig hP8.out.1 _ _ _ _ _, hP8.out.2.1, hP8.out.2.2, below_put hX.2.2.2.2.2.2.out.1.2.2.2.2 (by omega) _ _ _ _ _⟩; have hW := hX.2.2.2.2.2.2.out; have Kp : Hid (World.cell? (World.put w9 (w.heap.size + 1 + 1) true A8 m8 c8 e1) ⟨w.heap.size, 0, none⟩ = some (.bool true)) := (hW.1.1.other (by omega) _ _ _ _ _).c0; clear kb hP8 hW))
  all_goals (
    go_wp2_with fail
    exact bodyPost_ret (v := .agg #[.bool true, .slice A8 m8 c8, .int .i64 e1]) (by simp [results, Tryz.results50, go_sem, u0, u1, u2]) rfl Hfin.out)

set_option maxHeartbeats 1000000 in
theorem radd_geT_L (x y q : Nat) (A : Option Addr) (n c : Nat) (ds : List Nat) (e1 : Int) (B : Option Addr) (m d : Nat) (es : List Nat) (e2 : Int) (w : World) (hA : Dig w A n c ds) (hB : Dig w B m d es) (ba : D.Bare ds) (bb : D.Bare es) (hn : n ≤ 1000) (hm : m ≤ 1000) (hn0 : n ≠ 0) (hm0 : m ≠ 0)
    (hd : e1 - e2 = (q : Int)) (hq : q ≤ 16000) (hl : e2 < e1) (hx : Hid (D.val ds * 2 ^ q = x)) (hy : Hid (D.val es = y)) (ho : y ≤ x) :
    Calls Tryz.prog 50 #[.agg #[.bool true, .slice A n c, .int .i64 e1], .agg #[.bool false, .slice B m d, .int .i64 e2]] w (NTold w ⟨true, x - y, e2⟩ 100001) := by
  have h0 : HS3 w w.heap.size true A n c ds e1 (w.heap.size + 1) false B m d es e2 (w.heap.size + 1 + 1) _ := HN.start3 w true A n c ds e1 false B m d es e2 hA hB
  have K0 := Lib.hid (h0.below (below_drew _)).cells
  have HP1 : Hid (∀ u, CellsS w w.heap.size true A n c ds e1 (w.heap.size + 1) false B m d es e2 (w.heap.size + 1 + 1) u → Calls Tryz.prog 64 #[.slice A n c, .int .i64 (q : Int)] u fun e w' => ∃ (A6 : Option Addr) (m6 c6 : Nat) (ps : List Nat), e = .returned (.slice A6 m6 c6) ∧ m6 ≤ 100000 ∧ CellsS w w.heap.size true A n c ds e1 (w.heap.size + 1) false B m d es e2 (w.heap.size + 1 + 1) w' ∧ Hid (Dig w' A6 m6 c6 ps ∧ D.Bare ps ∧ D.val ps = x ∧ Below u.heap.size u w')) := fun u hu => by
    have h := hu.2.2.2.2.2.2.out
    have this := rshl_any A n c ds q u h.1.2.2.1 ba (by omega) (by omega)
    rw [hx.out] at this
    refine this.mono ?_
    rintro e w' ⟨A6, m6, c6, ps, rfl, q1, q2, q3, q4, q5⟩
    exact ⟨A6, m6, c6, ps, rfl, q1, (h.below q5).cells, q2, q3, q4, q5⟩
  have HP2 : Hid (∀ u, CellsS w w.heap.size true A n c ds e1 (w.heap.size + 1) false B m d es e2 (w.heap.size + 1 + 1) u → Calls Tryz.prog 64 #[.slice B m d, .int .i64 0] u fun e w' => ∃ (A6 : Option Addr) (m6 c6 : Nat) (ps : List Nat), e = .returned (.slice A6 m6 c6) ∧ m6 ≤ 100000 ∧ CellsS w w.heap.size true A n c ds e1 (w.heap.size + 1) false B m d es e2 (w.heap.size + 1 + 1) w' ∧ Hid (Dig w' A6 m6 c6 ps ∧ D.Bare ps ∧ D.val ps = y ∧ Below u.heap.size u w')) := fun u hu => by
    have h := hu.2.2.2.2.2.2.out
    have this := rshl_any B m d es 0 u h.1.2.2.2.1 bb (by omega) (by omega)
    rw [show ((0 : Nat) : Int) = 0 from rfl, Nat.pow_zero, Nat.mul_one] at this
    rw [hy.out] at this
    refine this.mono ?_
    rintro e w' ⟨A6, m6, c6, ps, rfl, q1, q2, q3, q4, q5⟩
    exact ⟨A6, m6, c6, ps, rfl, q1, (h.below q5).cells, q2, q3, q4, q5⟩
  have hwq : IntKind.i64.wrap (q : Int) = (q : Int) := by rw [IntKind.wrap_i64]; omega
  have hw0 : IntKind.i64.wrap 0 = 0 := by decide
  have c1 : ((n : Int) == 0) = false := beq_no (by omega)
  have c2 : ((m : Int) == 0) = false := beq_no (by omega)
  have x1 := h0.1.1.c1
  have x2 := h0.1.1.c2
  have y1 := h0.1.2.1.c1
  have y2 := h0.1.2.1.c2
  have b1 : decide (e2 < e1) = true := decide_eq_true hl
  clear hA hB ba bb hx hy h0 hl hn0 hm0
  go_enter Tryz.func50, Tryz.ntmps50
  go_wp2_with fail
  go_region_held3 (fun w' => w'.cell? ⟨w.heap.size, 0, none⟩ = some (.bool true) ∧ w'.cell? ⟨w.heap.size, 1, none⟩ = some (.slice A n c) ∧ w'.cell? ⟨w.heap.size, 2, none⟩ = some (.int .i64 e1) ∧ w'.cell? ⟨w.heap.size + 1, 0, none⟩ = some (.bool false) ∧ w'.cell? ⟨w.heap.size + 1, 1, none⟩ = some (.slice B m d) ∧ w'.cell? ⟨w.heap.size + 1, 2, none⟩ = some (.int .i64 e2) ∧ Hid (HS3 w w.heap.size true A n c ds e1 (w.heap.size + 1) false B m d es e2 (w.heap.size + 1 + 1) w'))
    (first | (with_reducible exact K0.out) | (with_reducible assumption))
    (first | (go_at_call 64; (with_reducible refine (HP1.out _ (by first | (with_reducible exact K0.out) | (with_reducible assumption))).mono ?_); rintro e w1 ⟨A6, m6, c6, ps, rfl, hm6, hY, hP6⟩) | (go_at_call 64; (with_reducible refine (HP2.out _ (by first | (with_reducible exact K0.out) | (with_reducible assumption))).mono ?_); rintro e w2 ⟨A7, m7, c7, qs, rfl, hm7, hZ, hP7⟩))
  have G1 := hP6.out.1.below hP7.out.2.2.2
  have G2 := hP7.out.1
  have HZ := Lib.hid hZ.2.2.2.2.2.2.out
  have HB := Lib.hid (And.intro hP6.out.2.1 (And.intro hP6.out.2.2.1 (And.intro hP7.out.2.1 hP7.out.2.2.1)))
  have Z0 := Lib.hid (HZ.out.below (below_drew _)).cells
  have HC : Hid (∀ u, Dig u A6 m6 c6 ps → Dig u A7 m7 c7 qs → CellsS w w.heap.size true A n c ds e1 (w.heap.size + 1) false B m d es e2 (w.heap.size + 1 + 1) u → Calls Tryz.prog 67 #[.slice A6 m6 c6, .slice A7 m7 c7] u fun e w' => ∃ (A8 : Option Addr) (m8 c8 : Nat) (rs : List Nat), e = .returned (.slice A8 m8 c8) ∧ m8 ≤ 100001 ∧ CellsS w w.heap.size true A n c ds e1 (w.heap.size + 1) false B m d es e2 (w.heap.size + 1 + 1) w' ∧ Hid (Dig w' A8 m8 c8 rs ∧ D.Bare rs ∧ D.val rs = x - y)) := fun u d1 d2 hu => by
    have h := hu.2.2.2.2.2.2.out
    refine (rsub_any A6 m6 c6 ps A7 m7 c7 qs u d1 d2 HB.out.2.2.1 (by rw [HB.out.2.1, HB.out.2.2.2]; exact ho) (by omega) (by omega)).mono ?_
    rintro e w' ⟨A8, m8, c8, rs, rfl, q1, q2, q3, q4, q5⟩
    exact ⟨A8, m8, c8, rs, rfl, by omega, (h.below q5).cells, q2, q3, by rw [q4, HB.out.2.1, HB.out.2.2.2]⟩
  obtain ⟨z, hz⟩ : ∃ z, cmpZ x y = z := ⟨_, rfl⟩
  have HR := rcmp_any A6 m6 c6 ps A7 m7 c7 qs w2 G1 G2 HB.out.1 HB.out.2.2.1 (by omega) (by omega)
  rw [HB.out.2.1, HB.out.2.2.2, hz] at HR
  have HR := Lib.hid HR
  have b3 : decide (0 ≤ z) = true := by
    rw [← hz]
    exact decide_eq_true (by have := cmpZ_bd x y; by_cases h : y < x; (rw [cmpZ_gt h]; decide); (rw [cmpZ_eq (by omega)]; decide))
  have G1h := Lib.hid G1
  have G2h := Lib.hid G2
  clear hz
  clear K0 HP1 HP2 hY hP6 hP7 c1 c2 x1 x2 y1 y2 b1 G1 G2
  obtain ⟨x0, x1, x2, y0, y1, y2, _⟩ := hZ
  go_wp2_with fail
  refine HR.out.mono ?_
  rintro e w3 ⟨rfl, nq, rfl⟩
  have Hq := Lib.hid (HZ.out.below (below_drewN (Below.refl _ _) nq))
  have Zq := Lib.hid (HZ.out.below (below_drewN (Below.refl _ _) (nq + 1))).cells
  have Zr := Lib.hid (Hq.out.below (below_drew _)).cells
  have G1q := Lib.hid (G1h.out.drewN (nq + 1))
  have G2q := Lib.hid (G2h.out.drewN (nq + 1))
  obtain ⟨v0, v1, v2, s0, s1, s2, _⟩ := Hq.out.cells
  clear x0 x1 x2 y0 y1 y2 HR HZ Z0
  go_wp2_with fail
  go_region_held3 (fun w' => w'.cell? ⟨w.heap.size, 0, none⟩ = some (.bool true))
    (first | (with_reducible exact Zq.out.1) | (with_reducible exact Zr.out.1) | (with_reducible exact Kp.out) | (with_reducible exact hX.1))
    ((go_at_call 67; (with_reducible refine (HC.out _ G1q.out G2q.out Zq.out).mono ?_); rintro e w9 ⟨A8, m8, c8, rs, rfl, hm8, hX, hP8⟩; have kb := hX.2.2.2.2.2.2.out.2; have u0 := kb.c0; have u1 := kb.c1; have u2 := kb.c2; have uf := kb.fz; have Hfin : Hid (NTold w ⟨true, x - y, e2⟩ 100001 (.returned (.agg #[.bool true, .slice A8 m8 c8, .int .i64 e2])) (World.put w9 (w.heap.size + 1 + 1) true A8 m8 c8 e2)) := ⟨A8, m8, c8, rs, rfl, hm8, kb.dig hP8.out.1 _ _ _ _ _, hP8.out.2.1, hP8.out.2.2, below_put hX.2.2.2.2.2.2.out.1.2.2.2.2 (by omega) _ _ _ _ _⟩; have hW := hX.2.2.2.2.2.2.out; have Kp : Hid (World.cell? (World.put w9 (w.heap.size + 1 + 1) true A8 m8 c8 e2) ⟨w.heap.size, 0, none⟩ = some (.bool true)) := (hW.1.1.other (by omega) _ _ _ _ _).c0; clear kb hP8 hW))
  all_goals (
    go_wp2_with fail
    exact bodyPost_ret (v := .agg #[.bool true, .slice A8 m8 c8, .int .i64 e2]) (by simp [results, Tryz.results50, go_sem, u0, u1, u2]) rfl Hfin.out)

set_option maxHeartbeats 1000000 in
theorem radd_geT_G (x y q : Nat) (A : Option Addr) (n c : Nat) (ds : List Nat) (e1 : Int) (B : Option Addr) (m d : Nat) (es : List Nat) (e2 : Int) (w : World) (hA : Dig w A n c ds) (hB : Dig w B m d es) (ba : D.Bare ds) (bb : D.Bare es) (hn : n ≤ 1000) (hm : m ≤ 1000) (hn0 : n ≠ 0) (hm0 : m ≠ 0)
    (hd : e2 - e1 = (q : Int)) (hq : q ≤ 16000) (hx : Hid (D.val ds = x)) (hy : Hid (D.val es * 2 ^ q = y)) (ho : y ≤ x) :
    Calls Tryz.prog 50 #[.agg #[.bool true, .slice A n c, .int .i64 e1], .agg #[.bool false, .slice B m d, .int .i64 e2]] w (NTold w ⟨true, x - y, e1⟩ 100001) := by
  have h0 : HS3 w w.heap.size true A n c ds e1 (w.heap.size + 1) false B m d es e2 (w.heap.size + 1 + 1) _ := HN.start3 w true A n c ds e1 false B m d es e2 hA hB
  have K0 := Lib.hid (h0.below (below_drew _)).cells
  have HP1 : Hid (∀ u, CellsS w w.heap.size true A n c ds e1 (w.heap.size + 1) false B m d es e2 (w.heap.size + 1 + 1) u → Calls Tryz.prog 64 #[.slice A n c, .int .i64 0] u fun e w' => ∃ (A6 : Option Addr) (m6 c6 : Nat) (ps : List Nat), e = .returned (.slice A6 m6 c6) ∧ m6 ≤ 100000 ∧ CellsS w w.heap.size true A n c ds e1 (w.heap.size + 1) false B m d es e2 (w.heap.size + 1 + 1) w' ∧ Hid (Dig w' A6 m6 c6 ps ∧ D.Bare ps ∧ D.val ps = x ∧ Below u.heap.size u w')) := fun u hu => by
    have h := hu.2.2.2.2.2.2.out
    have this := rshl_any A n c ds 0 u h.1.2.2.1 ba (by omega) (by omega)
    rw [show ((0 : Nat) : Int) = 0 from rfl, Nat.pow_zero, Nat.mul_one] at this
    rw [hx.out] at this
    refine this.mono ?_
    rintro e w' ⟨A6, m6, c6, ps, rfl, q1, q2, q3, q4, q5⟩
    exact ⟨A6, m6, c6, ps, rfl, q1, (h.below q5).cells, q2, q3, q4, q5⟩
  have HP2 : Hid (∀ u, CellsS w w.heap.size true A n c ds e1 (w.heap.size + 1) false B m d es e2 (w.heap.size + 1 + 1) u → Calls Tryz.prog 64 #[.slice B m d, .int .i64 (q : Int)] u fun e w' => ∃ (A6 : Option Addr) (m6 c6 : Nat) (ps : List Nat), e = .returned (.slice A6 m6 c6) ∧ m6 ≤ 100000 ∧ CellsS w w.heap.size true A n c ds e1 (w.heap.size + 1) false B m d es e2 (w.heap.size + 1 + 1) w' ∧ Hid (Dig w' A6 m6 c6 ps ∧ D.Bare ps ∧ D.val ps = y ∧ Below u.heap.size u w')) := fun u hu => by
    have h := hu.2.2.2.2.2.2.out
    have this := rshl_any B m d es q u h.1.2.2.2.1 bb (by omega) (by omega)
    rw [hy.out] at this
    refine this.mono ?_
    rintro e w' ⟨A6, m6, c6, ps, rfl, q1, q2, q3, q4, q5⟩
    exact ⟨A6, m6, c6, ps, rfl, q1, (h.below q5).cells, q2, q3, q4, q5⟩
  have hwq : IntKind.i64.wrap (q : Int) = (q : Int) := by rw [IntKind.wrap_i64]; omega
  have hw0 : IntKind.i64.wrap 0 = 0 := by decide
  have c1 : ((n : Int) == 0) = false := beq_no (by omega)
  have c2 : ((m : Int) == 0) = false := beq_no (by omega)
  have x1 := h0.1.1.c1
  have x2 := h0.1.1.c2
  have y1 := h0.1.2.1.c1
  have y2 := h0.1.2.1.c2
  have b1 : decide (e2 < e1) = false := decide_eq_false (by omega)
  clear hA hB ba bb hx hy h0 hn0 hm0
  go_enter Tryz.func50, Tryz.ntmps50
  go_wp2_with fail
  go_region_held3 (fun w' => w'.cell? ⟨w.heap.size, 0, none⟩ = some (.bool true) ∧ w'.cell? ⟨w.heap.size, 1, none⟩ = some (.slice A n c) ∧ w'.cell? ⟨w.heap.size, 2, none⟩ = some (.int .i64 e1) ∧ w'.cell? ⟨w.heap.size + 1, 0, none⟩ = some (.bool false) ∧ w'.cell? ⟨w.heap.size + 1, 1, none⟩ = some (.slice B m d) ∧ w'.cell? ⟨w.heap.size + 1, 2, none⟩ = some (.int .i64 e2) ∧ Hid (HS3 w w.heap.size true A n c ds e1 (w.heap.size + 1) false B m d es e2 (w.heap.size + 1 + 1) w'))
    (first | (with_reducible exact K0.out) | (with_reducible assumption))
    (first | (go_at_call 64; (with_reducible refine (HP1.out _ (by first | (with_reducible exact K0.out) | (with_reducible assumption))).mono ?_); rintro e w1 ⟨A6, m6, c6, ps, rfl, hm6, hY, hP6⟩) | (go_at_call 64; (with_reducible refine (HP2.out _ (by first | (with_reducible exact K0.out) | (with_reducible assumption))).mono ?_); rintro e w2 ⟨A7, m7, c7, qs, rfl, hm7, hZ, hP7⟩))
  have G1 := hP6.out.1.below hP7.out.2.2.2
  have G2 := hP7.out.1
  have HZ := Lib.hid hZ.2.2.2.2.2.2.out
  have HB := Lib.hid (And.intro hP6.out.2.1 (And.intro hP6.out.2.2.1 (And.intro hP7.out.2.1 hP7.out.2.2.1)))
  have Z0 := Lib.hid (HZ.out.below (below_drew _)).cells
  have HC : Hid (∀ u, Dig u A6 m6 c6 ps → Dig u A7 m7 c7 qs → CellsS w w.heap.size true A n c ds e1 (w.heap.size + 1) false B m d es e2 (w.heap.size + 1 + 1) u → Calls Tryz.prog 67 #[.slice A6 m6 c6, .slice A7 m7 c7] u fun e w' => ∃ (A8 : Option Addr) (m8 c8 : Nat) (rs : List Nat), e = .returned (.slice A8 m8 c8) ∧ m8 ≤ 100001 ∧ CellsS w w.heap.size true A n c ds e1 (w.heap.size + 1) false B m d es e2 (w.heap.size + 1 + 1) w' ∧ Hid (Dig w' A8 m8 c8 rs ∧ D.Bare rs ∧ D.val rs = x - y)) := fun u d1 d2 hu => by
    have h := hu.2.2.2.2.2.2.out
    refine (rsub_any A6 m6 c6 ps A7 m7 c7 qs u d1 d2 HB.out.2.2.1 (by rw [HB.out.2.1, HB.out.2.2.2]; exact ho) (by omega) (by omega)).mono ?_
    rintro e w' ⟨A8, m8, c8, rs, rfl, q1, q2, q3, q4, q5⟩
    exact ⟨A8, m8, c8, rs, rfl, by omega, (h.below q5).cells, q2, q3, by rw [q4, HB.out.2.1, HB.out.2.2.2]⟩
  obtain ⟨z, hz⟩ : ∃ z, cmpZ x y = z := ⟨_, rfl⟩
  have HR := rcmp_any A6 m6 c6 ps A7 m7 c7 qs w2 G1 G2 HB.out.1 HB.out.2.2.1 (by omega) (by omega)
  rw [HB.out.2.1, HB.out.2.2.2, hz] at HR
  have HR := Lib.hid HR
  have b3 : decide (0 ≤ z) = true := by
    rw [← hz]
    exact decide_eq_true (by have := cmpZ_bd x y; by_cases h : y < x; (rw [cmpZ_gt h]; decide); (rw [cmpZ_eq (by omega)]; decide))
  have G1h := Lib.hid G1
  have G2h := Lib.hid G2
  clear hz
  clear K0 HP1 HP2 hY hP6 hP7 c1 c2 x1 x2 y1 y2 b1 G1 G2
  obtain ⟨x0, x1, x2, y0, y1, y2, _⟩ := hZ
  go_wp2_with fail
  refine HR.out.mono ?_
  rintro e w3 ⟨rfl, nq, rfl⟩
  have Hq := Lib.hid (HZ.out.below (below_drewN (Below.refl _ _) nq))
  have Zq := Lib.hid (HZ.out.below (below_drewN (Below.refl _ _) (nq + 1))).cells
  have Zr := Lib.hid (Hq.out.below (below_drew _)).cells
  have G1q := Lib.hid (G1h.out.drewN (nq + 1))
  have G2q := Lib.hid (G2h.out.drewN (nq + 1))
  obtain ⟨v0, v1, v2, s0, s1, s2, _⟩ := Hq.out.cells
  clear x0 x1 x2 y0 y1 y2 HR HZ Z0
  go_wp2_with fail
  go_region_held3 (fun w' => w'.cell? ⟨w.heap.size, 0, none⟩ = some (.bool true))
    (first | (with_reducible exact Zq.out.1) | (with_reducible exact Zr.out.1) | (with_reducible exact Kp.out) | (with_reducible exact hX.1))
    ((go_at_call 67; (with_reducible refine (HC.out _ G1q.out G2q.out Zq.out).mono ?_); rintro e w9 ⟨A8, m8, c8, rs, rfl, hm8, hX, hP8⟩; have kb := hX.2.2.2.2.2.2.out.2; have u0 := kb.c0; have u1 := kb.c1; have u2 := kb.c2; have uf := kb.fz; have Hfin : Hid (NTold w ⟨true, x - y, e1⟩ 100001 (.returned (.agg #[.bool true, .slice A8 m8 c8, .int .i64 e1])) (World.put w9 (w.heap.size + 1 + 1) true A8 m8 c8 e1)) := ⟨A8, m8, c8, rs, rfl, hm8, kb.dig hP8.out.1 _ _ _ _ _, hP8.out.2.1, hP8.out.2.2, below_put hX.2.2.2.2.2.2.out.1.2.2.2.2 (by omega) _ _ _ _ _⟩; have hW := hX.2.2.2.2.2.2.out; have Kp : Hid (World.cell? (World.put w9 (w.heap.size + 1 + 1) true A8 m8 c8 e1) ⟨w.heap.size, 0, none⟩ = some (.bool true)) := (hW.1.1.other (by omega) _ _ _ _ _).c0; clear kb hP8 hW))
  all_goals (
    go_wp2_with fail
    exact bodyPost_ret (v := .agg #[.bool true, .slice A8 m8 c8, .int .i64 e1]) (by simp [results, Tryz.results50, go_sem, u0, u1, u2]) rfl Hfin.out)

set_option maxHeartbeats 1000000 in
theorem radd_ltT_L (x y q : Nat) (A : Option Addr) (n c : Nat) (ds : List Nat) (e1 : Int) (B : Option Addr) (m d : Nat) (es : List Nat) (e2 : Int) (w : World) (hA : Dig w A n c ds) (hB : Dig w B m d es) (ba : D.Bare ds) (bb : D.Bare es) (hn : n ≤ 1000) (hm : m ≤ 1000) (hn0 : n ≠ 0) (hm0 : m ≠ 0)
    (hd : e1 - e2 = (q : Int)) (hq : q ≤ 16000) (hl : e2 < e1) (hx : Hid (D.val ds * 2 ^ q = x)) (hy : Hid (D.val es = y)) (ho : x < y) :
    Calls Tryz.prog 50 #[.agg #[.bool true, .slice A n c, .int .i64 e1], .agg #[.bool false, .slice B m d, .int .i64 e2]] w (NTold w ⟨false, y - x, e2⟩ 100001) := by
  have h0 : HS3 w w.heap.size true A n c ds e1 (w.heap.size + 1) false B m d es e2 (w.heap.size + 1 + 1) _ := HN.start3 w true A n c ds e1 false B m d es e2 hA hB
  have K0 := Lib.hid (h0.below (below_drew _)).cells
  have HP1 : Hid (∀ u, CellsS w w.heap.size true A n c ds e1 (w.heap.size + 1) false B m d es e2 (w.heap.size + 1 + 1) u → Calls Tryz.prog 64 #[.slice A n c, .int .i64 (q : Int)] u fun e w' => ∃ (A6 : Option Addr) (m6 c6 : Nat) (ps : List Nat), e = .returned (.slice A6 m6 c6) ∧ m6 ≤ 100000 ∧ CellsS w w.heap.size true A n c ds e1 (w.heap.size + 1) false B m d es e2 (w.heap.size + 1 + 1) w' ∧ Hid (Dig w' A6 m6 c6 ps ∧ D.Bare ps ∧ D.val ps = x ∧ Below u.heap.size u w')) := fun u hu => by
    have h := hu.2.2.2.2.2.2.out
    have this := rshl_any A n c ds q u h.1.2.2.1 ba (by omega) (by omega)
    rw [hx.out] at this
    refine this.mono ?_
    rintro e w' ⟨A6, m6, c6, ps, rfl, q1, q2, q3, q4, q5⟩
    exact ⟨A6, m6, c6, ps, rfl, q1, (h.below q5).cells, q2, q3, q4, q5⟩
  have HP2 : Hid (∀ u, CellsS w w.heap.size true A n c ds e1 (w.heap.size + 1) false B m d es e2 (w.heap.size + 1 + 1) u → Calls Tryz.prog 64 #[.slice B m d, .int .i64 0] u fun e w' => ∃ (A6 : Option Addr) (m6 c6 : Nat) (ps : List Nat), e = .returned (.slice A6 m6 c6) ∧ m6 ≤ 100000 ∧ CellsS w w.heap.size true A n c ds e1 (w.heap.size + 1) false B m d es e2 (w.heap.size + 1 + 1) w' ∧ Hid (Dig w' A6 m6 c6 ps ∧ D.Bare ps ∧ D.val ps = y ∧ Below u.heap.size u w')) := fun u hu => by
    have h := hu.2.2.2.2.2.2.out
    have this := rshl_any B m d es 0 u h.1.2.2.2.1 bb (by omega) (by omega)
    rw [show ((0 : Nat) : Int) = 0 from rfl, Nat.pow_zero, Nat.mul_one] at this
    rw [hy.out] at this
    refine this.mono ?_
    rintro e w' ⟨A6, m6, c6, ps, rfl, q1, q2, q3, q4, q5⟩
    exact ⟨A6, m6, c6, ps, rfl, q1, (h.below q5).cells, q2, q3, q4, q5⟩
  have hwq : IntKind.i64.wrap (q : Int) = (q : Int) := by rw [IntKind.wrap_i64]; omega
  have hw0 : IntKind.i64.wrap 0 = 0 := by decide
  have c1 : ((n : Int) == 0) = false := beq_no (by omega)
  have c2 : ((m : Int) == 0) = false := beq_no (by omega)
  have x1 := h0.1.1.c1
  have x2 := h0.1.1.c2
  have y1 := h0.1.2.1.c1
  have y2 := h0.1.2.1.c2
  have b1 : decide (e2 < e1) = true := decide_eq_true hl
  clear hA hB ba bb hx hy h0 hl hn0 hm0
  go_enter Tryz.func50, Tryz.ntmps50
  go_wp2_with fail
  go_region_held3 (fun w' => w'.cell? ⟨w.heap.size, 0, none⟩ = some (.bool true) ∧ w'.cell? ⟨w.heap.size, 1, none⟩ = some (.slice A n c) ∧ w'.cell? ⟨w.heap.size, 2, none⟩ = some (.int .i64 e1) ∧ w'.cell? ⟨w.heap.size + 1, 0, none⟩ = some (.bool false) ∧ w'.cell? ⟨w.heap.size + 1, 1, none⟩ = some (.slice B m d) ∧ w'.cell? ⟨w.heap.size + 1, 2, none⟩ = some (.int .i64 e2) ∧ Hid (HS3 w w.heap.size true A n c ds e1 (w.heap.size + 1) false B m d es e2 (w.heap.size + 1 + 1) w'))
    (first | (with_reducible exact K0.out) | (with_reducible assumption))
    (first | (go_at_call 64; (with_reducible refine (HP1.out _ (by first | (with_reducible exact K0.out) | (with_reducible assumption))).mono ?_); rintro e w1 ⟨A6, m6, c6, ps, rfl, hm6, hY, hP6⟩) | (go_at_call 64; (with_reducible refine (HP2.out _ (by first | (with_reducible exact K0.out) | (with_reducible assumption))).mono ?_); rintro e w2 ⟨A7, m7, c7, qs, rfl, hm7, hZ, hP7⟩))
  have G1 := hP6.out.1.below hP7.out.2.2.2
  have G2 := hP7.out.1
  have HZ := Lib.hid hZ.2.2.2.2.2.2.out
  have HB := Lib.hid (And.intro hP6.out.2.1 (And.intro hP6.out.2.2.1 (And.intro hP7.out.2.1 hP7.out.2.2.1)))
  have Z0 := Lib.hid (HZ.out.below (below_drew _)).cells
  have HC : Hid (∀ u, Dig u A6 m6 c6 ps → Dig u A7 m7 c7 qs → CellsS w w.heap.size true A n c ds e1 (w.heap.size + 1) false B m d es e2 (w.heap.size + 1 + 1) u → Calls Tryz.prog 67 #[.slice A7 m7 c7, .slice A6 m6 c6] u fun e w' => ∃ (A8 : Option Addr) (m8 c8 : Nat) (rs : List Nat), e = .returned (.slice A8 m8 c8) ∧ m8 ≤ 100001 ∧ CellsS w w.heap.size true A n c ds e1 (w.heap.size + 1) false B m d es e2 (w.heap.size + 1 + 1) w' ∧ Hid (Dig w' A8 m8 c8 rs ∧ D.Bare rs ∧ D.val rs = y - x)) := fun u d1 d2 hu => by
    have h := hu.2.2.2.2.2.2.out
    refine (rsub_any A7 m7 c7 qs A6 m6 c6 ps u d2 d1 HB.out.1 (by rw [HB.out.2.1, HB.out.2.2.2]; omega) (by omega) (by omega)).mono ?_
    rintro e w' ⟨A8, m8, c8, rs, rfl, q1, q2, q3, q4, q5⟩
    exact ⟨A8, m8, c8, rs, rfl, by omega, (h.below q5).cells, q2, q3, by rw [q4, HB.out.2.1, HB.out.2.2.2]⟩
  obtain ⟨z, hz⟩ : ∃ z, cmpZ x y = z := ⟨_, rfl⟩
  have HR := rcmp_any A6 m6 c6 ps A7 m7 c7 qs w2 G1 G2 HB.out.1 HB.out.2.2.1 (by omega) (by omega)
  rw [HB.out.2.1, HB.out.2.2.2, hz] at HR
  have HR := Lib.hid HR
  have b3 : decide (0 ≤ z) = false := by
    rw [← hz]
    rw [cmpZ_lt ho]; rfl
  have G1h := Lib.hid G1
  have G2h := Lib.hid G2
  clear hz
  clear K0 HP1 HP2 hY hP6 hP7 c1 c2 x1 x2 y1 y2 b1 G1 G2
  obtain ⟨x0, x1, x2, y0, y1, y2, _⟩ := hZ
  go_wp2_with fail
  refine HR.out.mono ?_
  rintro e w3 ⟨rfl, nq, rfl⟩
  have Hq := Lib.hid (HZ.out.below (below_drewN (Below.refl _ _) nq))
  have Zq := Lib.hid (HZ.out.below (below_drewN (Below.refl _ _) (nq + 1))).cells
  have Zr := Lib.hid (Hq.out.below (below_drew _)).cells
  have G1q := Lib.hid (G1h.out.drewN (nq + 1))
  have G2q := Lib.hid (G2h.out.drewN (nq + 1))
  obtain ⟨v0, v1, v2, s0, s1, s2, _⟩ := Hq.out.cells
  clear x0 x1 x2 y0 y1 y2 HR HZ Z0
  go_wp2_with fail
  go_region_held3 (fun w' => w'.cell? ⟨w.heap.size + 1, 0, none⟩ = some (.bool false))
    (first | (with_reducible exact Zq.out.2.2.2.1) | (with_reducible exact Zr.out.2.2.2.1) | (with_reducible exact Kp.out) | (with_reducible exact hX.2.2.2.1))
    ((go_at_call 67; (with_reducible refine (HC.out _ G1q.out G2q.out Zq.out).mono ?_); rintro e w9 ⟨A8, m8, c8, rs, rfl, hm8, hX, hP8⟩; have kb := hX.2.2.2.2.2.2.out.2; have u0 := kb.c0; have u1 := kb.c1; have u2 := kb.c2; have uf := kb.fz; have Hfin : Hid (NTold w ⟨false, y - x, e2⟩ 100001 (.returned (.agg #[.bool false, .slice A8 m8 c8, .int .i64 e2])) (World.put w9 (w.heap.size + 1 + 1) false A8 m8 c8 e2)) := ⟨A8, m8, c8, rs, rfl, hm8, kb.dig hP8.out.1 _ _ _ _ _, hP8.out.2.1, hP8.out.2.2, below_put hX.2.2.2.2.2.2.out.1.2.2.2.2 (by omega) _ _ _ _ _⟩; have hW := hX.2.2.2.2.2.2.out; have Kp : Hid (World.cell? (World.put w9 (w.heap.size + 1 + 1) false A8 m8 c8 e2) ⟨w.heap.size + 1, 0, none⟩ = some (.bool false)) := (hW.1.2.1.other (by omega) _ _ _ _ _).c0; clear kb hP8 hW))
  all_goals (
    go_wp2_with fail
    exact bodyPost_ret (v := .agg #[.bool false, .slice A8 m8 c8, .int .i64 e2]) (by simp [results, Tryz.results50, go_sem, u0, u1, u2]) rfl Hfin.out)

set_option maxHeartbeats 1000000 in
theorem radd_ltT_G (x y q : Nat) (A : Option Addr) (n c : Nat) (ds : List Nat) (e1 : Int) (B : Option Addr) (m d : Nat) (es : List Nat) (e2 : Int) (w : World) (hA : Dig w A n c ds) (hB : Dig w B m d es) (ba : D.Bare ds) (bb : D.Bare es) (hn : n ≤ 1000) (hm : m ≤ 1000) (hn0 : n ≠ 0) (hm0 : m ≠ 0)
    (hd : e2 - e1 = (q : Int)) (hq : q ≤ 16000) (hx : Hid (D.val ds = x)) (hy : Hid (D.val es * 2 ^ q = y)) (ho : x < y) :
    Calls Tryz.prog 50 #[.agg #[.bool true, .slice A n c, .int .i64 e1], .agg #[.bool false, .slice B m d, .int .i64 e2]] w (NTold w ⟨false, y - x, e1⟩ 100001) := by
  have h0 : HS3 w w.heap.size true A n c ds e1 (w.heap.size + 1) false B m d es e2 (w.heap.size + 1 + 1) _ := HN.start3 w true A n c ds e1 false B m d es e2 hA hB
  have K0 := Lib.hid (h0.below (below_drew _)).cells
  have HP1 : Hid (∀ u, CellsS w w.heap.size true A n c ds e1 (w.heap.size + 1) false B m d es e2 (w.heap.size + 1 + 1) u → Calls Tryz.prog 64 #[.slice A n c, .int .i64 0] u fun e w' => ∃ (A6 : Option Addr) (m6 c6 : Nat) (ps : List Nat), e = .returned (.slice A6 m6 c6) ∧ m6 ≤ 100000 ∧ CellsS w w.heap.size true A n c ds e1 (w.heap.size + 1) false B m d es e2 (w.heap.size + 1 + 1) w' ∧ Hid (Dig w' A6 m6 c6 ps ∧ D.Bare ps ∧ D.val ps = x ∧ Below u.heap.size u w')) := fun u hu => by
    have h := hu.2.2.2.2.2.2.out
    have this := rshl_any A n c ds 0 u h.1.2.2.1 ba (by omega) (by omega)
    rw [show ((0 : Nat) : Int) = 0 from rfl, Nat.pow_zero, Nat.mul_one] at this
    rw [hx.out] at this
    refine this.mono ?_
    rintro e w' ⟨A6, m6, c6, ps, rfl, q1, q2, q3, q4, q5⟩
    exact ⟨A6, m6, c6, ps, rfl, q1, (h.below q5).cells, q2, q3, q4, q5⟩
  have HP2 : Hid (∀ u, CellsS w w.heap.size true A n c ds e1 (w.heap.size + 1) false B m d es e2 (w.heap.size + 1 + 1) u → Calls Tryz.prog 64 #[.slice B m d, .int .i64 (q : Int)] u fun e w' => ∃ (A6 : Option Addr) (m6 c6 : Nat) (ps : List Nat), e = .returned (.slice A6 m6 c6) ∧ m6 ≤ 100000 ∧ CellsS w w.heap.size true A n c ds e1 (w.heap.size + 1) false B m d es e2 (w.heap.size + 1 + 1) w' ∧ Hid (Dig w' A6 m6 c6 ps ∧ D.Bare ps ∧ D.val ps = y ∧ Below u.heap.size u w')) := fun u hu => by
    have h := hu.2.2.2.2.2.2.out
    have this := rshl_any B m d es q u h.1.2.2.2.1 bb (by omega) (by omega)
    rw [hy.out] at this
    refine this.mono ?_
    rintro e w' ⟨A6, m6, c6, ps, rfl, q1, q2, q3, q4, q5⟩
    exact ⟨A6, m6, c6, ps, rfl, q1, (h.below q5).cells, q2, q3, q4, q5⟩
  have hwq : IntKind.i64.wrap (q : Int) = (q : Int) := by rw [IntKind.wrap_i64]; omega
  have hw0 : IntKind.i64.wrap 0 = 0 := by decide
  have c1 : ((n : Int) == 0) = false := beq_no (by omega)
  have c2 : ((m : Int) == 0) = false := beq_no (by omega)
  have x1 := h0.1.1.c1
  have x2 := h0.1.1.c2
  have y1 := h0.1.2.1.c1
  have y2 := h0.1.2.1.c2
  have b1 : decide (e2 < e1) = false := decide_eq_false (by omega)
  clear hA hB ba bb hx hy h0 hn0 hm0
  go_enter Tryz.func50, Tryz.ntmps50
  go_wp2_with fail
  go_region_held3 (fun w' => w'.cell? ⟨w.heap.size, 0, none⟩ = some (.bool true) ∧ w'.cell? ⟨w.heap.size, 1, none⟩ = some (.slice A n c) ∧ w'.cell? ⟨w.heap.size, 2, none⟩ = some (.int .i64 e1) ∧ w'.cell? ⟨w.heap.size + 1, 0, none⟩ = some (.bool false) ∧ w'.cell? ⟨w.heap.size + 1, 1, none⟩ = some (.slice B m d) ∧ w'.cell? ⟨w.heap.size + 1, 2, none⟩ = some (.int .i64 e2) ∧ Hid (HS3 w w.heap.size true A n c ds e1 (w.heap.size + 1) false B m d es e2 (w.heap.size + 1 + 1) w'))
    (first | (with_reducible exact K0.out) | (with_reducible assumption))
    (first | (go_at_call 64; (with_reducible refine (HP1.out _ (by first | (with_reducible exact K0.out) | (with_reducible assumption))).mono ?_); rintro e w1 ⟨A6, m6, c6, ps, rfl, hm6, hY, hP6⟩) | (go_at_call 64; (with_reducible refine (HP2.out _ (by first | (with_reducible exact K0.out) | (with_reducible assumption))).mono ?_); rintro e w2 ⟨A7, m7, c7, qs, rfl, hm7, hZ, hP7⟩))
  have G1 := hP6.out.1.below hP7.out.2.2.2
  have G2 := hP7.out.1
  have HZ := Lib.hid hZ.2.2.2.2.2.2.out
  have HB := Lib.hid (And.intro hP6.out.2.1 (And.intro hP6.out.2.2.1 (And.intro hP7.out.2.1 hP7.out.2.2.1)))
  have Z0 := Lib.hid (HZ.out.below (below_drew _)).cells
  have HC : Hid (∀ u, Dig u A6 m6 c6 ps → Dig u A7 m7 c7 qs → CellsS w w.heap.size true A n c ds e1 (w.heap.size + 1) false B m d es e2 (w.heap.size + 1 + 1) u → Calls Tryz.prog 67 #[.slice A7 m7 c7, .slice A6 m6 c6] u fun e w' => ∃ (A8 : Option Addr) (m8 c8 : Nat) (rs : List Nat), e = .returned (.slice A8 m8 c8) ∧ m8 ≤ 100001 ∧ CellsS w w.heap.size true A n c ds e1 (w.heap.size + 1) false B m d es e2 (w.heap.size + 1 + 1) w' ∧ Hid (Dig w' A8 m8 c8 rs ∧ D.Bare rs ∧ D.val rs = y - x)) := fun u d1 d2 hu => by
    have h := hu.2.2.2.2.2.2.out
    refine (rsub_any A7 m7 c7 qs A6 m6 c6 ps u d2 d1 HB.out.1 (by rw [HB.out.2.1, HB.out.2.2.2]; omega) (by omega) (by omega)).mono ?_
    rintro e w' ⟨A8, m8, c8, rs, rfl, q1, q2, q3, q4, q5⟩
    exact ⟨A8, m8, c8, rs, rfl, by omega, (h.below q5).cells, q2, q3, by rw [q4, HB.out.2.1, HB.out.2.2.2]⟩
  obtain ⟨z, hz⟩ : ∃ z, cmpZ x y = z := ⟨_, rfl⟩
  have HR := rcmp_any A6 m6 c6 ps A7 m7 c7 qs w2 G1 G2 HB.out.1 HB.out.2.2.1 (by omega) (by omega)
  rw [HB.out.2.1, HB.out.2.2.2, hz] at HR
  have HR := Lib.hid HR
  have b3 : decide (0 ≤ z) = false := by
    rw [← hz]
    rw [cmpZ_lt ho]; rfl
  have G1h := Lib.hid G1
  have G2h := Lib.hid G2
  clear hz
  clear K0 HP1 HP2 hY hP6 hP7 c1 c2 x1 x2 y1 y2 b1 G1 G2
  obtain ⟨x0, x1, x2, y0, y1, y2, _⟩ := hZ
  go_wp2_with fail
  refine HR.out.mono ?_
  rintro e w3 ⟨rfl, nq, rfl⟩
  have Hq := Lib.hid (HZ.out.below (below_drewN (Below.refl _ _) nq))
  have Zq := Lib.hid (HZ.out.below (below_drewN (Below.refl _ _) (nq + 1))).cells
  have Zr := Lib.hid (Hq.out.below (below_drew _)).cells
  have G1q := Lib.hid (G1h.out.drewN (nq + 1))
  have G2q := Lib.hid (G2h.out.drewN (nq + 1))
  obtain ⟨v0, v1, v2, s0, s1, s2, _⟩ := Hq.out.cells
  clear x0 x1 x2 y0 y1 y2 HR HZ Z0
  go_wp2_with fail
  go_region_held3 (fun w' => w'.cell? ⟨w.heap.size + 1, 0, none⟩ = some (.bool false))
    (first | (with_reducible exact Zq.out.2.2.2.1) | (with_reducible exact Zr.out.2.2.2.1) | (with_reducible exact Kp.out) | (with_reducible exact hX.2.2.2.1))
    ((go_at_call 67; (with_reducible refine (HC.out _ G1q.out G2q.out Zq.out).mono ?_); rintro e w9 ⟨A8, m8, c8, rs, rfl, hm8, hX, hP8⟩; have kb := hX.2.2.2.2.2.2.out.2; have u0 := kb.c0; have u1 := kb.c1; have u2 := kb.c2; have uf := kb.fz; have Hfin : Hid (NTold w ⟨false, y - x, e1⟩ 100001 (.returned (.agg #[.bool false, .slice A8 m8 c8, .int .i64 e1])) (World.put w9 (w.heap.size + 1 + 1) false A8 m8 c8 e1)) := ⟨A8, m8, c8, rs, rfl, hm8, kb.dig hP8.out.1 _ _ _ _ _, hP8.out.2.1, hP8.out.2.2, below_put hX.2.2.2.2.2.2.out.1.2.2.2.2 (by omega) _ _ _ _ _⟩; have hW := hX.2.2.2.2.2.2.out; have Kp : Hid (World.cell? (World.put w9 (w.heap.size + 1 + 1) false A8 m8 c8 e1) ⟨w.heap.size + 1, 0, none⟩ = some (.bool false)) := (hW.1.2.1.other (by omega) _ _ _ _ _).c0; clear kb hP8 hW))
  all_goals (
    go_wp2_with fail
    exact bodyPost_ret (v := .agg #[.bool false, .slice A8 m8 c8, .int .i64 e1]) (by simp [results, Tryz.results50, go_sem, u0, u1, u2]) rfl Hfin.out)

end Go.Proofs.YtmmeejofepmgaaaGreatDoor
/- The document's sum of any two numbers whose exponents are near. -/
namespace Go.Proofs.YtmmeejofepmgaaaGreatDoor
open Go.RowKit

/-- The second number is 0: the first one. -/
theorem radd_zero2 (g : Bool) (A : Option Addr) (n c : Nat) (ds : List Nat) (e1 : Int) (k : Bool) (B : Option Addr) (d : Nat) (e2 : Int) (w : World) (hA : Dig w A n c ds) (ba : D.Bare ds) (hn0 : n ≠ 0) :
    Calls Tryz.prog 50 #[.agg #[.bool g, .slice A n c, .int .i64 e1], .agg #[.bool k, .slice B 0 d, .int .i64 e2]] w (NTold w ⟨g, D.val ds, e1⟩ n) := by
  have h0 := (HN.start w g A n c ds e1 k B 0 d [] e2 hA (Dig.nil _ _ _)).below (below1 _ (.cells #[.bool g, .slice A n c, .int .i64 e1] 30))
  have Hfin : Hid (NTold w ⟨g, D.val ds, e1⟩ n (.returned (.agg #[.bool g, .slice A n c, .int .i64 e1])) (((w.alloc (.cells #[.bool g, .slice A n c, .int .i64 e1] 30)).alloc (.cells #[.bool k, .slice B 0 d, .int .i64 e2] 30)).alloc (.cells #[.bool g, .slice A n c, .int .i64 e1] 30))) :=
    ⟨A, n, c, ds, rfl, Nat.le_refl _, h0.2.2.1, ba, rfl, h0.2.2.2.2⟩
  have c1 : ((n : Int) == 0) = false := beq_no (by omega)
  clear h0 hA ba hn0
  go_enter Tryz.func50, Tryz.ntmps50
  go_wp2
  exact bodyPost_ret (v := .agg #[.bool g, .slice A n c, .int .i64 e1]) (by simp [results, Tryz.results50, go_sem]) rfl Hfin.out

theorem dw_pos (x : Nat) (e : Int) : dw false x e = (sz x e : Int) := rfl
theorem dw_negs (x : Nat) (e : Int) : dw true x e = -(sz x e : Int) := rfl
theorem sz_add (x y : Nat) (e : Int) : sz (x + y) e = sz x e + sz y e := by unfold sz; rw [Nat.add_mul]
theorem sz_sub (x y : Nat) (e : Int) (h : y ≤ x) : (sz (x - y) e : Int) = (sz x e : Int) - (sz y e : Int) := by
  have h1 := sz_add (x - y) y e
  rw [Nat.sub_add_cancel h] at h1
  omega
/-- Add tells the number o of two such. -/
def AddsTo (g k : Bool) (V1 V2 : Nat) (e1 e2 : Int) (o : Dy) : Prop :=
  ∀ (A : Option Addr) (n c : Nat) (ds : List Nat) (B : Option Addr) (m d : Nat) (es : List Nat) (w : World), Dig w A n c ds → Dig w B m d es → D.Bare ds → D.Bare es → n ≤ 1000 → m ≤ 1000 → D.val ds = V1 → D.val es = V2 →
        Calls Tryz.prog 50 #[.agg #[.bool g, .slice A n c, .int .i64 e1], .agg #[.bool k, .slice B m d, .int .i64 e2]] w (NTold w o 100001)
/-- What Add tells of any two numbers: a number that is worth their sum. -/
theorem gadd_spec (g k : Bool) (V1 V2 : Nat) (e1 e2 : Int) (h1 : -1073741824 ≤ e1) (h2 : e1 ≤ 1073741824) (h3 : -1073741824 ≤ e2) (h4 : e2 ≤ 1073741824) (h5 : e1 ≤ e2 + 16000) (h6 : e2 ≤ e1 + 16000) :
    ∃ o : Dy, dw o.neg o.V o.e = dw g V1 e1 + dw k V2 e2 ∧ -1073741824 ≤ o.e ∧ o.e ≤ 1073741824 ∧ (o.e = e1 ∨ o.e = e2) ∧ (o.e ≤ e1 ∨ V1 = 0) ∧ (o.e ≤ e2 ∨ V2 = 0) ∧
      AddsTo g k V1 V2 e1 e2 o := by
  by_cases z1 : V1 = 0
  · refine ⟨⟨k, V2, e2⟩, by rw [z1, dw_zero]; simp, h3, h4, Or.inr rfl, Or.inr z1, Or.inl (Int.le_refl _), ?_⟩
    intro A n c ds B m d es w hA hB ba bb hn hm v1 v2
    obtain rfl : n = 0 := (dnil_iff hA ba).2 (v1.trans z1)
    refine (radd_zero g A c e1 k B m d es e2 w hB bb).mono ?_
    rintro e w' ⟨A5, m5, c5, rs, rfl, k1, k2, k3, k4, k5⟩
    exact ⟨A5, m5, c5, rs, rfl, by omega, k2, k3, k4.trans v2, k5⟩
  · by_cases z2 : V2 = 0
    · refine ⟨⟨g, V1, e1⟩, by rw [z2, dw_zero]; simp, h1, h2, Or.inl rfl, Or.inl (Int.le_refl _), Or.inr z2, ?_⟩
      intro A n c ds B m d es w hA hB ba bb hn hm v1 v2
      obtain rfl : m = 0 := (dnil_iff hB bb).2 (v2.trans z2)
      refine (radd_zero2 g A n c ds e1 k B d e2 w hA ba (fun h => z1 (v1.symm.trans ((dnil_iff hA ba).1 h)))).mono ?_
      rintro e w' ⟨A5, m5, c5, rs, rfl, k1, k2, k3, k4, k5⟩
      exact ⟨A5, m5, c5, rs, rfl, by omega, k2, k3, k4.trans v1, k5⟩
    · have nz1 : ∀ {w : World} {A : Option Addr} {n c : Nat} {ds : List Nat}, Dig w A n c ds → D.Bare ds → D.val ds = V1 → n ≠ 0 := fun hA ba v1 h => z1 (v1.symm.trans ((dnil_iff hA ba).1 h))
      have nz2 : ∀ {w : World} {A : Option Addr} {n c : Nat} {ds : List Nat}, Dig w A n c ds → D.Bare ds → D.val ds = V2 → n ≠ 0 := fun hA ba v1 h => z2 (v1.symm.trans ((dnil_iff hA ba).1 h))
      by_cases hl : e2 < e1
      · obtain ⟨q, hq⟩ : ∃ q : Nat, e1 - e2 = (q : Int) := ⟨(e1 - e2).toNat, by omega⟩
        have hh : held e1 = held e2 + q := by rw [held_id h1 h2, held_id h3 h4]; omega
        have hs : sz V1 e1 = sz (V1 * 2 ^ q) e2 := sz_shift hh
        have key : ∀ o : Dy, o.e = e2 → dw o.neg o.V o.e = dw g V1 e1 + dw k V2 e2 → AddsTo g k V1 V2 e1 e2 o → (∃ o : Dy, dw o.neg o.V o.e = dw g V1 e1 + dw k V2 e2 ∧ -1073741824 ≤ o.e ∧ o.e ≤ 1073741824 ∧ (o.e = e1 ∨ o.e = e2) ∧ (o.e ≤ e1 ∨ V1 = 0) ∧ (o.e ≤ e2 ∨ V2 = 0) ∧ AddsTo g k V1 V2 e1 e2 o) := fun o ho hw hc => ⟨o, hw, by omega, by omega, Or.inr ho, Or.inl (by omega), Or.inl (by omega), hc⟩
        cases g <;> cases k
        · exact key ⟨false, V1 * 2 ^ q + V2, e2⟩ rfl (by simp only [dw_pos]; rw [hs, sz_add]; omega) (fun A n c ds B m d es w hA hB ba bb hn hm v1 v2 => radd_sum_L (V1 * 2 ^ q) V2 q A n c ds e1 B m d es e2 w hA hB ba bb hn hm (nz1 hA ba v1) (nz2 hB bb v2) hq (by omega) hl (by show _ = _; rw [v1]) v2)
        · rcases Nat.lt_or_ge (V1 * 2 ^ q) V2 with ho | ho
          · exact key ⟨true, V2 - V1 * 2 ^ q, e2⟩ rfl (by simp only [dw_pos, dw_negs]; rw [hs, sz_sub _ _ _ (by omega)]; omega) (fun A n c ds B m d es w hA hB ba bb hn hm v1 v2 => radd_lt_L (V1 * 2 ^ q) V2 q A n c ds e1 B m d es e2 w hA hB ba bb hn hm (nz1 hA ba v1) (nz2 hB bb v2) hq (by omega) hl (by show _ = _; rw [v1]) v2 ho)
          · exact key ⟨false, V1 * 2 ^ q - V2, e2⟩ rfl (by simp only [dw_pos, dw_negs]; rw [hs, sz_sub _ _ _ ho]; omega) (fun A n c ds B m d es w hA hB ba bb hn hm v1 v2 => radd_ge_L (V1 * 2 ^ q) V2 q A n c ds e1 B m d es e2 w hA hB ba bb hn hm (nz1 hA ba v1) (nz2 hB bb v2) hq (by omega) hl (by show _ = _; rw [v1]) v2 ho)
        · rcases Nat.lt_or_ge (V1 * 2 ^ q) V2 with ho | ho
          · exact key ⟨false, V2 - V1 * 2 ^ q, e2⟩ rfl (by simp only [dw_pos, dw_negs]; rw [hs, sz_sub _ _ _ (by omega)]; omega) (fun A n c ds B m d es w hA hB ba bb hn hm v1 v2 => radd_ltT_L (V1 * 2 ^ q) V2 q A n c ds e1 B m d es e2 w hA hB ba bb hn hm (nz1 hA ba v1) (nz2 hB bb v2) hq (by omega) hl (by show _ = _; rw [v1]) v2 ho)
          · exact key ⟨true, V1 * 2 ^ q - V2, e2⟩ rfl (by simp only [dw_pos, dw_negs]; rw [hs, sz_sub _ _ _ ho]; omega) (fun A n c ds B m d es w hA hB ba bb hn hm v1 v2 => radd_geT_L (V1 * 2 ^ q) V2 q A n c ds e1 B m d es e2 w hA hB ba bb hn hm (nz1 hA ba v1) (nz2 hB bb v2) hq (by omega) hl (by show _ = _; rw [v1]) v2 ho)
        · exact key ⟨true, V1 * 2 ^ q + V2, e2⟩ rfl (by simp only [dw_negs]; rw [hs, sz_add]; omega) (fun A n c ds B m d es w hA hB ba bb hn hm v1 v2 => radd_sumT_L (V1 * 2 ^ q) V2 q A n c ds e1 B m d es e2 w hA hB ba bb hn hm (nz1 hA ba v1) (nz2 hB bb v2) hq (by omega) hl (by show _ = _; rw [v1]) v2)
      · obtain ⟨q, hq⟩ : ∃ q : Nat, e2 - e1 = (q : Int) := ⟨(e2 - e1).toNat, by omega⟩
        have hh : held e2 = held e1 + q := by rw [held_id h1 h2, held_id h3 h4]; omega
        have hs : sz V2 e2 = sz (V2 * 2 ^ q) e1 := sz_shift hh
        have key : ∀ o : Dy, o.e = e1 → dw o.neg o.V o.e = dw g V1 e1 + dw k V2 e2 → AddsTo g k V1 V2 e1 e2 o → (∃ o : Dy, dw o.neg o.V o.e = dw g V1 e1 + dw k V2 e2 ∧ -1073741824 ≤ o.e ∧ o.e ≤ 1073741824 ∧ (o.e = e1 ∨ o.e = e2) ∧ (o.e ≤ e1 ∨ V1 = 0) ∧ (o.e ≤ e2 ∨ V2 = 0) ∧ AddsTo g k V1 V2 e1 e2 o) := fun o ho hw hc => ⟨o, hw, by omega, by omega, Or.inl ho, Or.inl (by omega), Or.inl (by omega), hc⟩
        cases g <;> cases k
        · exact key ⟨false, V1 + V2 * 2 ^ q, e1⟩ rfl (by simp only [dw_pos]; rw [hs, sz_add]; omega) (fun A n c ds B m d es w hA hB ba bb hn hm v1 v2 => radd_sum_G V1 (V2 * 2 ^ q) q A n c ds e1 B m d es e2 w hA hB ba bb hn hm (nz1 hA ba v1) (nz2 hB bb v2) hq (by omega) v1 (by show _ = _; rw [v2]))
        · rcases Nat.lt_or_ge V1 (V2 * 2 ^ q) with ho | ho
          · exact key ⟨true, V2 * 2 ^ q - V1, e1⟩ rfl (by simp only [dw_pos, dw_negs]; rw [hs, sz_sub _ _ _ (by omega)]; omega) (fun A n c ds B m d es w hA hB ba bb hn hm v1 v2 => radd_lt_G V1 (V2 * 2 ^ q) q A n c ds e1 B m d es e2 w hA hB ba bb hn hm (nz1 hA ba v1) (nz2 hB bb v2) hq (by omega) v1 (by show _ = _; rw [v2]) ho)
          · exact key ⟨false, V1 - V2 * 2 ^ q, e1⟩ rfl (by simp only [dw_pos, dw_negs]; rw [hs, sz_sub _ _ _ ho]; omega) (fun A n c ds B m d es w hA hB ba bb hn hm v1 v2 => radd_ge_G V1 (V2 * 2 ^ q) q A n c ds e1 B m d es e2 w hA hB ba bb hn hm (nz1 hA ba v1) (nz2 hB bb v2) hq (by omega) v1 (by show _ = _; rw [v2]) ho)
        · rcases Nat.lt_or_ge V1 (V2 * 2 ^ q) with ho | ho
          · exact key ⟨false, V2 * 2 ^ q - V1, e1⟩ rfl (by simp only [dw_pos, dw_negs]; rw [hs, sz_sub _ _ _ (by omega)]; omega) (fun A n c ds B m d es w hA hB ba bb hn hm v1 v2 => radd_ltT_G V1 (V2 * 2 ^ q) q A n c ds e1 B m d es e2 w hA hB ba bb hn hm (nz1 hA ba v1) (nz2 hB bb v2) hq (by omega) v1 (by show _ = _; rw [v2]) ho)
          · exact key ⟨true, V1 - V2 * 2 ^ q, e1⟩ rfl (by simp only [dw_pos, dw_negs]; rw [hs, sz_sub _ _ _ ho]; omega) (fun A n c ds B m d es w hA hB ba bb hn hm v1 v2 => radd_geT_G V1 (V2 * 2 ^ q) q A n c ds e1 B m d es e2 w hA hB ba bb hn hm (nz1 hA ba v1) (nz2 hB bb v2) hq (by omega) v1 (by show _ = _; rw [v2]) ho)
        · exact key ⟨true, V1 + V2 * 2 ^ q, e1⟩ rfl (by simp only [dw_negs]; rw [hs, sz_add]; omega) (fun A n c ds B m d es w hA hB ba bb hn hm v1 v2 => radd_sumT_G V1 (V2 * 2 ^ q) q A n c ds e1 B m d es e2 w hA hB ba bb hn hm (nz1 hA ba v1) (nz2 hB bb v2) hq (by omega) v1 (by show _ = _; rw [v2]))
end Go.Proofs.YtmmeejofepmgaaaGreatDoor
/- The document's Cmp of any two numbers (written by law_gcmp.py). -/
namespace Go.Proofs.YtmmeejofepmgaaaGreatDoor
open Go.RowKit

theorem cmpZ_turn (x y : Nat) : cmpI (-(x : Int)) (-(y : Int)) = - cmpZ x y := by
  rcases Nat.lt_trichotomy x y with h | h | h
  · rw [cmpZ_lt h, cmpI_gt (by omega)]; rfl
  · rw [cmpZ_eq h, cmpI_eq (by omega)]; rfl
  · rw [cmpZ_gt h, cmpI_lt (by omega)]
theorem cmpZ_keep (x y : Nat) : cmpI (x : Int) (y : Int) = cmpZ x y := by
  rcases Nat.lt_trichotomy x y with h | h | h
  · rw [cmpZ_lt h, cmpI_lt (by omega)]
  · rw [cmpZ_eq h, cmpI_eq (by omega)]
  · rw [cmpZ_gt h, cmpI_gt (by omega)]
/-- The sign of a difference. -/
theorem sgD_sub {o : Dy} {V U : Nat} {e f : Int} (h : dw o.neg o.V o.e = dw true V e + dw false U f) : sgD o.neg o.V = cmpI (dw true V e) (dw true U f) := by
  have h2 : dw true U f = - dw false U f := by rw [dw_negs, dw_pos]
  rcases sgD_spec o.neg o.V o.e with ⟨k1, _, k3⟩ | ⟨k1, _, k3, k4⟩ | ⟨k1, _, k3, k4⟩
  · rw [k1, cmpI_eq (by omega)]
  · rw [k1, cmpI_lt (by omega)]
  · rw [k1, cmpI_gt (by omega)]
set_option maxHeartbeats 2000000 in
theorem gcmp_neg (v : Int) (A : Option Addr) (n c : Nat) (ds : List Nat) (e1 : Int) (B : Option Addr) (m d : Nat) (es : List Nat) (e2 : Int) (w : World) (hA : Dig w A n c ds) (hB : Dig w B m d es) (ba : D.Bare ds) (bb : D.Bare es) (hn : n ≤ 900) (hm : m ≤ 900) (hV : D.val ds ≠ 0) (hU : D.val es ≠ 0)
    (h1 : -1073741824 ≤ e1) (h2 : e1 ≤ 1073741824) (h3 : -1073741824 ≤ e2) (h4 : e2 ≤ 1073741824) (hv : Hid (cmpI (dw true (D.val ds) e1) (dw true (D.val es) e2) = v)) :
    Calls Tryz.prog 48 #[.agg #[.bool true, .slice A n c, .int .i64 e1], .agg #[.bool true, .slice B m d, .int .i64 e2]] w fun e w' => e = .returned (.int .i64 v) ∧ Below w.heap.size w w' := by
  have hs1 : sgD true (D.val ds) = -1 := by unfold sgD; rw [if_neg hV]; rfl
  have hs2 : sgD true (D.val es) = -1 := by unfold sgD; rw [if_neg hU]; rfl
  have H0 := Lib.hid ((HN.start w true A n c ds e1 true B m d es e2 hA hB).below (below_drew _))
  have HS1 : Hid (∀ u, CellsN w w.heap.size true A n c ds e1 (w.heap.size + 1) true B m d es e2 u → Calls Tryz.prog 8 #[.agg #[.bool true, .slice A n c, .int .i64 e1]] u fun e w' => e = .returned (.int .i64 (-1)) ∧ CellsN w w.heap.size true A n c ds e1 (w.heap.size + 1) true B m d es e2 w') := fun u hu => by
    have h := hu.2.2.2.2.2.2.out
    refine (rsign_l (-1) true A n c ds e1 u h.2.2.1 ba hs1).mono ?_
    rintro e w' ⟨rfl, hb⟩
    exact ⟨rfl, (h.below hb).cells⟩
  have HS2 : Hid (∀ u, CellsN w w.heap.size true A n c ds e1 (w.heap.size + 1) true B m d es e2 u → Calls Tryz.prog 8 #[.agg #[.bool true, .slice B m d, .int .i64 e2]] u fun e w' => e = .returned (.int .i64 (-1)) ∧ CellsN w w.heap.size true A n c ds e1 (w.heap.size + 1) true B m d es e2 w') := fun u hu => by
    have h := hu.2.2.2.2.2.2.out
    refine (rsign_l (-1) true B m d es e2 u h.2.2.2.1 bb hs2).mono ?_
    rintro e w' ⟨rfl, hb⟩
    exact ⟨rfl, (h.below hb).cells⟩
  have hz := dnil_iff hA ba
  have hz2 := dnil_iff hB bb
  have lt1 := D.val_lt hA.words
  have lt2 := D.val_lt hB.words
  rw [hA.len, D.pw_two] at lt1
  rw [hB.len, D.pw_two] at lt2
  have bl1 := blen_le_iff.2 lt1
  have bl2 := blen_le_iff.2 lt2
  have hv' := hv.out
  have HBA := Lib.hid ba
  have HBB := Lib.hid bb
  clear hA hB ba bb lt1 lt2 hs1 hs2 hv
  have hn0 : n ≠ 0 := fun h => hV (hz.1 h)
  have hm0 : m ≠ 0 := fun h => hU (hz2.1 h)
  have B1 := blen_pos hV
  have B2 := blen_pos hU
  obtain ⟨t1, ht1⟩ : ∃ t, rtop (D.val ds) e1 = t := ⟨_, rfl⟩
  obtain ⟨t2, ht2⟩ : ∃ t, rtop (D.val es) e2 = t := ⟨_, rfl⟩
  have HT1 : Hid (∀ u, CellsN w w.heap.size true A n c ds e1 (w.heap.size + 1) true B m d es e2 u → Calls Tryz.prog 63 #[.agg #[.bool true, .slice A n c, .int .i64 e1]] u fun e w' => e = .returned (.int .i64 t1) ∧ CellsN w w.heap.size true A n c ds e1 (w.heap.size + 1) true B m d es e2 w') := fun u hu => by
    have h := hu.2.2.2.2.2.2.out
    refine (rtop_l t1 true A n c ds e1 u h.2.2.1 HBA.out (by omega) (by omega) (by omega) ht1).mono ?_
    rintro e w' ⟨rfl, hb⟩
    exact ⟨rfl, (h.below hb).cells⟩
  have HT2 : Hid (∀ u, CellsN w w.heap.size true A n c ds e1 (w.heap.size + 1) true B m d es e2 u → Calls Tryz.prog 63 #[.agg #[.bool true, .slice B m d, .int .i64 e2]] u fun e w' => e = .returned (.int .i64 t2) ∧ CellsN w w.heap.size true A n c ds e1 (w.heap.size + 1) true B m d es e2 w') := fun u hu => by
    have h := hu.2.2.2.2.2.2.out
    refine (rtop_l t2 true B m d es e2 u h.2.2.2.1 HBB.out (by omega) (by omega) (by omega) ht2).mono ?_
    rintro e w' ⟨rfl, hb⟩
    exact ⟨rfl, (h.below hb).cells⟩
  have htt : t1 ≠ t2 → cmpI t2 t1 = v := fun h => by
    have e1' : topD (D.val ds) e1 = t1 := by unfold topD; rw [held_id h1 h2]; exact ht1
    have e2' : topD (D.val es) e2 = t2 := by unfold topD; rw [held_id h3 h4]; exact ht2
    have := cmp_tops (e := e1) (f := e2) hV hU (by rw [e1', e2']; exact h)
    rw [e1', e2'] at this
    rw [cmpI_swap, this, ← hv']
    simp only [dw_negs]
    exact (cmpZ_turn _ _).symm
  have hnear : t1 = t2 → e1 ≤ e2 + 16000 ∧ e2 ≤ e1 + 16000 := fun h => by
    unfold rtop at ht1 ht2
    omega
  have Hv := Lib.hid hv'
  clear hv' hz hz2 hV hU ht1 ht2
  go_enter Tryz.func48, Tryz.ntmps48
  go_wp2_with fail
  go_region_held3 (fun w' => w'.cell? ⟨w.heap.size, 0, none⟩ = some (.bool true) ∧ w'.cell? ⟨w.heap.size, 1, none⟩ = some (.slice A n c) ∧ w'.cell? ⟨w.heap.size, 2, none⟩ = some (.int .i64 e1) ∧ w'.cell? ⟨w.heap.size + 1, 0, none⟩ = some (.bool true) ∧ w'.cell? ⟨w.heap.size + 1, 1, none⟩ = some (.slice B m d) ∧ w'.cell? ⟨w.heap.size + 1, 2, none⟩ = some (.int .i64 e2) ∧ Hid (HN w w.heap.size true A n c ds e1 (w.heap.size + 1) true B m d es e2 w'))
    (first | (with_reducible exact H0.out.cells) | (with_reducible assumption))
    (first | (go_at_call 8; (with_reducible refine (HS1.out _ (by with_reducible assumption)).mono ?_); rintro e w1 ⟨rfl, hY⟩) | (go_at_call 8; (with_reducible refine (HS2.out _ (by with_reducible assumption)).mono ?_); rintro e w2 ⟨rfl, hZ⟩))
  have K0 := Lib.hid (hZ.2.2.2.2.2.2.out.below (below_drew _)).cells
  clear hY hZ HS1 HS2 H0
  go_wp2_with fail
  go_region_held3 (fun w' => w'.cell? ⟨w.heap.size, 0, none⟩ = some (.bool true) ∧ w'.cell? ⟨w.heap.size, 1, none⟩ = some (.slice A n c) ∧ w'.cell? ⟨w.heap.size, 2, none⟩ = some (.int .i64 e1) ∧ w'.cell? ⟨w.heap.size + 1, 0, none⟩ = some (.bool true) ∧ w'.cell? ⟨w.heap.size + 1, 1, none⟩ = some (.slice B m d) ∧ w'.cell? ⟨w.heap.size + 1, 2, none⟩ = some (.int .i64 e2) ∧ Hid (HN w w.heap.size true A n c ds e1 (w.heap.size + 1) true B m d es e2 w'))
    (first | (with_reducible exact K0.out) | (with_reducible assumption))
    (first | (go_at_call 63; (with_reducible refine (HT1.out _ (by first | (with_reducible exact K0.out) | (with_reducible assumption))).mono ?_); rintro e w3 ⟨rfl, hY⟩) | (go_at_call 63; (with_reducible refine (HT2.out _ (by with_reducible assumption)).mono ?_); rintro e w4 ⟨rfl, hZ⟩))
  have K4 := Lib.hid (hZ.2.2.2.2.2.2.out.below (below_drew _)).cells
  have H4 := Lib.hid hZ.2.2.2.2.2.2.out
  obtain ⟨x0, x1, x2, y0, y1, y2, _⟩ := hZ
  clear hY K0
  by_cases hq : t1 = t2
  · obtain ⟨hq1, hq2⟩ := hnear hq
    have c1 : (t1 != t2) = false := bne_no hq
    have j1 := H4.out.1.neg_other (b' := w.heap.size + 1) (by omega) (.bool false)
    have j2 := H4.out.2.1.neg_ false
    have j3 := H4.out.2.1.neg_dig H4.out.2.2.1 (.bool false)
    have j4 := H4.out.2.1.neg_dig H4.out.2.2.2.1 (.bool false)
    have j5 := H4.out.2.2.2.2.setCell (p := ⟨w.heap.size + 1, 0, none⟩) (by show w.heap.size ≤ w.heap.size + 1; omega) (.bool false)
    have yf := H4.out.2.1.fz
    obtain ⟨o, ho1, _, _, _, _, _, ho2⟩ := gadd_spec true false (D.val ds) (D.val es) e1 e2 h1 h2 h3 h4 hq1 hq2
    have hso : sgD o.neg o.V = v := by rw [← Hv.out]; exact sgD_sub ho1
    have HA := Lib.hid (ho2 A n c ds B m d es _ j3 j4 HBA.out HBB.out (by omega) (by omega) rfl rfl)
    obtain ⟨og, oV, oE⟩ := o
    have Hso := Lib.hid hso
    clear ho1 ho2 hso
    have HJ := Lib.hid j5
    clear j1 j2 j3 j4 j5 H4 K4 htt hnear hq hq1 hq2 Hv HT1 HT2 HBA HBB bl1 bl2 B1 B2 hn0 hm0
    go_wp2_with fail
    refine HA.out.mono ?_
    rintro e w5 ⟨A5, m5, c5, rs, rfl, hm5, hl5, hd5, hv5, hb5⟩
    have HG := Lib.hid (rsign_l v og A5 m5 c5 rs oE w5 hl5 hd5 (by rw [hv5]; exact Hso.out))
    have HS5 := Lib.hid (HJ.out.trans (hb5.mono HJ.out.size))
    clear hl5 hd5 hv5 hb5 Hso HA HJ x0 x1 x2 y0 y1 y2 yf
    go_wp2_with fail
    refine HG.out.mono ?_
    rintro e w6 ⟨rfl, hb6⟩
    have Hfin := Lib.hid (HS5.out.trans (hb6.mono HS5.out.size))
    clear hb6 HS5 HG
    go_wp2
    go_ret
    exact ⟨rfl, Hfin.out⟩
  · have hvv := htt hq
    have c1 : (t1 != t2) = true := bne_yes hq
    clear htt hnear Hv HBA HBB bl1 bl2 B1 B2 hn0 hm0 H4
    rcases Int.lt_or_le t1 t2 with hlt | hge
    · obtain rfl : v = 1 := by rw [← hvv]; exact cmpI_gt hlt
      have b1 : decide (t1 < t2) = true := decide_eq_true hlt
      clear hvv hq hlt
      go_wp2_with fail
      go_region_held3 (fun w' => w'.cell? ⟨w.heap.size, 0, none⟩ = some (.bool true) ∧ w'.cell? ⟨w.heap.size, 1, none⟩ = some (.slice A n c) ∧ w'.cell? ⟨w.heap.size, 2, none⟩ = some (.int .i64 e1) ∧ w'.cell? ⟨w.heap.size + 1, 0, none⟩ = some (.bool true) ∧ w'.cell? ⟨w.heap.size + 1, 1, none⟩ = some (.slice B m d) ∧ w'.cell? ⟨w.heap.size + 1, 2, none⟩ = some (.int .i64 e2) ∧ Hid (HN w w.heap.size true A n c ds e1 (w.heap.size + 1) true B m d es e2 w'))
        (first | (with_reducible exact K4.out) | (with_reducible assumption))
        (first | (go_at_call 63; (with_reducible refine (HT1.out _ (by first | (with_reducible exact K4.out) | (with_reducible assumption))).mono ?_); rintro e w5 ⟨rfl, hY⟩) | (go_at_call 63; (with_reducible refine (HT2.out _ (by with_reducible assumption)).mono ?_); rintro e w6 ⟨rfl, hZ⟩))
      all_goals (
        have HF := Lib.hid hZ.2.2.2.2.2.2.out.2.2.2.2
        clear hY hZ HT1 HT2 K4 x0 x1 x2 y0 y1 y2
        go_wp2_with fail
        go_ret
        exact ⟨rfl, HF.out⟩)
    · obtain rfl : v = -1 := by rw [← hvv]; exact cmpI_lt (by omega)
      have b1 : decide (t1 < t2) = false := decide_eq_false (by omega)
      clear hvv hq hge
      go_wp2_with fail
      go_region_held3 (fun w' => w'.cell? ⟨w.heap.size, 0, none⟩ = some (.bool true) ∧ w'.cell? ⟨w.heap.size, 1, none⟩ = some (.slice A n c) ∧ w'.cell? ⟨w.heap.size, 2, none⟩ = some (.int .i64 e1) ∧ w'.cell? ⟨w.heap.size + 1, 0, none⟩ = some (.bool true) ∧ w'.cell? ⟨w.heap.size + 1, 1, none⟩ = some (.slice B m d) ∧ w'.cell? ⟨w.heap.size + 1, 2, none⟩ = some (.int .i64 e2) ∧ Hid (HN w w.heap.size true A n c ds e1 (w.heap.size + 1) true B m d es e2 w'))
        (first | (with_reducible exact K4.out) | (with_reducible assumption))
        (first | (go_at_call 63; (with_reducible refine (HT1.out _ (by first | (with_reducible exact K4.out) | (with_reducible assumption))).mono ?_); rintro e w5 ⟨rfl, hY⟩) | (go_at_call 63; (with_reducible refine (HT2.out _ (by with_reducible assumption)).mono ?_); rintro e w6 ⟨rfl, hZ⟩))
      all_goals (
        have HF := Lib.hid hZ.2.2.2.2.2.2.out.2.2.2.2
        clear hY hZ HT1 HT2 K4 x0 x1 x2 y0 y1 y2
        go_wp2_with fail
        go_ret
        exact ⟨rfl, HF.out⟩)

set_option maxHeartbeats 2000000 in
/-- Signs that differ, or noughts. -/
theorem gcmp_signs (v : Int) (g : Bool) (A : Option Addr) (n c : Nat) (ds : List Nat) (e1 : Int) (k : Bool) (B : Option Addr) (m d : Nat) (es : List Nat) (e2 : Int) (w : World) (hA : Dig w A n c ds) (hB : Dig w B m d es) (ba : D.Bare ds) (bb : D.Bare es)
    (h : sgD g (D.val ds) ≠ sgD k (D.val es) ∨ sgD g (D.val ds) = 0) (hv : Hid (cmpI (dw g (D.val ds) e1) (dw k (D.val es) e2) = v)) :
    Calls Tryz.prog 48 #[.agg #[.bool g, .slice A n c, .int .i64 e1], .agg #[.bool k, .slice B m d, .int .i64 e2]] w fun e w' => e = .returned (.int .i64 v) ∧ Below w.heap.size w w' := by
  have hvs : cmpI (sgD g (D.val ds)) (sgD k (D.val es)) = v := by
    rw [← hv.out]
    by_cases hne : sgD g (D.val ds) = sgD k (D.val es)
    · have h0 : sgD g (D.val ds) = 0 := by rcases h with h | h; exact absurd hne h; exact h
      rw [← cmp_noughts hne h0, cmpI_eq hne]
    · exact cmp_signs hne
  obtain ⟨s1, hs1⟩ : ∃ s, sgD g (D.val ds) = s := ⟨_, rfl⟩
  obtain ⟨s2, hs2⟩ : ∃ s, sgD k (D.val es) = s := ⟨_, rfl⟩
  have H0 := Lib.hid ((HN.start w g A n c ds e1 k B m d es e2 hA hB).below (below_drew _))
  have HS1 : Hid (∀ u, CellsN w w.heap.size g A n c ds e1 (w.heap.size + 1) k B m d es e2 u → Calls Tryz.prog 8 #[.agg #[.bool g, .slice A n c, .int .i64 e1]] u fun e w' => e = .returned (.int .i64 s1) ∧ CellsN w w.heap.size g A n c ds e1 (w.heap.size + 1) k B m d es e2 w') := fun u hu => by
    have h := hu.2.2.2.2.2.2.out
    refine (rsign_l s1 g A n c ds e1 u h.2.2.1 ba hs1).mono ?_
    rintro e w' ⟨rfl, hb⟩
    exact ⟨rfl, (h.below hb).cells⟩
  have HS2 : Hid (∀ u, CellsN w w.heap.size g A n c ds e1 (w.heap.size + 1) k B m d es e2 u → Calls Tryz.prog 8 #[.agg #[.bool k, .slice B m d, .int .i64 e2]] u fun e w' => e = .returned (.int .i64 s2) ∧ CellsN w w.heap.size g A n c ds e1 (w.heap.size + 1) k B m d es e2 w') := fun u hu => by
    have h := hu.2.2.2.2.2.2.out
    refine (rsign_l s2 k B m d es e2 u h.2.2.2.1 bb hs2).mono ?_
    rintro e w' ⟨rfl, hb⟩
    exact ⟨rfl, (h.below hb).cells⟩
  rw [hs1, hs2] at hvs
  rw [hs1, hs2] at h
  clear hA hB ba bb hs1 hs2 hv
  have hc : (s1 < s2 ∧ v = -1) ∨ (s1 = s2 ∧ s1 = 0 ∧ v = 0) ∨ (s2 < s1 ∧ v = 1) := by
    rcases Int.lt_trichotomy s1 s2 with h9 | h9 | h9
    · exact Or.inl ⟨h9, by rw [← hvs]; exact cmpI_lt h9⟩
    · exact Or.inr (Or.inl ⟨h9, by rcases h with h | h; exact absurd h9 h; exact h, by rw [← hvs]; exact cmpI_eq h9⟩)
    · exact Or.inr (Or.inr ⟨h9, by rw [← hvs]; exact cmpI_gt h9⟩)
  clear h hvs
  go_enter Tryz.func48, Tryz.ntmps48
  go_wp2_with fail
  go_region_held3 (fun w' => w'.cell? ⟨w.heap.size, 0, none⟩ = some (.bool g) ∧ w'.cell? ⟨w.heap.size, 1, none⟩ = some (.slice A n c) ∧ w'.cell? ⟨w.heap.size, 2, none⟩ = some (.int .i64 e1) ∧ w'.cell? ⟨w.heap.size + 1, 0, none⟩ = some (.bool k) ∧ w'.cell? ⟨w.heap.size + 1, 1, none⟩ = some (.slice B m d) ∧ w'.cell? ⟨w.heap.size + 1, 2, none⟩ = some (.int .i64 e2) ∧ Hid (HN w w.heap.size g A n c ds e1 (w.heap.size + 1) k B m d es e2 w'))
    (first | (with_reducible exact H0.out.cells) | (with_reducible assumption))
    (first | (go_at_call 8; (with_reducible refine (HS1.out _ (by with_reducible assumption)).mono ?_); rintro e w1 ⟨rfl, hY⟩) | (go_at_call 8; (with_reducible refine (HS2.out _ (by with_reducible assumption)).mono ?_); rintro e w2 ⟨rfl, hZ⟩))
  have HF := Lib.hid hZ.2.2.2.2.2.2.out.2.2.2.2
  clear hY hZ HS1 HS2 H0
  rcases hc with ⟨h, rfl⟩ | ⟨rfl, rfl, rfl⟩ | ⟨h, rfl⟩
  · have c1 : (s1 != s2) = true := bne_yes (by omega)
    have c2 : decide (s1 < s2) = true := decide_eq_true h
    clear h
    go_wp2_with fail
    go_ret
    exact ⟨rfl, HF.out⟩
  · go_wp2_with fail
    go_ret
    exact ⟨rfl, HF.out⟩
  · have c1 : (s1 != s2) = true := bne_yes (by omega)
    have c2 : decide (s1 < s2) = false := decide_eq_false (by omega)
    have c3 : decide (s2 < s1) = true := decide_eq_true h
    clear h
    go_wp2_with fail
    go_ret
    exact ⟨rfl, HF.out⟩
/-- The document's Cmp of any two numbers. -/
theorem gcmp_any (v : Int) (g : Bool) (A : Option Addr) (n c : Nat) (ds : List Nat) (e1 : Int) (k : Bool) (B : Option Addr) (m d : Nat) (es : List Nat) (e2 : Int) (w : World) (hA : Dig w A n c ds) (hB : Dig w B m d es) (ba : D.Bare ds) (bb : D.Bare es) (hn : n ≤ 900) (hm : m ≤ 900)
    (h1 : -1073741824 ≤ e1) (h2 : e1 ≤ 1073741824) (h3 : -1073741824 ≤ e2) (h4 : e2 ≤ 1073741824) (hv : Hid (cmpI (dw g (D.val ds) e1) (dw k (D.val es) e2) = v)) :
    Calls Tryz.prog 48 #[.agg #[.bool g, .slice A n c, .int .i64 e1], .agg #[.bool k, .slice B m d, .int .i64 e2]] w fun e w' => e = .returned (.int .i64 v) ∧ Below w.heap.size w w' := by
  by_cases h : sgD g (D.val ds) ≠ sgD k (D.val es) ∨ sgD g (D.val ds) = 0
  · exact gcmp_signs v g A n c ds e1 k B m d es e2 w hA hB ba bb h hv
  · have hne : sgD g (D.val ds) ≠ 0 := fun h' => h (Or.inr h')
    have heq : sgD g (D.val ds) = sgD k (D.val es) := Decidable.not_not.1 (fun h' => h (Or.inl h'))
    have hV : D.val ds ≠ 0 := fun h' => hne (by rw [h']; rfl)
    have hU : D.val es ≠ 0 := fun h' => hne (by rw [heq, h']; rfl)
    have hgk : g = k := by
      unfold sgD at heq
      rw [if_neg hV, if_neg hU] at heq
      cases g <;> cases k <;> first | rfl | (exact absurd heq (by decide))
    subst hgk
    cases g
    · refine rncmp_l v A n c ds e1 B m d es e2 w hA hB ba bb hn hm hU h1 h2 h3 h4 ?_
      show cmpZ _ _ = v
      rw [← hv.out]
      simp only [dw_pos]
      exact (cmpZ_keep _ _).symm
    · exact gcmp_neg v A n c ds e1 B m d es e2 w hA hB ba bb hn hm hV hU h1 h2 h3 h4 hv
end Go.Proofs.YtmmeejofepmgaaaGreatDoor
/- What the law RatioRules rests on: numbers alone. -/
namespace Go.Proofs.YtmmeejofepmgaaaGreatDoor

theorem cmpR_ok {o1 o2 : Option Dy} {i j v : Int} (h : cmpR o1 i o2 j = (v, 0)) : ∃ x b, o1 = some x ∧ o2 = some b ∧ x.V ≠ 0 ∧ b.V ≠ 0 ∧ x.neg = false ∧ b.neg = false ∧ 1 ≤ j ∧ fitB x.V x.e i = true ∧ v = ratC x.V x.e i b.V b.e j.toNat := by
  unfold cmpR at h
  cases o1 with
  | none => injection h with _ h2; exact absurd h2 (by decide)
  | some x =>
    cases o2 with
    | none => injection h with _ h2; exact absurd h2 (by decide)
    | some b =>
      simp only at h
      split at h
      · rename_i h9
        split at h
        · rename_i h8
          injection h with h2 _
          rw [Bool.and_eq_true] at h8
          obtain ⟨a1, a2⟩ := sgD_above h9.1
          obtain ⟨a3, a4⟩ := sgD_above h9.2.1
          exact ⟨x, b, rfl, rfl, a1, a3, a2, a4, h9.2.2, h8.1, h2.symm⟩
        · injection h with _ h2; exact absurd h2 (by decide)
      · injection h with _ h2; exact absurd h2 (by decide)
theorem rule_times {o1 o2 : Option Dy} {i c d : Int} {j t : Nat} (ht : t ≠ 0) (h1 : cmpR o1 i o2 (j : Int) = (c, 0)) (h2 : cmpR o1 (i * t) o2 ((j * t : Nat) : Int) = (d, 0)) : c = d := by
  obtain ⟨x, b, q1, q2, _, _, _, _, _, _, q3⟩ := cmpR_ok h1
  obtain ⟨x', b', r1, r2, _, _, _, _, _, _, r3⟩ := cmpR_ok h2
  rw [q1] at r1
  rw [q2] at r2
  obtain rfl := Option.some.inj r1
  obtain rfl := Option.some.inj r2
  rw [q3, r3, Int.toNat_natCast, Int.toNat_natCast, ratC_times ht]
theorem rule_more {o1 : Option Dy} {i j c u : Int} {k k' : Bool} {V V' : Nat} {e e' : Int} {G : Dy} (h1 : cmpR o1 i (mk k V e) j = (c, 0)) (ha : addO (mk k V e) (mk k' V' e') = some G) (hs : 0 < sgD k' V') (h2 : cmpR o1 i (mk G.neg G.V G.e) j = (u, 0)) : u ≤ c := by
  obtain ⟨x, b, q1, q2, qV, qU, _, qn, _, _, q3⟩ := cmpR_ok h1
  obtain ⟨x', b', r1, r2, _, _, _, rn, _, _, r3⟩ := cmpR_ok h2
  rw [q1] at r1
  obtain rfl := Option.some.inj r1
  rw [q3, r3]
  refine ratC_anti (Nat.pos_of_ne_zero qV) ?_
  have f1 := mk_fine q2
  have f2 := mk_fine r2
  have f3 := (addO_fine ha).2
  rw [← cq_dw f1.1.1 f1.1.2.1 f2.1.1 f2.1.2.1]
  have e1 : dw false b.V b.e = dw k V e := by rw [← qn]; exact f1.2.1
  have e2 : dw false b'.V b'.e = dw k V e + dw k' V' e' := by rw [← rn, f2.2.1, f3]
  rw [e1, e2]
  have hp : 0 < dw k' V' e' := by
    rcases sgD_spec k' V' e' with ⟨a, _⟩ | ⟨a, _⟩ | ⟨a, _, b1, b2⟩
    · omega
    · omega
    · omega
  rw [cmpI_lt (by omega)]
  decide
theorem rule_pow {g : Bool} {V : Nat} {e : Int} {j : Nat} {p : Dy} {u : Int} (h1 : powR (mk g V e) (j : Int) = (p, 0)) (h2 : cmpR (mk g V e) (j : Int) (mk p.neg p.V p.e) 1 = (u, 0)) : u = 0 := by
  obtain ⟨x, b, q1, q2, qV, qU, qn, _, _, _, q3⟩ := cmpR_ok h2
  obtain ⟨ho, _, _⟩ := mk_odd_of q1
  rw [q1] at h1
  unfold powR at h1
  simp only at h1
  rw [if_neg (by omega), Int.toNat_natCast] at h1
  by_cases h9 : fitB x.V x.e (j : Int) = true
  · rw [if_pos h9] at h1
    injection h1 with h3 _
    unfold fitB at h9
    rw [Bool.and_eq_true, Int.natAbs_natCast] at h9
    have hb := abs_mul_le (of_decide_eq_true h9.2)
    have hmk := mk_odd_self (powD_odd ho j) (by show -1073741824 ≤ x.e * j; omega) (by show x.e * j ≤ 1073741824; omega)
    rw [h3] at hmk
    rw [hmk] at q2
    obtain rfl := Option.some.inj q2
    rw [q3, ← h3]
    exact ratC_self _ _ _
  · rw [if_neg h9] at h1
    injection h1 with _ h3; exact absurd h3 (by decide)
end Go.Proofs.YtmmeejofepmgaaaGreatDoor
