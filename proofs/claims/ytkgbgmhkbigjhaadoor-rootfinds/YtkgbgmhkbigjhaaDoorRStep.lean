/- The walks of root.step, above and whole. -/
import Derived.Test.YtkgbgmhkbigjhaaDoorRMath
import Derived.Test.YtkgbgmhkbigjhaaDoorQDiv
import Derived.Test.YtkgbgmhkbigjhaaDoorPAlive
import Derived.Test.YtkgbgmhkbigjhaaDoorWShl
import Derived.Test.YtkgbgmhkbigjhaaDoorQAlive
namespace Go.Proofs.YtkgbgmhkbigjhaaDoor
open Go.RowKit

/-- A power that fits. -/
theorem pow_fit (A : Option Addr) (n c : Nat) (xs : List Nat) (k : Nat) (w : World) (hA : Lim w A n c xs) (hn : n ≤ 1000000) (hk : k ≤ 9223372036854775807) (hfit : blen (val xs ^ k) ≤ 65536) :
    Calls Tryd.prog 20 #[.slice A n c, .int .i64 (k : Int)] w (Tells2 w (val xs ^ k) 1024 (.int .i64 0)) := by
  refine (pow_any A n c xs k w hA hn hk).mono ?_
  rintro e w' (⟨_, h⟩ | ⟨h, _⟩)
  · exact h
  · omega

set_option maxHeartbeats 2000000 in
theorem step_any (k j : Nat) (A : Option Addr) (n c : Nat) (xs : List Nat) (B : Option Addr) (m d : Nat) (ys : List Nat) (w : World) (hA : Lim w A n c xs) (hB : Lim w B m d ys) (hn : n ≤ 900000) (hm : m ≤ 900000) (hT : Tab w)
    (hj : k = j + 1) (hk : k ≤ 9223372036854775807) (hy : val ys ≠ 0) (hp : blen (val ys ^ j) ≤ 65536) (hbl : blen (val ys) + 64 ≤ 65536) :
    Calls Tryd.prog 39 #[.slice A n c, .slice B m d, .int .i64 (k : Int)] w (Tells w (nstep k (val xs) (val ys)) (max (m + 1) n + 1)) := by
  have e1 : (k : Int) - 1 = (j : Int) := by omega
  have HS : Hid (Below w.heap.size w w) := Below.refl _ _
  have HA := Lib.hid hA
  have HB := Lib.hid hB
  have HT := Lib.hid hT
  have H1 := Lib.hid (pow_fit B m d ys j w hB (by omega) (by omega) hp)
  have Hv : Hid (nstep k (val xs) (val ys) = (val ys * j + val xs / val ys ^ j) / k) := by subst hj; rfl
  have Hy := Lib.hid hy
  have Hbl := Lib.hid hbl
  have k1 : 1 ≤ k := by omega
  have j1 : j ≤ 9223372036854775806 := by omega
  clear hA hB hT hp hy hbl hj
  go_enter Tryd.func39, Tryd.ntmps39
  go_wp2_with fail
  refine H1.out.mono ?_
  rintro e w1 ⟨A1, m1, c1, ps, rfl, hm1, hl1, hb1, hv1, hB1⟩
  have HA1 := Lib.hid (HA.out.below hB1)
  have HB1 := Lib.hid (HB.out.below hB1)
  have HT1 := Lib.hid (HT.out.below hB1)
  have HS1 := Lib.hid hB1
  have H2 := Lib.hid (div_any A n c xs A1 m1 c1 ps w1 HA1.out hl1 (by omega) (by omega) (by rw [hv1]; exact Nat.pos_iff_ne_zero.1 (Nat.pow_pos (Nat.pos_of_ne_zero Hy.out))) HT1.out)
  rw [hv1] at H2
  clear HA HB HT H1 hl1 hb1 hv1 hB1 HS
  go_wp2_with fail
  refine H2.out.mono ?_
  rintro e w2 ⟨A2, m2, c2, qs, A3, m3, c3, rs, rfl, hm2, hm3, hl2, hl3, hb2, hb3, hv2, hv3, hB2⟩
  have Hq := Lib.hid hl2
  have Hvq := Lib.hid hv2
  have HB2 := Lib.hid (HB1.out.below hB2)
  have HS2 := Lib.hid (HS1.out.trans (hB2.mono HS1.out.size))
  have H3 := Lib.hid (times_any B m d ys j w2 HB2.out (by omega) (by omega) Hbl.out)
  clear HA1 HB1 HT1 HS1 H2 hl2 hl3 hb2 hb3 hv2 hv3 hB2
  go_wp2_with fail
  refine H3.out.mono ?_
  rintro e w3 ⟨A4, m4, c4, ts, rfl, hm4, hl4, hb4, hv4, hB4⟩
  have HS3 := Lib.hid (HS2.out.trans (hB4.mono HS2.out.size))
  have H4 := Lib.hid (add_any A4 m4 c4 ts A2 m2 c2 qs w3 hl4 (Hq.out.below hB4) (by omega) (by omega))
  rw [hv4, Hvq.out] at H4
  clear HB2 HS2 H3 Hq Hvq hl4 hb4 hv4 hB4
  go_wp2_with fail
  refine H4.out.mono ?_
  rintro e w4 ⟨A5, m5, c5, us, rfl, hm5, hl5, hb5, hv5, hB5⟩
  have HS4 := Lib.hid (HS3.out.trans (hB5.mono HS3.out.size))
  obtain ⟨R, hR⟩ : ∃ R, val us % k = R := ⟨_, rfl⟩
  have H5 := Lib.hid (small_any A5 m5 c5 us k w4 hl5 (by omega) (by omega) (by omega) R hR)
  rw [hv5, ← Hv.out] at H5
  clear HS3 H4 hl5 hb5 hv5 hB5 Hv hR
  go_wp2_with fail
  refine H5.out.mono ?_
  rintro e w5 ⟨A6, m6, c6, vs, rfl, hm6, hl6, hb6, hv6, hB6⟩
  have Hfin : Hid (Tells w (nstep k (val xs) (val ys)) (max (m + 1) n + 1) (.returned (.slice A6 m6 c6)) w5) := ⟨A6, m6, c6, vs, rfl, by omega, hl6, hb6, hv6, HS4.out.trans (hB6.mono HS4.out.size)⟩
  clear HS4 H5 hl6 hb6 hv6 hB6
  go_wp2
  go_ret
  exact Hfin.out

theorem shr_nat (N : Nat) (A : Option Addr) (n c : Nat) (xs : List Nat) (w : World) (hA : Lim w A n c xs) (hn : n ≤ 1099511627776) (hT : Tab w) (hN : N ≤ 9223372036854775807) (bb : Bool) (hbb : Hid (decide (val xs % 2 ^ N ≠ 0) = bb)) :
    Calls Tryd.prog 43 #[.slice A n c, .int .i64 (N : Int)] w (Tells2 w (val xs / 2 ^ N) n (.bool bb)) := by
  have h := shr_all A n c xs w hA hn hT (N : Int) (by omega)
  rw [Int.toNat_natCast, hbb.out] at h
  exact h

/-- What whole tells, as a hypothesis on shorter numbers. -/
def WholeTo (k b : Nat) : Prop :=
  ∀ (A : Option Addr) (n c : Nat) (xs : List Nat) (w : World), Lim w A n c xs → n ≤ 900000 → Tab w → blen (val xs) ≤ b →
    Calls Tryd.prog 23 #[.slice A n c, .int .i64 (k : Int)] w (Tells w (rt k (val xs)) n)

theorem upper_short {a b h k : Nat} (hb : blen a ≤ b + 1) (hh : 1 ≤ h * k) : blen (a / 2 ^ (h * k)) ≤ b := by
  apply blen_le_iff.2
  have h1 := blen_le_iff.1 hb
  apply (Nat.div_lt_iff_lt_mul (Nat.two_pow_pos _)).2
  rw [← Nat.pow_add]
  exact Nat.lt_of_lt_of_le h1 (Nat.pow_le_pow_right (by decide) (by omega))
theorem blen_add_one {x y b : Nat} (h : x ≤ y) (hy : blen y ≤ b) : blen (x + 1) ≤ b + 1 := by
  apply blen_le_iff.2
  have h1 := blen_le_iff.1 hy
  have h2 : (2 : Nat) ^ b < 2 ^ (b + 1) := Nat.pow_lt_pow_right (by decide) (Nat.lt_succ_self b)
  omega
theorem blen_of_le_pow {x p : Nat} (h : x ≤ 2 ^ p) : blen x ≤ p + 1 := by
  apply blen_le_iff.2
  have h2 : (2 : Nat) ^ p < 2 ^ (p + 1) := Nat.pow_lt_pow_right (by decide) (Nat.lt_succ_self p)
  omega

set_option maxHeartbeats 2000000 in
theorem above_of (k b q h : Nat) (A : Option Addr) (n c : Nat) (xs : List Nat) (w : World) (hA : Lim w A n c xs) (hn : n ≤ 900000) (hT : Tab w) (hk1 : 1 ≤ k) (hb : blen (val xs) = b + 1) (hkb : k ≤ b) (hb2 : b ≤ 8191)
    (hq : b / k = q) (hh : (q + 1) / 2 = h) (IH : WholeTo k b) :
    Calls Tryd.prog 38 #[.slice A n c, .int .i64 (k : Int)] w (Tells w (start k (val xs) h) 129) := by
  have hq1 : 1 ≤ q := by rw [← hq]; exact (Nat.le_div_iff_mul_le hk1).2 (by omega)
  have hqb : q ≤ b := by rw [← hq]; exact Nat.div_le_self _ _
  have hqk : q * k ≤ b := by rw [← hq]; exact Nat.div_mul_le_self _ _
  have hfit : blen (val xs) ≤ (q + 1) * k := by
    have := Nat.lt_div_mul_add (a := b) hk1
    rw [hq] at this
    rw [hb, Nat.add_mul, Nat.one_mul]
    omega
  obtain ⟨z, hz⟩ : ∃ z, h * k = z := ⟨_, rfl⟩
  have hhq : h ≤ q := by omega
  have hzb : z ≤ b := by rw [← hz]; exact Nat.le_trans (Nat.mul_le_mul_right _ hhq) hqk
  have hz1 : 1 ≤ h * k := Nat.mul_pos (by omega) hk1
  have hst : start k (val xs) h ≤ 2 ^ (q + 1) := start_le hk1 hfit (by omega)
  have Hst := Lib.hid hst
  have Hstart : Hid ((rt k (val xs / 2 ^ z) + 1) * 2 ^ h = start k (val xs) h) := by rw [← hz]; rfl
  have Hbu : Hid (blen (val xs / 2 ^ z) ≤ b) := by rw [← hz]; exact upper_short (by omega) hz1
  have Hb1 : Hid (blen (rt k (val xs / 2 ^ z) + 1) ≤ b + 1) := blen_add_one (rt_self_le hk1) Hbu.out
  have e1 : ((b + 1 : Nat) : Int) - 1 = (b : Int) := by omega
  have e1' : ((b : Int) + 1) - 1 = (b : Int) := by omega
  have e2 : (b : Int) / (k : Int) = (q : Int) := by rw [← hq]; exact (Int.natCast_ediv b k).symm
  have e3 : ((q : Int) + 1) / 2 = (h : Int) := by omega
  have e4 : (h : Int) * (k : Int) = (z : Int) := by rw [← hz]; exact (Int.natCast_mul h k).symm
  have hk0 : (k : Int) ≠ 0 := by omega
  have HA := Lib.hid hA
  have HT := Lib.hid hT
  have Hb := Lib.hid (bits_v (b + 1) A n c xs w hA (by omega) hb)
  have HIH := Lib.hid IH
  obtain ⟨bb, hbb⟩ : ∃ bb, decide (val xs % 2 ^ z ≠ 0) = bb := ⟨_, rfl⟩
  have H1 := Lib.hid (shr_nat z A n c xs w hA (by omega) hT (by omega) bb hbb)
  clear hA hT hb hq hfit hz hst hz1 hqk hh IH hbb
  go_enter Tryd.func38, Tryd.ntmps38
  go_wp2_with fail
  refine Hb.out.mono ?_
  rintro e w' ⟨rfl, rfl⟩
  go_wp2_with fail
  refine H1.out.mono ?_
  rintro e w1 ⟨A1, m1, c1, us, rfl, hm1, hl1, hb1, hv1, hB1⟩
  have HS1 := Lib.hid hB1
  have H2 := Lib.hid (HIH.out A1 m1 c1 us w1 hl1 (by omega) (HT.out.below hB1) (by rw [hv1]; exact Hbu.out))
  rw [hv1] at H2
  clear HT H1 hl1 hb1 hv1 hB1 HIH Hb HA
  go_wp2_with fail
  refine H2.out.mono ?_
  rintro e w2 ⟨A2, m2, c2, vs, rfl, hm2, hl2, hb2, hv2, hB2⟩
  have HS2 := Lib.hid (HS1.out.trans (hB2.mono HS1.out.size))
  have Hl2 := Lib.hid hl2
  have Hv2 := Lib.hid hv2
  have Ho := Lib.hid (of_any 1 (by decide) w2)
  clear HS1 H2 hl2 hb2 hv2 hB2
  go_wp2_with fail
  refine Ho.out.mono ?_
  rintro e w3 ⟨A3, m3, c3, os, rfl, hm3, hl3, hb3, hv3, hB3⟩
  have HS3 := Lib.hid (HS2.out.trans (hB3.mono HS2.out.size))
  have H4 := Lib.hid (add_any A2 m2 c2 vs A3 m3 c3 os w3 (Hl2.out.below hB3) hl3 (by omega) (by omega))
  rw [Hv2.out, hv3] at H4
  clear HS2 Ho Hl2 Hv2 hl3 hb3 hv3 hB3
  go_wp2_with fail
  refine H4.out.mono ?_
  rintro e w4 ⟨A4, m4, c4, ts, rfl, hm4, hl4, hb4, hv4, hB4⟩
  have HS4 := Lib.hid (HS3.out.trans (hB4.mono HS3.out.size))
  have H5 := Lib.hid (shl_all A4 m4 c4 ts w4 hl4 (by omega) h (by rw [hv4]; have := Hb1.out; omega))
  rw [hv4, Hstart.out] at H5
  clear HS3 H4 hl4 hb4 hv4 hB4
  go_wp2_with fail
  refine H5.out.mono ?_
  rintro e w5 ⟨A5, m5, c5, ss, rfl, hm5, hl5, hb5, hv5, hB5⟩
  have hlen : m5 ≤ 129 := by
    have := len_of_blen hl5.words hb5 (b := 8193) (L := 129) (by rw [hv5]; have := blen_of_le_pow Hst.out; omega) (by decide)
    rw [hl5.len] at this
    exact this
  have Hfin : Hid (Tells w (start k (val xs) h) 129 (.returned (.slice A5 m5 c5)) w5) := ⟨A5, m5, c5, ss, rfl, hlen, hl5, hb5, hv5, HS4.out.trans (hB5.mono HS4.out.size)⟩
  clear HS4 H5 hl5 hb5 hv5 hB5
  go_wp2
  go_ret
  exact Hfin.out

theorem rt_len {k : Nat} (hk : 1 ≤ k) {w w' : World} {A B : Option Addr} {n c m d : Nat} {xs ys : List Nat} (hA : Lim w A n c xs) (hB : Lim w' B m d ys) (hb : Bare ys) (hv : val ys = rt k (val xs)) : m ≤ n := by
  have h1 : val ys ≤ val xs := by rw [hv]; exact rt_self_le hk
  have h2 := tl_le_of_val_le hA.words h1
  rw [hb, hB.len] at h2
  have := hA.tl_le
  omega

theorem pow_short {x p j k : Nat} (h : x ≤ 2 ^ p) (hjk : j ≤ k) : blen (x ^ j) ≤ p * k + 1 := by
  apply blen_of_le_pow
  refine Nat.le_trans (Nat.pow_le_pow_left h j) ?_
  rw [← Nat.pow_mul]
  exact Nat.pow_le_pow_right (by decide) (Nat.mul_le_mul_left _ hjk)

set_option maxHeartbeats 4000000 in
theorem whole_to (k : Nat) (hk1 : 1 ≤ k) (hk : k ≤ 9223372036854775807) (b : Nat) (hb8 : b ≤ 8192) : WholeTo k b := by
  induction b with
  | zero =>
    intro A n c xs w hA hn hT hb
    have hb0 : blen (val xs) = 0 := by omega
    have Hb := Lib.hid (bits_v 0 A n c xs w hA (by omega) hb0)
    have hr := rt_few hk1 (a := val xs) (by omega)
    rw [hb0] at hr
    have Ho := Lib.hid (of_any 0 (by decide) w)
    have Hr : Hid (rt k (val xs) = 0) := hr
    have HA := Lib.hid hA
    clear hA hT hb hb0 hr
    go_enter Tryd.func23, Tryd.ntmps23
    go_wp2_with fail
    refine Hb.out.mono ?_
    rintro e w' ⟨rfl, rfl⟩
    go_wp2_with fail
    refine Ho.out.mono ?_
    rintro e w1 ⟨A1, m1, c1, us, rfl, hm1, hl1, hb1, hv1, hB1⟩
    have Hfin : Hid (Tells w (rt k (val xs)) n (.returned (.slice A1 m1 c1)) w1) := ⟨A1, m1, c1, us, rfl, rt_len hk1 HA.out hl1 hb1 (by rw [Hr.out, hv1]), hl1, hb1, by rw [Hr.out, hv1], hB1⟩
    clear Ho Hb HA hl1 hb1 hv1 hB1
    go_wp2
    go_ret
    exact Hfin.out
  | succ b IH =>
    have IHb := IH (by omega)
    intro A n c xs w hA hn hT hb
    by_cases hlt : blen (val xs) ≤ b
    · exact IHb A n c xs w hA hn hT hlt
    have hbe : blen (val xs) = b + 1 := by omega
    have Hb := Lib.hid (bits_v (b + 1) A n c xs w hA (by omega) hbe)
    have HA := Lib.hid hA
    by_cases hfew : b + 1 ≤ k
    · have hr := rt_few hk1 (a := val xs) (by omega)
      rw [hbe] at hr
      have Hr : Hid (rt k (val xs) = 1) := by rw [hr]; show min (b + 1) 1 = 1; omega
      have Ho := Lib.hid (of_any 1 (by decide) w)
      have b1 : decide (((b + 1 : Nat) : Int) ≤ (k : Int)) = true := by simp; omega
      have b2 : decide ((b : Int) + 1 ≤ (k : Int)) = true := by simp; omega
      have b3 : min ((b + 1 : Nat) : Int) 1 = 1 := by omega
      have b4 : min ((b : Int) + 1) 1 = 1 := by omega
      clear hA hT hb hbe hr IH IHb hlt
      go_enter Tryd.func23, Tryd.ntmps23
      go_wp2_with fail
      refine Hb.out.mono ?_
      rintro e w' ⟨rfl, rfl⟩
      go_wp2_with fail
      refine Ho.out.mono ?_
      rintro e w1 ⟨A1, m1, c1, us, rfl, hm1, hl1, hb1, hv1, hB1⟩
      have Hfin : Hid (Tells w (rt k (val xs)) n (.returned (.slice A1 m1 c1)) w1) := ⟨A1, m1, c1, us, rfl, rt_len hk1 HA.out hl1 hb1 (by rw [Hr.out, hv1]), hl1, hb1, by rw [Hr.out, hv1], hB1⟩
      clear Ho Hb HA hl1 hb1 hv1 hB1
      go_wp2
      go_ret
      exact Hfin.out
    · obtain ⟨q, hq⟩ : ∃ q, b / k = q := ⟨_, rfl⟩
      obtain ⟨h, hh⟩ : ∃ h, (q + 1) / 2 = h := ⟨_, rfl⟩
      obtain ⟨j, hj⟩ : ∃ j, k = j + 1 := ⟨k - 1, by omega⟩
      have hqk : q * k ≤ b := by rw [← hq]; exact Nat.div_mul_le_self _ _
      have hqb : q ≤ b := by rw [← hq]; exact Nat.div_le_self _ _
      have hfit : blen (val xs) ≤ (q + 1) * k := by
        have := Nat.lt_div_mul_add (a := b) hk1
        rw [hq] at this
        rw [hbe, Nat.add_mul, Nat.one_mul]
        omega
      have Hp : Hid (∀ x, x ≤ 2 ^ (q + 1) → blen (x ^ j) ≤ 65536 ∧ blen x ≤ 8193) := fun x hx => by
        refine ⟨?_, ?_⟩
        · have h1 := pow_short (j := j) (k := k) hx (by omega)
          rw [Nat.add_mul, Nat.one_mul] at h1
          omega
        · have := blen_of_le_pow hx
          omega
      have hst : start k (val xs) h ≤ 2 ^ (q + 1) := start_le hk1 hfit (by omega)
      have Hst : Hid (start k (val xs) h ≤ 2 ^ (q + 1) ∧ rt k (val xs) < start k (val xs) h) := ⟨hst, start_gt h hk1⟩
      have Hab := Lib.hid (above_of k b q h A n c xs w hA hn hT hk1 hbe (by omega) (by omega) hq hh IHb)
      have HT := Lib.hid hT
      have b1 : decide (((b + 1 : Nat) : Int) ≤ (k : Int)) = false := by simp; omega
      have b2 : decide ((b : Int) + 1 ≤ (k : Int)) = false := by simp; omega
      have Hj := Lib.hid hj
      have Hone : Hid (1 ≤ rt k (val xs)) := le_rt hk1 (by rw [Nat.one_pow]; exact Nat.pos_of_ne_zero fun h9 => by rw [h9] at hbe; cases hbe)
      clear hA hT hb hbe IH IHb hlt hq hh hfit hst hqk hj
      go_enter Tryd.func23, Tryd.ntmps23
      go_wp2_with fail
      refine Hb.out.mono ?_
      rintro e w' ⟨rfl, rfl⟩
      go_wp2_with fail
      refine Hab.out.mono ?_
      rintro e w1 ⟨A1, m1, c1, us, rfl, hm1, hl1, hb1, hv1, hB1⟩
      have H1 : Hid (Lim w1 A1 m1 c1 us ∧ Bare us ∧ rt k (val xs) ≤ val us ∧ 1 ≤ val us ∧ val us ≤ 2 ^ (q + 1) ∧ Below w.heap.size w w1) :=
        ⟨hl1, hb1, by rw [hv1]; exact Nat.le_of_lt Hst.out.2, by rw [hv1]; have := Hst.out.2; omega, by rw [hv1]; exact Hst.out.1, hB1⟩
      clear Hab hl1 hb1 hv1 hB1 Hst Hb
      go_wp2_with fail
      go_loopg [6] (val us) (fun g s6 wr => ∃ (A3 : Option Addr) (m3 c3 : Nat) (ts : List Nat), s6 = .slice A3 m3 c3 ∧ m3 ≤ 129 ∧ Hid (val ts = g) ∧ Hid (Lim wr A3 m3 c3 ts ∧ Bare ts ∧ rt k (val xs) ≤ val ts ∧ 1 ≤ val ts ∧ val ts ≤ 2 ^ (q + 1) ∧ Below w.heap.size w wr))
      case atStart => exact ⟨A1, m1, c1, us, rfl, hm1, rfl, H1⟩
      case round =>
        clear H1
        obtain ⟨w2, rfl⟩ : ∃ w2, w2 = wr := ⟨_, rfl⟩
        obtain ⟨A3, m3, c3, ts, rfl, hm3, Hg, H3⟩ := hrel
        obtain ⟨f1, f2, f3, f4, f5, f6⟩ := H3.out
        have Hs := Lib.hid (step_any k j A n c xs A3 m3 c3 ts w2 (HA.out.below f6) f1 hn (by omega) (HT.out.below f6) Hj.out hk (by omega) (Hp.out _ f5).1 (by have := (Hp.out _ f5).2; omega))
        have hnge := nstep_ge (a := val xs) hk1 f4
        have hnlt := nstep_lt (a := val xs) (x := val ts) hk1
        have Hn : Hid (rt k (val xs) ≤ nstep k (val xs) (val ts) ∧ (rt k (val xs) < val ts → nstep k (val xs) (val ts) < val ts)) := ⟨hnge, hnlt⟩
        clear f1 f2 f3 f4 f5 f6 hnge hnlt
        go_wp2_with fail
        refine Hs.out.mono ?_
        rintro e w5 ⟨A5, m5, c5, zs, rfl, hm5, hl5, hb5, hv5, hB5⟩
        obtain ⟨f1, f2, f3, f4, f5, f6⟩ := H3.out
        have hc := cmp_any A5 m5 c5 zs A3 m3 c3 ts w5 hl5 (f1.below hB5) (by omega) (by omega)
        have hbel := f6.trans (hB5.mono f6.size)
        rcases Nat.lt_or_ge (val zs) (val ts) with hlt | hge
        · rw [cmpZ_lt hlt] at hc
          have Hc := Lib.hid hc
          have hlen : m5 ≤ 129 := by
            have := len_of_blen hl5.words hb5 (b := 8193) (L := 129) (Hp.out _ (Nat.le_trans (Nat.le_of_lt hlt) f5)).2 (by decide)
            rw [hl5.len] at this
            exact this
          have hrt : rt k (val xs) ≤ val zs := by rw [hv5]; exact Hn.out.1
          have h1z : 1 ≤ val zs := Nat.le_trans Hone.out hrt
          have H4 : Hid (∀ q', Lim (w5.drewN q') A5 m5 c5 zs ∧ Bare zs ∧ rt k (val xs) ≤ val zs ∧ 1 ≤ val zs ∧ val zs ≤ 2 ^ (q + 1) ∧ Below w.heap.size w (w5.drewN q')) :=
            fun q' => ⟨hl5.drewN q', hb5, hrt, h1z, Nat.le_trans (Nat.le_of_lt hlt) f5, below_drewN hbel q'⟩
          have Hlt : Hid (val zs < gk) := by rw [← Hg.out]; exact hlt
          clear f1 f2 f3 f4 f5 f6 hl5 hb5 hv5 hB5 hc hbel hlt hrt h1z H3 Hs Hn
          go_wp2_with fail
          refine Hc.out.mono ?_
          rintro e w6 ⟨rfl, q', rfl⟩
          go_wp2
          go_roundg (val zs)
          case rel => exact ⟨A5, m5, c5, zs, rfl, hlen, rfl, H4.out q'⟩
          case measure => exact Hlt.out
        · obtain ⟨v, hv⟩ : ∃ v, cmpZ (val zs) (val ts) = v := ⟨_, rfl⟩
          have hv0 : 0 ≤ v := by
            rw [← hv]
            rcases Nat.lt_or_ge (val ts) (val zs) with h9 | h9
            · rw [cmpZ_gt h9]; decide
            · rw [cmpZ_eq (by omega)]; decide
          rw [hv] at hc
          have Hc := Lib.hid hc
          have hrt : val ts = rt k (val xs) := by
            rcases Nat.lt_or_ge (rt k (val xs)) (val ts) with h9 | h9
            · have := Hn.out.2 h9
              rw [hv5] at hge
              omega
            · omega
          have Hfin : Hid (∀ q', Tells w (rt k (val xs)) n (.returned (.slice A3 m3 c3)) (w5.drewN q')) :=
            fun q' => ⟨A3, m3, c3, ts, rfl, rt_len hk1 HA.out f1 f2 hrt, (f1.below hB5).drewN q', f2, hrt, below_drewN hbel q'⟩
          clear f1 f2 f3 f4 f5 f6 hl5 hb5 hv5 hB5 hc hbel hge hrt H3 Hs Hn hv
          go_wp2_with fail
          refine Hc.out.mono ?_
          rintro e w6 ⟨rfl, q', rfl⟩
          go_wp2
          go_ret
          exact Hfin.out q'
end Go.Proofs.YtkgbgmhkbigjhaaDoor
