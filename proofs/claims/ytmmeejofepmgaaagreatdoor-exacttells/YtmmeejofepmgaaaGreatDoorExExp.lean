/- The walks of exact.exponent, counts, near and whole. -/
import Derived.Test.YtmmeejofepmgaaaGreatDoorExSize
import Derived.Test.YtmmeejofepmgaaaGreatDoorExNumM
import Derived.Test.YtmmeejofepmgaaaGreatDoorK3
namespace Go.Proofs.YtmmeejofepmgaaaGreatDoor
open Go.RowKit

/-- What exponent tells: the exponent, and that it can be one of a breakpoint. -/
def ExpIs (E M K f : Int) (b : Bool) : Prop := (b = true ∧ K ∣ E ∧ f = M * (E / K) ∧ -1075 ≤ f ∧ f ≤ 1024) ∨ (b = false ∧ ¬ (K ∣ E ∧ -1075 ≤ M * (E / K) ∧ M * (E / K) ≤ 1024))

theorem exp_far {M q : Int} (hq : q ≠ 0) (h : M < -1075 ∨ 1075 < M) : ¬ (-1075 ≤ M * q ∧ M * q ≤ 1024) := fun ⟨h1, h2⟩ => by
  have h3 : (M * q).natAbs = M.natAbs * q.natAbs := Int.natAbs_mul _ _
  have h4 : 1076 * 1 ≤ M.natAbs * q.natAbs := Nat.mul_le_mul (by omega) (by omega)
  omega
theorem exp_mul {M q : Int} (h1 : -1075 ≤ M) (h2 : M ≤ 1075) (h3 : -1073741824 ≤ q) (h4 : q ≤ 1073741824) : -1154272460800 ≤ q * M ∧ q * M ≤ 1154272460800 := by
  have h5 : (q * M).natAbs = q.natAbs * M.natAbs := Int.natAbs_mul _ _
  have h6 : q.natAbs * M.natAbs ≤ 1073741824 * 1075 := Nat.mul_le_mul (by omega) (by omega)
  omega

set_option maxHeartbeats 1000000 in
theorem eexp_l (E M K : Int) (w : World) (hE1 : -1073741824 ≤ E) (hE2 : E ≤ 1073741824) (hM1 : -9223372036854775808 ≤ M) (hM2 : M ≤ 9223372036854775807) (hK1 : 1 ≤ K) (hK2 : K ≤ 9223372036854775807) :
    Calls Tryz.prog 44 #[.int .i64 E, .agg #[.int .i64 M, .int .i64 K]] w fun e w' => ∃ f b, e = .returned (.tuple #[.int .i64 f, .bool b]) ∧ Below w.heap.size w w' ∧ ExpIs E M K f b := by
  have HS := Lib.hid (below1 w (.cells #[.int .i64 M, .int .i64 K] 36))
  by_cases h0 : E = 0
  · have HR : Hid (ExpIs E M K 0 true) := Or.inl ⟨rfl, by rw [h0]; exact Int.dvd_zero _, by rw [h0, Int.zero_ediv, Int.mul_zero], by decide, by decide⟩
    have b0 : (E == 0) = true := beq_yes h0
    clear h0 hE1 hE2 hM1 hM2 hK1 hK2
    go_enter Tryz.func44, Tryz.ntmps44
    go_wp2
    go_ret2
    exact ⟨0, true, rfl, HS.out, HR.out⟩
  have b0 : (E == 0) = false := beq_no h0
  have k0 : K ≠ 0 := by omega
  obtain ⟨t, ht⟩ : ∃ t, E.tmod K = t := ⟨_, rfl⟩
  by_cases ht0 : t = 0
  · have hd : K ∣ E := Int.dvd_of_tmod_eq_zero (by rw [ht]; exact ht0)
    obtain ⟨q, hq⟩ := hd
    have q1 : E.tdiv K = q := by rw [hq]; exact Int.mul_tdiv_cancel_left _ k0
    have q2 : E / K = q := by rw [hq]; exact Int.mul_ediv_cancel_left _ k0
    have q0 : q ≠ 0 := fun h => h0 (by rw [hq, h, Int.mul_zero])
    have qn : q.natAbs ≤ E.natAbs := by
      rw [hq, Int.natAbs_mul]
      exact Nat.le_mul_of_pos_left _ (by omega)
    have q3 : -1073741824 ≤ q := by omega
    have q4 : q ≤ 1073741824 := by omega
    have bt : (t != 0) = false := by rw [ht0]; rfl
    by_cases f1 : M < -1075
    · have c1 : decide (M < -1075) = true := decide_eq_true f1
      have HR : Hid (ExpIs E M K 0 false) := Or.inr ⟨rfl, fun h => exp_far q0 (Or.inl f1) (by rw [q2] at h; exact h.2)⟩
      clear f1 q1 q2 q0 qn q3 q4 hq h0 hE1 hE2 hM1 hM2 hK1 hK2 ht0
      go_enter Tryz.func44, Tryz.ntmps44
      go_wp2
      go_ret2
      exact ⟨0, false, rfl, HS.out, HR.out⟩
    have c1 : decide (M < -1075) = false := decide_eq_false f1
    by_cases f2 : 1075 < M
    · have c2 : decide (1075 < M) = true := decide_eq_true f2
      have HR : Hid (ExpIs E M K 0 false) := Or.inr ⟨rfl, fun h => exp_far q0 (Or.inr f2) (by rw [q2] at h; exact h.2)⟩
      clear f1 f2 q1 q2 q0 qn q3 q4 hq h0 hE1 hE2 hM1 hM2 hK1 hK2 ht0
      go_enter Tryz.func44, Tryz.ntmps44
      go_wp2
      go_ret2
      exact ⟨0, false, rfl, HS.out, HR.out⟩
    have c2 : decide (1075 < M) = false := decide_eq_false f2
    obtain ⟨p, hp⟩ : ∃ p, q * M = p := ⟨_, rfl⟩
    have hpb := exp_mul (M := M) (q := q) (by omega) (by omega) q3 q4
    rw [hp] at hpb
    have p1 : -1200000000000 ≤ p := by omega
    have p2 : p ≤ 1200000000000 := by omega
    have r1 : -1100000000 ≤ q := by omega
    have r2 : q ≤ 1100000000 := by omega
    have hpm : M * (E / K) = p := by rw [q2, Int.mul_comm]; exact hp
    obtain ⟨u, hu⟩ : ∃ u, decide (-1075 ≤ p) = u := ⟨_, rfl⟩
    obtain ⟨v, hv⟩ : ∃ v, decide (p ≤ 1024) = v := ⟨_, rfl⟩
    have HR : Hid (ExpIs E M K p (u && v)) := by
      show ExpIs _ _ _ _ _
      cases u with
      | false => exact Or.inr ⟨rfl, fun h => of_decide_eq_false hu (by rw [hpm] at h; exact h.2.1)⟩
      | true =>
        cases v with
        | false => exact Or.inr ⟨rfl, fun h => of_decide_eq_false hv (by rw [hpm] at h; exact h.2.2)⟩
        | true => exact Or.inl ⟨rfl, ⟨q, hq⟩, hpm.symm, of_decide_eq_true hu, of_decide_eq_true hv⟩
    clear f1 f2 q2 q0 qn q3 q4 hq h0 hE1 hE2 hM1 hM2 hK1 hK2 ht0 hpb hpm
    cases u with
    | false =>
      go_enter Tryz.func44, Tryz.ntmps44
      go_wp2_with fail
      go_quiet (fail)
      go_wp2
      go_ret2
      exact ⟨_, _, rfl, HS.out.trans (below_drewN (Below.refl _ _) _), HR.out⟩
    | true =>
      go_enter Tryz.func44, Tryz.ntmps44
      go_wp2_with fail
      go_quiet (fail)
      go_wp2
      go_ret2
      exact ⟨_, _, rfl, HS.out.trans (below_drewN (Below.refl _ _) _), HR.out⟩
  · have bt : (t != 0) = true := by rw [bne_iff_ne]; exact ht0
    have HR : Hid (ExpIs E M K 0 false) := Or.inr ⟨rfl, fun h => ht0 (by rw [← ht]; exact Int.tmod_eq_zero_of_dvd h.1)⟩
    clear h0 hE1 hE2 hM1 hM2 hK1 hK2 ht0
    go_enter Tryz.func44, Tryz.ntmps44
    go_wp2
    go_ret2
    exact ⟨0, false, rfl, HS.out, HR.out⟩


set_option maxHeartbeats 1000000 in
theorem ecounts_l (v : Bool) (c : Nat) (M K : Int) (w : World) (hc : c ≤ 100000) (hc1 : 1 ≤ c) (hM1 : 0 ≤ M) (hM2 : M ≤ 9223372036854775807) (hK1 : 1 ≤ K) (hK2 : K ≤ 9223372036854775807) (hv : Hid (cntB c M K = v)) :
    Calls Tryz.prog 59 #[.int .i64 (c : Int), .agg #[.int .i64 M, .int .i64 K]] w fun e w' => e = .returned (.bool v) ∧ Below w.heap.size w w' := by
  have HS := Lib.hid (below1 w (.cells #[.int .i64 M, .int .i64 K] 36))
  obtain ⟨k, rfl⟩ := Int.eq_ofNat_of_zero_le (show 0 ≤ K by omega)
  obtain ⟨m, rfl⟩ := Int.eq_ofNat_of_zero_le hM1
  have hv' := hv.out
  unfold cntB at hv'
  clear hv
  by_cases f1 : (c : Int) ≤ (k : Int)
  · rw [if_pos f1] at hv'
    subst hv'
    have c1 : decide ((c : Int) ≤ (k : Int)) = true := decide_eq_true f1
    have c2 : decide (c ≤ k) = true := decide_eq_true (by omega)
    clear f1 hc hc1 hM1 hM2 hK1 hK2
    go_enter Tryz.func59, Tryz.ntmps59
    go_wp2
    go_ret
    exact ⟨rfl, HS.out⟩
  rw [if_neg f1] at hv'
  have c1 : decide ((c : Int) ≤ (k : Int)) = false := decide_eq_false f1
  have c2 : decide (c ≤ k) = false := decide_eq_false (by omega)
  by_cases f2 : (54 : Int) ≤ (m : Int)
  · rw [if_pos f2] at hv'
    subst hv'
    have c3 : decide ((54 : Int) ≤ (m : Int)) = true := decide_eq_true f2
    have c4 : decide (54 ≤ m) = true := decide_eq_true (by omega)
    clear f1 f2 hc hc1 hM1 hM2 hK1 hK2
    go_enter Tryz.func59, Tryz.ntmps59
    go_wp2
    go_ret
    exact ⟨rfl, HS.out⟩
  rw [if_neg f2] at hv'
  have c3 : decide ((54 : Int) ≤ (m : Int)) = false := decide_eq_false f2
  have c4 : decide (54 ≤ m) = false := decide_eq_false (by omega)
  obtain ⟨b, rfl⟩ : ∃ b, c = b + 1 := ⟨c - 1, by omega⟩
  obtain ⟨B, hB⟩ : ∃ B : Nat, b + 1 = B := ⟨_, rfl⟩
  have hBb : (B : Int) - 1 = (b : Int) := by omega
  rw [hB] at c1 c2 hv' ⊢
  rw [hBb] at hv'
  obtain ⟨p, hp⟩ : ∃ p, b * m = p := ⟨_, rfl⟩
  have hp' : (b : Int) * (m : Int) = (p : Int) := by rw [← hp, Int.natCast_mul]
  obtain ⟨q, hq⟩ : ∃ q, 54 * k = q := ⟨_, rfl⟩
  have hq' : (54 : Int) * (k : Int) = (q : Int) := by omega
  have hpl : p ≤ 100000 * 54 := by rw [← hp]; exact Nat.mul_le_mul (by omega) (by omega)
  have hp9 : p ≤ 5400000 := by omega
  have hq9 : q ≤ 5400000 := by omega
  have hb9 : b ≤ 100000 := by omega
  rw [hp', hq'] at hv'
  have hv2 : decide (p < q) = v := by rw [← hv']; exact decide_eq_decide.2 (by omega)
  clear f1 f2 hc hc1 hM1 hM2 hK1 hK2 hp hq hpl hB hv'
  go_enter Tryz.func59, Tryz.ntmps59
  go_wp2
  go_ret
  exact ⟨rfl, HS.out⟩

set_option maxHeartbeats 1000000 in
theorem ewhole_l (k : Nat) (bb : Bool) (A : Option Addr) (n c : Nat) (xs : List Nat) (w : World) (hA : Lim w A n c xs) (hn : n ≤ 100) (hT : Tab w) (hk1 : 1 ≤ k) (hk : k ≤ 9223372036854775807) (hbb : Hid (decide (Ex k (val xs)) = bb)) :
    Calls Tryz.prog 60 #[.slice A n c, .int .i64 (k : Int)] w (Tells2 w (rt k (val xs)) n (.bool bb)) := by
  obtain ⟨b, hb⟩ : ∃ b, blen (val xs) = b := ⟨_, rfl⟩
  have hbl := hA.blen_le
  have H1 := Lib.hid (root_any k bb A n c xs w hA (by omega) hT hk1 hk (by omega) hbb)
  rw [hb] at hbl
  have H2 := Lib.hid (bits_l b A n c xs w hA (by omega) hb)
  have c1 : decide (8192 < b) = false := decide_eq_false (by omega)
  have c2 : decide ((8192 : Int) < (b : Int)) = false := decide_eq_false (by omega)
  clear hA hT hb hbl hbb hk1 hk
  go_enter Tryz.func60, Tryz.ntmps60
  go_wp2_with fail
  refine H2.out.mono ?_
  rintro e w' ⟨rfl, rfl⟩
  go_wp2_with fail
  refine H1.out.mono ?_
  rintro e w1 ⟨A1, m1, c1, zs, rfl, hm1, hl1, hb1, hv1, hB1⟩
  have Hfin : Hid (Tells2 w (rt k (val xs)) n (.bool bb) (.returned (.tuple #[.slice A1 m1 c1, .bool bb])) w1) := ⟨A1, m1, c1, zs, rfl, hm1, hl1, hb1, hv1, hB1⟩
  clear hl1 hb1 hv1 hB1 H1 H2
  go_wp2
  go_ret2
  exact Hfin.out
end Go.Proofs.YtmmeejofepmgaaaGreatDoor
