/- The walks of exact.size, divisor, Low, exponent, counts and near. -/
import Derived.Test.YtmmeejofepmgaaaGreatDoorK5
import Derived.Test.YtmmeejofepmgaaaGreatDoorK4
import Derived.Test.YtmmeejofepmgaaaGreatDoorExMath
import Derived.Deep.RegionHeld3
import Derived.Deep.QuietTactic
import Derived.BigQuiet
namespace Go.Proofs.YtmmeejofepmgaaaGreatDoor
open Go.RowKit

theorem esize_l (n : Int) (a : Nat) (w : World) (h1 : -9223372036854775808 ≤ n) (h2 : n ≤ 9223372036854775807) (ha : Hid (n.natAbs = a)) :
    Calls Tryz.prog 42 #[.int .i64 n] w fun e w' => e = .returned (.int .u64 (a : Int)) ∧ w = w' := by
  have ha' := ha.out
  clear ha
  by_cases hn : n < 0
  · have b1 : decide (n < 0) = true := decide_eq_true hn
    obtain ⟨q, hq⟩ : ∃ q : Nat, -(n + 1) = (q : Int) := ⟨(-(n + 1)).toNat, by omega⟩
    have hq2 : q < 9223372036854775808 := by omega
    have e3 : (q : Int) + 1 = (a : Int) := by omega
    have ha3 : a < 18446744073709551616 := by omega
    clear ha'
    go_enter Tryz.func42, Tryz.ntmps42
    go_wp2
    go_ret
    exact ⟨rfl, rfl⟩
  · have b1 : decide (n < 0) = false := decide_eq_false hn
    obtain rfl : n = (a : Int) := by omega
    clear ha' hn
    go_enter Tryz.func42, Tryz.ntmps42
    go_wp2
    go_ret
    exact ⟨rfl, rfl⟩

theorem egcd_l (a b g : Nat) (w : World) (ha : a < 18446744073709551616) (hb : b < 18446744073709551616) (hg : Hid (Nat.gcd a b = g)) :
    Calls Tryz.prog 41 #[.int .u64 (a : Int), .int .u64 (b : Int)] w fun e w' => e = .returned (.int .u64 (g : Int)) ∧ w = w' := by
  go_enter Tryz.func41, Tryz.ntmps41
  go_wp2
  go_loop [0, 1] (fun x y => ∃ p q : Nat, x = .int .u64 (p : Int) ∧ y = .int .u64 (q : Int) ∧ p < 18446744073709551616 ∧ q < 18446744073709551616 ∧ Hid (Nat.gcd p q = g)) (fun x _ => (intOf x).toNat)
  case atStart => exact ⟨a, b, rfl, rfl, ha, hb, hg⟩
  case round =>
    clear hg
    obtain ⟨p, q, rfl, rfl, hp, hq, H⟩ := hrel
    by_cases hp0 : p = 0
    · subst hp0
      have HH := H.out
      rw [Nat.gcd_zero_left] at HH
      subst HH
      clear H
      go_wp2
      go_ret
      exact ⟨rfl, rfl⟩
    · have b1 : ((p : Int) != 0) = true := by rw [bne_iff_ne]; omega
      have b2 : (p : Int) ≠ 0 := by omega
      obtain ⟨r, hr⟩ : ∃ r, q % p = r := ⟨_, rfl⟩
      have e1 : (q : Int) % (p : Int) = (r : Int) := by rw [← hr]; exact (Int.natCast_emod q p).symm
      have hrp : r < p := by rw [← hr]; exact Nat.mod_lt _ (by omega)
      have H2 : Hid (Nat.gcd r p = g) := by show _ = _; rw [← hr, ← Nat.gcd_rec]; exact H.out
      clear hr H
      go_wp2
      go_round
      case rel => exact ⟨r, p, by rw [e1], rfl, by omega, hp, H2⟩
      case measure => simp [intOf]; omega

theorem low_parts_e {M K : Int} {g : Nat} (hK : 1 ≤ K) (hg : Nat.gcd M.natAbs K.toNat = g) : 1 ≤ g ∧ (g : Int) ≤ K ∧ ∃ LM LK : Int, M.tdiv g = LM ∧ K.tdiv g = LK ∧ M = LM * g ∧ K = LK * g ∧ 1 ≤ LK ∧ Nat.gcd LM.natAbs LK.natAbs = 1 ∧ LM.natAbs ≤ M.natAbs ∧ LK ≤ K ∧ ((0 ≤ LM ∧ 0 ≤ M) ∨ (LM ≤ 0 ∧ M ≤ 0)) := by
  obtain ⟨k, rfl⟩ := Int.eq_ofNat_of_zero_le (show 0 ≤ K by omega)
  rw [Int.toNat_natCast] at hg
  have hg1 : 0 < g := by rw [← hg]; exact Nat.gcd_pos_of_pos_right _ (by omega)
  have hd1 : g ∣ M.natAbs := by rw [← hg]; exact Nat.gcd_dvd_left _ _
  have hd2 : g ∣ k := by rw [← hg]; exact Nat.gcd_dvd_right _ _
  obtain ⟨a, ha⟩ := hd1
  obtain ⟨b, hb⟩ := hd2
  have hco : Nat.gcd a b = 1 := by
    have h := Nat.gcd_mul_left g a b
    rw [← ha, ← hb, hg] at h
    exact Nat.eq_of_mul_eq_mul_left hg1 (by rw [← h, Nat.mul_one])
  have hgk : g ≤ k := Nat.le_of_dvd (by omega) ⟨b, hb⟩
  have hb1 : 1 ≤ b := by
    rcases Nat.eq_zero_or_pos b with h | h
    · rw [h, Nat.mul_zero] at hb; omega
    · exact h
  have hbk : b ≤ k := by rw [hb]; exact Nat.le_mul_of_pos_left _ hg1
  have ham : a ≤ M.natAbs := by rw [ha]; exact Nat.le_mul_of_pos_left _ hg1
  have hg0 : (g : Int) ≠ 0 := by omega
  obtain ⟨LM, hLM, hLa, hsg⟩ : ∃ LM : Int, M = LM * g ∧ LM.natAbs = a ∧ ((0 ≤ LM ∧ 0 ≤ M) ∨ (LM ≤ 0 ∧ M ≤ 0)) := by
    rcases Int.natAbs_eq M with h | h
    · exact ⟨(a : Int), by rw [h, ha, Int.natCast_mul, Int.mul_comm], Int.natAbs_natCast a, Or.inl ⟨by omega, by omega⟩⟩
    · exact ⟨-(a : Int), by rw [h, ha, Int.natCast_mul, Int.mul_comm, Int.neg_mul], by rw [Int.natAbs_neg, Int.natAbs_natCast], Or.inr ⟨by omega, by omega⟩⟩
  have hKb : (k : Int) = (b : Int) * g := by rw [hb, Int.natCast_mul, Int.mul_comm]
  refine ⟨hg1, by omega, LM, (b : Int), by rw [hLM]; exact Int.mul_tdiv_cancel _ hg0, by rw [hKb]; exact Int.mul_tdiv_cancel _ hg0, hLM, hKb, by omega, ?_, by rw [hLa]; exact ham, by omega, hsg⟩
  rw [hLa, Int.natAbs_natCast]; exact hco

/-- An exponent in its block. -/
def Qx (w : World) (b : Nat) (M K : Int) : Prop := w.heap[b]? = some (.cells #[.int .i64 M, .int .i64 K] 36)
section
variable {w w' : World} {b : Nat} {M K : Int}
theorem Qx.lt (h : Qx w b M K) : b < w.heap.size := by
  rcases Nat.lt_or_ge b w.heap.size with h' | h'
  · exact h'
  · rw [Qx, Array.getElem?_eq_none h'] at h; cases h
theorem Qx.new (w : World) (M K : Int) : Qx (w.alloc (.cells #[.int .i64 M, .int .i64 K] 36)) w.heap.size M K := by
  show (w.heap.push _)[w.heap.size]? = _
  simp
theorem Qx.below (h : Qx w b M K) (hb : Below w.heap.size w w') : Qx w' b M K := by
  rw [Qx, hb.block b h.lt]; exact h
theorem Qx.alloc (h : Qx w b M K) (o : Obj) : Qx (w.alloc o) b M K := h.below (below1 _ o)
theorem Qx.c0 (h : Qx w b M K) : w.cell? ⟨b, 0, none⟩ = some (.int .i64 M) := by simp [World.cell?, show w.heap[b]? = _ from h]
theorem Qx.c1 (h : Qx w b M K) : w.cell? ⟨b, 1, none⟩ = some (.int .i64 K) := by simp [World.cell?, show w.heap[b]? = _ from h]
theorem Qx.fz (h : Qx w b M K) (o : Nat) : w.frozen? ⟨b, o, none⟩ = false := by simp [World.frozen?, show w.heap[b]? = _ from h]
theorem Qx.set (h : Qx w b M K) (M' K' : Int) : Qx ((w.setCell ⟨b, 0, none⟩ (.int .i64 M')).setCell ⟨b, 1, none⟩ (.int .i64 K')) b M' K' := by
  unfold Qx at h ⊢
  simp [World.setCell, Array.getElem?_modify, h]
end

set_option maxHeartbeats 1000000 in
theorem elow_l (M K : Int) (w : World) (h1 : -9223372036854775808 ≤ M) (h2 : M ≤ 9223372036854775807) (h3 : -9223372036854775808 ≤ K) (h4 : K ≤ 9223372036854775807) :
    Calls Tryz.prog 21 #[.agg #[.int .i64 M, .int .i64 K]] w fun e w' => ∃ LM LK r, e = .returned (.tuple #[.agg #[.int .i64 LM, .int .i64 LK], .int .i64 r]) ∧ Below w.heap.size w w' ∧ ((K < 1 ∧ LM = 0 ∧ LK = 0 ∧ r = 1) ∨ (1 ≤ K ∧ r = 0 ∧ ∃ q : Nat, 1 ≤ q ∧ M = LM * q ∧ K = LK * q ∧ 1 ≤ LK ∧ Nat.gcd LM.natAbs LK.natAbs = 1)) := by
  by_cases hK : K < 1
  · have b1 : decide (K < 1) = true := decide_eq_true hK
    have a2 : Below w.heap.size w ((w.alloc (.cells #[.int .i64 M, .int .i64 K] 36)).alloc (.cells #[.int .i64 0, .int .i64 0] 36)) := ((Below.refl _ _).alloc (Nat.le_refl _) _).alloc (by simp) _
    have Hfin := Lib.hid a2
    have HK := Lib.hid hK
    clear a2 hK
    go_enter Tryz.func21, Tryz.ntmps21
    go_wp2
    exact bodyPost_ret (v := .tuple #[.agg #[.int .i64 0, .int .i64 0], .int .i64 1]) (by simp [results, Tryz.results21, go_sem]) rfl ⟨0, 0, 1, rfl, Hfin.out, Or.inl ⟨HK.out, rfl, rfl, rfl⟩⟩
  · have b1 : decide (K < 1) = false := decide_eq_false hK
    obtain ⟨k, rfl⟩ := Int.eq_ofNat_of_zero_le (show 0 ≤ K by omega)
    obtain ⟨g, hg⟩ : ∃ g, Nat.gcd M.natAbs k = g := ⟨_, rfl⟩
    obtain ⟨p1, p2, LM, LK, p3, p4, p5, p6, p7, p8, p9, p10, p11⟩ := low_parts_e (M := M) (K := (k : Int)) (g := g) (by omega) (by rw [Int.toNat_natCast]; exact hg)
    obtain ⟨lk, rfl⟩ := Int.eq_ofNat_of_zero_le (show 0 ≤ LK by omega)
    obtain ⟨a, ha⟩ : ∃ a, M.natAbs = a := ⟨_, rfl⟩
    rw [ha] at hg
    have H1 : Hid (∀ u, Calls Tryz.prog 42 #[.int .i64 M] u fun e w' => e = .returned (.int .u64 (a : Int)) ∧ u = w') := fun u => esize_l M a u h1 h2 ha
    have H2 : Hid (∀ u, Calls Tryz.prog 41 #[.int .u64 (a : Int), .int .u64 (k : Int)] u fun e w' => e = .returned (.int .u64 (g : Int)) ∧ u = w') := fun u => egcd_l a k g u (by omega) (by omega) hg
    have e1 : (k : Int) / (g : Int) = (lk : Int) := by rw [← p4, Int.tdiv_eq_ediv_of_nonneg (Int.natCast_nonneg k)]
    have g0 : (g : Int) ≠ 0 := by omega
    have g9 : g < 9223372036854775808 := by omega
    have k9 : k < 9223372036854775808 := by omega
    have l1 : -9223372036854775808 ≤ LM := by omega
    have l2 : LM ≤ 9223372036854775807 := by omega
    have l3 : lk < 9223372036854775808 := by omega
    have HR : Hid (1 ≤ (k : Int) ∧ ∃ q : Nat, 1 ≤ q ∧ M = LM * q ∧ (k : Int) = (lk : Int) * q ∧ 1 ≤ (lk : Int) ∧ Nat.gcd LM.natAbs (lk : Int).natAbs = 1) := ⟨by omega, g, p1, p5, p6, p7, p8⟩
    have a2 : Below w.heap.size w ((w.alloc (.cells #[.int .i64 M, .int .i64 (k : Int)] 36)).alloc (.cells #[.int .i64 0, .int .i64 0] 36)) := ((Below.refl _ _).alloc (Nat.le_refl _) _).alloc (by simp) _
    have HS := Lib.hid a2
    have q2 := Qx.new (w.alloc (.cells #[.int .i64 M, .int .i64 (k : Int)] 36)) 0 0
    rw [World.size_alloc] at q2
    have HQ := Lib.hid q2
    clear q2 p1 p2 p5 p6 p7 p8 p9 p10 p11 ha hg hK h3 h4 a2
    go_enter Tryz.func21, Tryz.ntmps21
    go_wp2_with fail
    go_quiet (first | (go_at_call 42; exact quiet_one (H1.out _)) | (go_at_call 41; exact quiet_one (H2.out _)))
    go_wp2_with fail
    go_region
    have Q1 := Lib.hid ((HQ.out.below (below_drewN (Below.refl _ _) (nq + 1))).set LM lk)
    have y0 := Q1.out.c0
    have y1 := Q1.out.c1
    have Hb := Lib.hid (((below_drewN HS.out (nq + 1)).setCell (p := ⟨w.heap.size + 1, 0, none⟩) (Nat.le_succ _) (.int .i64 LM)).setCell (p := ⟨w.heap.size + 1, 1, none⟩) (Nat.le_succ _) (.int .i64 (lk : Int)))
    clear HQ HS H1 H2 Q1
    go_wp2_with fail
    exact bodyPost_ret (v := .tuple #[.agg #[.int .i64 LM, .int .i64 (lk : Int)], .int .i64 0]) (by simp [results, Tryz.results21, go_sem, y0, y1]) rfl ⟨LM, lk, 0, rfl, Hb.out, Or.inr ⟨HR.out.1, rfl, HR.out.2⟩⟩
end Go.Proofs.YtmmeejofepmgaaaGreatDoor
