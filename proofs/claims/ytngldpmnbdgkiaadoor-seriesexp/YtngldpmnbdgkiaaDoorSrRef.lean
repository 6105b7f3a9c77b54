/- The document's Atanh and Exp of layer 12, walked. -/
import Derived.Test.YtngldpmnbdgkiaaDoorSrTail
import Derived.Test.YtngldpmnbdgkiaaDoorK3
import Derived.Test.YtngldpmnbdgkiaaDoorK1
namespace Go.Proofs.YtngldpmnbdgkiaaDoor
open Go.RowKit

theorem DTells.tight {w w' : World} {V L M : Nat} {e : Ending} (h : DTells w V L e w') (hV : V < 2 ^ (16 * M)) : DTells w V M e w' := by
  obtain ⟨A, m, c, ds, h1, h2, h3, h4, h5, h6⟩ := h
  refine ⟨A, m, c, ds, h1, ?_, h3, h4, h5, h6⟩
  have := D.len_of_lt (M := M) h4 (by rw [h5, D.pw_two]; exact hV)
  rw [h3.len] at this; exact this
theorem lt_two {V a b : Nat} (h : V < 2 ^ a) (hab : a ≤ b) : V < 2 ^ b := Nat.lt_of_lt_of_le h (Nat.pow_le_pow_right (by decide) hab)

theorem dlen_le {w : World} {A : Option Addr} {n c V M k : Nat} {ds : List Nat} (hA : Dig w A n c ds) (hb : D.Bare ds) (hv : D.val ds = V) (hV : V < 2 ^ k) (hk : k ≤ 16 * M) : n ≤ M := by
  have := D.len_of_lt (M := M) hb (by rw [hv, D.pw_two]; exact lt_two hV hk)
  rw [hA.len] at this; exact this

theorem right_l (s : Int) (v : Bool) (w : World) (hv : Hid (decide (8 ≤ s ∧ s ≤ 9000) = v)) :
    Calls Tryd.prog 11 #[.int .i64 s] w fun e w' => e = .returned (.bool v) ∧ w = w' := by
  have hv' := hv.out
  by_cases h1 : 8 ≤ s
  · have b1 : decide (8 ≤ s) = true := decide_eq_true h1
    obtain ⟨u, hu⟩ : ∃ u, decide (s ≤ 9000) = u := ⟨_, rfl⟩
    obtain rfl : u = v := by rw [← hu, ← hv']; exact decide_eq_decide.2 ⟨fun h => ⟨h1, h⟩, fun h => h.2⟩
    clear hv hv' h1
    go_enter Tryd.func11, Tryd.ntmps11
    go_wp2
    go_ret
    exact ⟨rfl, rfl⟩
  · have b1 : decide (8 ≤ s) = false := decide_eq_false h1
    obtain rfl : false = v := by rw [← hv']; exact (decide_eq_false (fun h => h1 h.1)).symm
    clear hv hv' h1
    go_enter Tryd.func11, Tryd.ntmps11
    go_wp2
    go_ret
    exact ⟨rfl, rfl⟩

theorem rwide_l (w : World) : Calls Tryd.prog 22 #[] w (DTells w 1048576 4) := by
  have H1 := Lib.hid (num_any 1048576 (by decide) w)
  go_enter Tryd.func22, Tryd.ntmps22
  go_wp2_with fail
  refine H1.out.mono ?_
  rintro e w1 ⟨A1, m1, c1, es, rfl, hm1, hl1, hb1, hv1, hB1⟩
  have Hfin : Hid (DTells w 1048576 4 (.returned (.slice A1 m1 c1)) w1) := ⟨A1, m1, c1, es, rfl, hm1, hl1, hb1, hv1, hB1⟩
  clear hl1 hb1 hv1 hB1 H1
  go_wp2
  go_ret
  exact Hfin.out

theorem rshift_l (V N M : Nat) (A : Option Addr) (n c : Nat) (ds : List Nat) (w : World) (hA : Dig w A n c ds) (ba : D.Bare ds) (hv : D.val ds = V) (hn : n ≤ 1000) (hN : N ≤ 9223372036854775807) (k : Nat) (hk : V / 2 ^ N < 2 ^ k) (hkM : k ≤ 16 * M) :
    Calls Tryd.prog 38 #[.slice A n c, .int .i64 (N : Int)] w (DTells w (V / 2 ^ N) M) := by
  have hM := lt_two hk hkM
  have h := rshr_any A n c ds N w hA ba hn (by omega)
  rw [Int.toNat_natCast, hv] at h
  obtain ⟨bb, hbb⟩ : ∃ bb, decide (V % 2 ^ N ≠ 0) = bb := ⟨_, rfl⟩
  rw [hbb] at h
  obtain ⟨Q, hQ⟩ : ∃ Q, V / 2 ^ N = Q := ⟨_, rfl⟩
  rw [hQ] at h hk hM ⊢
  have H1 := Lib.hid h
  have HM := Lib.hid hM
  clear h hA ba hv hbb hQ hM hk hkM
  go_enter Tryd.func38, Tryd.ntmps38
  go_wp2_with fail
  refine H1.out.mono ?_
  rintro e w1 ⟨A1, m1, c1, es, rfl, hm1, hl1, hb1, hv1, hB1⟩
  have Hfin : Hid (DTells w Q M (.returned (.slice A1 m1 c1)) w1) := DTells.tight ⟨A1, m1, c1, es, rfl, hm1, hl1, hb1, hv1, hB1⟩ HM.out
  clear hl1 hb1 hv1 hB1 H1 HM
  go_wp2
  go_ret
  exact Hfin.out

theorem dh_bd {P q : Nat} (hP : 0 < P) (hq : 9 * q ≤ P) : ∀ c n, 8 * dh P q c n ≤ 9 * P := by
  intro c
  induction c with
  | zero => intro n; exact Nat.zero_le _
  | succ c ih =>
    intro n
    have h := ih (n + 1)
    rw [dh]
    have h1 : P / (2 * n + 1) ≤ P := Nat.div_le_self _ _
    have h2 : dh P q c (n + 1) * q / P * 8 ≤ P := by
      have h3 : dh P q c (n + 1) * q / P * 8 ≤ dh P q c (n + 1) * q * 8 / P := by
        rw [Nat.mul_comm, Nat.mul_comm _ 8]; exact Nat.mul_div_le_mul_div_assoc _ _ _
      have h4 : dh P q c (n + 1) * q * 8 ≤ P * P := by
        have h5 : 8 * dh P q c (n + 1) * q ≤ 9 * P * q := Nat.mul_le_mul_right q h
        have h6 : P * (9 * q) ≤ P * P := Nat.mul_le_mul_left P hq
        have e1 : dh P q c (n + 1) * q * 8 = 8 * dh P q c (n + 1) * q := by rw [Nat.mul_comm _ 8, Nat.mul_assoc]
        have e2 : 9 * P * q = P * (9 * q) := by rw [Nat.mul_comm 9 P, Nat.mul_assoc]
        rw [e1]; omega
      have h7 : dh P q c (n + 1) * q * 8 / P ≤ P := by
        have := Nat.div_le_div_right (c := P) h4
        rw [Nat.mul_div_cancel _ hP] at this
        exact this
      omega
    omega
/-- The fraction and its square. -/
theorem r_bd {P num den r : Nat} (hP : 0 < P) (hd : 0 < den) (h3 : 3 * num ≤ den) (hr : num * P / den = r) : 3 * r ≤ P ∧ 9 * (r * r / P) ≤ P := by
  have h1 : r * den ≤ num * P := by rw [← hr]; exact Nat.div_mul_le_self _ _
  have h2 : 3 * r * den ≤ P * den := by
    have h4 : 3 * (r * den) ≤ 3 * (num * P) := Nat.mul_le_mul_left 3 h1
    have h5 : 3 * num * P ≤ den * P := Nat.mul_le_mul_right P h3
    rw [Nat.mul_assoc, Nat.mul_comm P den]
    rw [Nat.mul_assoc] at h5
    omega
  have h6 : 3 * r ≤ P := Nat.le_of_mul_le_mul_right h2 hd
  refine ⟨h6, ?_⟩
  have h7 : 3 * r * (3 * r) ≤ P * P := Nat.mul_le_mul h6 h6
  have e : 3 * r * (3 * r) = 9 * (r * r) := by
    rw [Nat.mul_mul_mul_comm]
  have h8 : 9 * (r * r / P) ≤ 9 * (r * r) / P := Nat.mul_div_le_mul_div_assoc _ _ _
  have h9 : 9 * (r * r) / P ≤ P := by
    have := Nat.div_le_div_right (c := P) (e ▸ h7)
    rw [Nat.mul_div_cancel _ hP] at this
    exact this
  omega
end Go.Proofs.YtngldpmnbdgkiaaDoor
