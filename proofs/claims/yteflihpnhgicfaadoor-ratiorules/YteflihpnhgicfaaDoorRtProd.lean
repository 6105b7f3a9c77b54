/- The walk of ratio.product. -/
import Derived.Test.YteflihpnhgicfaaDoorRtSplit
import Derived.Test.YteflihpnhgicfaaDoorK1
namespace Go.Proofs.YteflihpnhgicfaaDoor
open Go.RowKit

/-- Sum of a list of four that the caller has just laid. -/
theorem sum4_any (V1 V2 V3 V4 : Nat) (A : Option Addr) (n c : Nat) (xs : List Nat) (B : Option Addr) (m d : Nat) (ys : List Nat) (C : Option Addr) (l f : Nat) (zs : List Nat) (D : Option Addr) (p q : Nat) (us : List Nat) (w : World) (hA : Lim w A n c xs) (hB : Lim w B m d ys) (hC : Lim w C l f zs) (hD : Lim w D p q us) (hn : n ≤ 2000) (hm : m ≤ 2000) (hl : l ≤ 2000) (hp : p ≤ 2000) (h1 : val xs = V1) (h2 : val ys = V2) (h3 : val zs = V3) (h4 : val us = V4) :
    Calls Tryd.prog 76 #[.slice (some ⟨w.heap.size, 0, none⟩) 4 4] (w.alloc (.cells #[.slice A n c, .slice B m d, .slice C l f, .slice D p q] 22)) (Tells w (V1 + V2 + V3 + V4) 2001) := by
  have hb : Below w.heap.size w (w.alloc (.cells #[.slice A n c, .slice B m d, .slice C l f, .slice D p q] 22)) := (Below.refl _ _).alloc (Nat.le_refl _) _
  have hL : Lims (w.alloc (.cells #[.slice A n c, .slice B m d, .slice C l f, .slice D p q] 22)) w.heap.size 4 (fun j => if j = 0 then A else if j = 1 then B else if j = 2 then C else D) (fun j => if j = 0 then n else if j = 1 then m else if j = 2 then l else p) (fun j => if j = 0 then c else if j = 1 then d else if j = 2 then f else q) (fun j => if j = 0 then xs else if j = 1 then ys else if j = 2 then zs else us) := by
    refine ⟨by simp, fun j hj => ?_⟩
    have h3 : j = 0 ∨ j = 1 ∨ j = 2 ∨ j = 3 := by omega
    rcases h3 with rfl | rfl | rfl | rfl
    · exact ⟨by simp [World.cell?_alloc_new], hA.below hb, by show n ≤ _; omega⟩
    · exact ⟨by simp [World.cell?_alloc_new], hB.below hb, by show m ≤ _; omega⟩
    · exact ⟨by simp [World.cell?_alloc_new], hC.below hb, by show l ≤ _; omega⟩
    · exact ⟨by simp [World.cell?_alloc_new], hD.below hb, by show p ≤ _; omega⟩
  refine (sum_any w.heap.size 4 4 _ _ _ _ _ hL (by decide) 2000 (fun j _ => by split <;> (try split) <;> (try split) <;> omega)).mono ?_
  rintro e w' ⟨A1, m1, c1, ts, k1, k2, k3, k4, k5, k6⟩
  refine ⟨A1, m1, c1, ts, k1, k2, k3, k4, ?_, hb.trans (k6.mono hb.size)⟩
  rw [k5, ← h1, ← h2, ← h3, ← h4]
  simp [tot]

theorem val_half (xs : List Nat) {f l : Nat} (hl : l = min f xs.length) : val xs = val (xs.take l) + pw f * val (xs.drop l) := by
  rcases Nat.le_total f xs.length with h | h
  · rw [show l = f by omega]; exact val_split xs f h
  · rw [show l = xs.length by omega, List.take_length, List.drop_length]
    show val xs = val xs + pw f * 0
    omega
theorem prod_halves (La Ha Lb Hb f : Nat) : pw 0 * (La * Lb) + pw f * (La * Hb) + pw f * (Ha * Lb) + pw (2 * f) * (Ha * Hb) = (La + pw f * Ha) * (Lb + pw f * Hb) := by
  rw [show 2 * f = f + f by omega, pw_add]
  generalize pw f = p
  show 1 * _ + _ + _ + _ = _
  rw [Nat.add_mul, Nat.mul_add, Nat.mul_add]
  have e1 : p * (La * Hb) = La * (p * Hb) := by rw [← Nat.mul_assoc, ← Nat.mul_assoc, Nat.mul_comm p]
  have e2 : p * (Ha * Lb) = p * Ha * Lb := (Nat.mul_assoc _ _ _).symm
  have e3 : p * p * (Ha * Hb) = p * Ha * (p * Hb) := by
    rw [Nat.mul_assoc, Nat.mul_assoc, ← Nat.mul_assoc p Ha, Nat.mul_comm p Ha, Nat.mul_assoc]
  rw [e1, e2, e3]
  omega

set_option maxHeartbeats 2000000 in
theorem product_any (A : Option Addr) (n c : Nat) (xs : List Nat) (B : Option Addr) (m d : Nat) (ys : List Nat) (w : World) (hA : Lim w A n c xs) (hB : Lim w B m d ys) (hn0 : 0 < n) (hm0 : 0 < m) (hn : n ≤ 998) (hm : m ≤ 998) :
    Calls Tryd.prog 58 #[.slice A n c, .slice B m d] w (Tells w (val xs * val ys) 2001) := by
  obtain ⟨x, hx⟩ : ∃ x, x = max n m := ⟨_, rfl⟩
  have e0 : max (n : Int) (m : Int) = (x : Int) := by omega
  obtain ⟨f, hf⟩ : ∃ f, (x + 1) / 2 = f := ⟨_, rfl⟩
  have e1 : ((x : Int) + 1) / 2 = (f : Int) := by omega
  obtain ⟨f2, hf2⟩ : ∃ f2, 2 * f = f2 := ⟨_, rfl⟩
  have e2 : 2 * (f : Int) = (f2 : Int) := by omega
  have hfb : f ≤ 500 := by omega
  have hxb : x ≤ 998 := by omega
  obtain ⟨l1, hl1⟩ : ∃ l, l = min f n := ⟨_, rfl⟩
  obtain ⟨l2, hl2⟩ : ∃ l, l = min f m := ⟨_, rfl⟩
  have hV : val xs * val ys = pw 0 * (val (xs.take l1) * val (ys.take l2)) + pw f * (val (xs.take l1) * val (ys.drop l2)) + pw f * (val (xs.drop l1) * val (ys.take l2)) + pw f2 * (val (xs.drop l1) * val (ys.drop l2)) := by
    rw [← hf2, prod_halves, ← val_half xs (by rw [hA.len]; exact hl1), ← val_half ys (by rw [hB.len]; exact hl2)]
  rw [hV]
  have H1 := Lib.hid (split_any A n c xs f l1 w hA hn0 (by omega) hl1)
  have H2 : Hid (∀ u, Below w.heap.size w u → Calls Tryd.prog 75 #[.slice B m d, .int .i64 (f : Int)] u (Splits u ys l2)) := fun u hu => split_any B m d ys f l2 u (hB.below hu) hm0 (by omega) hl2
  have hln1 : xs.length - l1 ≤ 500 := by rw [hA.len]; omega
  have hln2 : ys.length - l2 ≤ 500 := by rw [hB.len]; omega
  have hl1b : l1 ≤ 500 := by omega
  have hl2b : l2 ≤ 500 := by omega
  obtain ⟨p1, hp1⟩ : ∃ p, xs.length - l1 = p := ⟨_, rfl⟩
  obtain ⟨p2, hp2⟩ : ∃ p, ys.length - l2 = p := ⟨_, rfl⟩
  have hf2b : f2 ≤ 1000 := by omega
  rw [hp1] at hln1
  rw [hp2] at hln2
  have Hp1 := Lib.hid hp1
  have Hp2 := Lib.hid hp2
  clear hA hB hV hx hf hf2 hl1 hl2 hp1 hp2 hn0 hm0
  obtain ⟨T, hT⟩ : ∃ T, pw 0 * (val (xs.take l1) * val (ys.take l2)) + pw f * (val (xs.take l1) * val (ys.drop l2)) + pw f * (val (xs.drop l1) * val (ys.take l2)) + pw f2 * (val (xs.drop l1) * val (ys.drop l2)) = T := ⟨_, rfl⟩
  rw [hT]
  have HT := Lib.hid hT
  clear hT
  go_enter Tryd.func58, Tryd.ntmps58
  go_wp2_with fail
  refine H1.out.mono ?_
  rintro e w1 ⟨A1, c1, A2, c2, rfl, q1, q2, hB1⟩
  rw [Hp1.out] at q2
  have Q1 := Lib.hid q1
  have Q2 := Lib.hid q2
  have S1 := Lib.hid hB1
  clear q1 q2 hB1 H1
  rw [Hp1.out]
  go_wp2_with fail
  refine (H2.out _ S1.out).mono ?_
  rintro e w2 ⟨B1, d1, B2, d2, rfl, q1, q2, hB2⟩
  rw [Hp2.out] at q2
  replace Q1 := Lib.hid (Q1.out.below hB2)
  replace Q2 := Lib.hid (Q2.out.below hB2)
  have R1 := Lib.hid q1
  have R2 := Lib.hid q2
  replace S1 := Lib.hid (S1.out.trans (hB2.mono S1.out.size))
  clear q1 q2 hB2 H2
  rw [Hp2.out]
  have P1 := partial_any A1 l1 c1 _ B1 l2 d1 _ 0 w2 Q1.out R1.out (by omega) (by omega) (by omega)
  rw [show ((0 : Nat) : Int) = 0 from rfl] at P1
  replace P1 := Lib.hid P1
  go_wp2_with fail
  refine P1.out.mono ?_
  rintro e w3 ⟨C1, k1, s1, us, rfl, hk1, hc1, hv1, hB3⟩
  replace Q1 := Lib.hid (Q1.out.below hB3)
  replace Q2 := Lib.hid (Q2.out.below hB3)
  replace R1 := Lib.hid (R1.out.below hB3)
  replace R2 := Lib.hid (R2.out.below hB3)
  replace S1 := Lib.hid (S1.out.trans (hB3.mono S1.out.size))
  have U1 := Lib.hid hc1
  have W1 := Lib.hid hv1
  clear hB3 hc1 hv1 P1
  have P2 := Lib.hid (partial_any A1 l1 c1 _ B2 p2 d2 _ f w3 Q1.out R2.out (by omega) (by omega) (by omega))
  go_wp2_with fail
  refine P2.out.mono ?_
  rintro e w4 ⟨C2, k2, s2, vs, rfl, hk2, hc2, hv2, hB4⟩
  replace Q2 := Lib.hid (Q2.out.below hB4)
  replace R1 := Lib.hid (R1.out.below hB4)
  replace R2 := Lib.hid (R2.out.below hB4)
  replace S1 := Lib.hid (S1.out.trans (hB4.mono S1.out.size))
  replace U1 := Lib.hid (U1.out.below hB4)
  have U2 := Lib.hid hc2
  have W2 := Lib.hid hv2
  clear hB4 hc2 hv2 P2 Q1
  have P3 := Lib.hid (partial_any A2 p1 c2 _ B1 l2 d1 _ f w4 Q2.out R1.out (by omega) (by omega) (by omega))
  go_wp2_with fail
  refine P3.out.mono ?_
  rintro e w5 ⟨C3, k3, s3, ts, rfl, hk3, hc3, hv3, hB5⟩
  replace Q2 := Lib.hid (Q2.out.below hB5)
  replace R2 := Lib.hid (R2.out.below hB5)
  replace S1 := Lib.hid (S1.out.trans (hB5.mono S1.out.size))
  replace U1 := Lib.hid (U1.out.below hB5)
  replace U2 := Lib.hid (U2.out.below hB5)
  have U3 := Lib.hid hc3
  have W3 := Lib.hid hv3
  clear hB5 hc3 hv3 P3 R1
  have P4 := Lib.hid (partial_any A2 p1 c2 _ B2 p2 d2 _ f2 w5 Q2.out R2.out (by omega) (by omega) (by omega))
  go_wp2_with fail
  refine P4.out.mono ?_
  rintro e w6 ⟨C4, k4, s4, rs, rfl, hk4, hc4, hv4, hB6⟩
  replace S1 := Lib.hid (S1.out.trans (hB6.mono S1.out.size))
  have hs := sum4_any _ _ _ _ C1 k1 s1 us C2 k2 s2 vs C3 k3 s3 ts C4 k4 s4 rs w6 (U1.out.below hB6) (U2.out.below hB6) (U3.out.below hB6) hc4 hk1 hk2 hk3 hk4 W1.out W2.out W3.out hv4
  rw [HT.out] at hs
  have HS := Lib.hid hs
  clear hs hB6 hc4 hv4 P4 R2 Q2 U1 U2 U3 W1 W2 W3 HT
  go_wp2_with fail
  refine HS.out.mono ?_
  rintro e w7 ⟨C5, k5, s5, gs, rfl, hk5, hc5, hb5, hv5, hB7⟩
  have Hfin : Hid (Tells w T 2001 (.returned (.slice C5 k5 s5)) w7) := ⟨C5, k5, s5, gs, rfl, hk5, hc5, hb5, hv5, S1.out.trans (hB7.mono S1.out.size)⟩
  clear hc5 hb5 hv5 hB7 HS S1
  go_wp2
  go_ret
  exact Hfin.out
end Go.Proofs.YteflihpnhgicfaaDoor
