/- The walk of DdTurned. -/
import Derived.Test.YtfccpjjdemanbaaDdSign
import Derived.Test.YtfccpjjdemanbaaDdSums
namespace Go.Proofs.Ytfccpjjdemanbaa
open Go.RowKit

theorem one_val {u : Nat} (hu : u = 1022) : fvI 4607182418800017408 = 4503599627370496 * ((2 ^ u : Nat) : Int) := by
  have e1 : fm 4607182418800017408 = 4503599627370496 := by decide
  have e2 : fE 4607182418800017408 = u := by rw [hu]; decide
  have e3 : fng 4607182418800017408 = false := by decide
  unfold fvI
  rw [e1, e2, e3, if_neg (by decide), Int.natCast_mul]
  rfl
/-- A safe number, of 53 bits at a place. -/
theorem sf_place {b : Nat} (h : Sf b) : ∃ (A : Int) (α : Nat), Nm A ∧ fvI b = A * ((2 ^ α : Nat) : Int) ∧ 422 ≤ α ∧ α ≤ 1622 ∧ (A = 0 → α = 1074) ∧ (A ≠ 0 → α = fE b ∧ A.natAbs = fm b) := by
  rcases sf_val h with h0 | ⟨h1, h2, h3, h4, h5⟩
  · exact ⟨0, 1074, Or.inl rfl, by rw [h0, Int.zero_mul], by decide, by decide, fun _ => rfl, fun h => absurd rfl h⟩
  · have hA : fvI b = (if fng b then -(fm b : Int) else (fm b : Int)) * ((2 ^ fE b : Nat) : Int) := by
      unfold fvI
      cases fng b
      · simp only [Bool.false_eq_true, if_false]; exact Int.natCast_mul _ _
      · simp only [if_true]; rw [Int.neg_mul, ← Int.natCast_mul]
    have hab : (if fng b then -(fm b : Int) else (fm b : Int)).natAbs = fm b := by split <;> omega
    exact ⟨_, fE b, Or.inr (by rw [hab]; exact ⟨h4, h5⟩), hA, by omega, by omega, fun h => by rw [h] at hab; simp at hab; omega, fun _ => ⟨rfl, hab⟩⟩
/-- All that DdTurned reckons. -/
theorem turned_all {a b k : Nat} (hk : k = 1675) (na : Nb k a) (nb : Nb k b) (sa : Sf a) : ∃ s r t tl u ul p pl x xl z zl h l, SumEqs a b s r ∧ SumEqs (flq a) (flq b) t tl ∧ SumEqs b a u ul ∧ ProdEqs a 4607182418800017408 p pl ∧ SumEqs a 0 x xl ∧ SplitEqs (flq a) z zl ∧ SplitEqs a h l ∧
    (t < 18446744073709551616 ∧ tl < 18446744073709551616 ∧ h < 18446744073709551616 ∧ l < 18446744073709551616) ∧
    ((FloatKind.f64.format.order s (flq t) == some .eq) = true ∧ (FloatKind.f64.format.order r (flq tl) == some .eq) = true ∧ (FloatKind.f64.format.order s u == some .eq) = true ∧ (FloatKind.f64.format.order r ul == some .eq) = true ∧
     (FloatKind.f64.format.order p a == some .eq) = true ∧ (FloatKind.f64.format.order pl 0 == some .eq) = true ∧ (FloatKind.f64.format.order x a == some .eq) = true ∧ (FloatKind.f64.format.order xl 0 == some .eq) = true ∧
     (FloatKind.f64.format.order z (flq h) == some .eq) = true ∧ (FloatKind.f64.format.order zl (flq l) == some .eq) = true) := by
  obtain ⟨mna, vna⟩ := nb_neg na
  obtain ⟨mnb, vnb⟩ := nb_neg nb
  have nz : Nb k 0 := ⟨by decide, by decide, by rw [show fvI 0 = 0 by decide]; exact Nat.zero_le _⟩
  have vz : fvI 0 = 0 := by decide
  obtain ⟨s, r, e1, ns, nr, vs, vr⟩ := nb_sum (by omega) na nb
  obtain ⟨t, tl, e2, nt, ntl, vt, vtl⟩ := nb_sum (by omega) mna mnb
  obtain ⟨u, ul, e3, nu, nul, vu, vul⟩ := nb_sum (by omega) nb na
  obtain ⟨x, xl, e5, nx, nxl, vx, vxl⟩ := nb_sum (by omega) na nz
  obtain ⟨A, α, hA, ea, a1, a2, _, _⟩ := sf_place sa
  have eb : fvI (flq a) = -A * ((2 ^ α : Nat) : Int) := by rw [vna, ea, Int.neg_mul]
  have hnA : Nm (-A) := by
    rcases hA with h | h
    · exact Or.inl (by omega)
    · exact Or.inr (by omega)
  obtain ⟨h, l, e7, nh, nl, H, hH, vh, vl, _⟩ := nb_split (by omega) na hA ea
  obtain ⟨z, zl, e6, nzz, nzl, Z, hZ, vzz, vzl, _⟩ := nb_split (by omega) mna hnA eb
  obtain ⟨w, hw⟩ : ∃ w : Nat, w = 1074 := ⟨_, rfl⟩
  obtain ⟨v, hv⟩ : ∃ v : Nat, v = 1022 := ⟨_, rfl⟩
  obtain ⟨g, hg⟩ : ∃ g : Nat, α = 52 + g := ⟨α - 52, by omega⟩
  have none_ : Nb k 4607182418800017408 := by
    refine ⟨by decide, by decide, ?_⟩
    rw [one_val hv, Int.natAbs_mul, Int.natAbs_natCast]
    show 4503599627370496 * 2 ^ v ≤ 2 ^ k
    rw [p52, ← Nat.pow_add]
    exact Nat.pow_le_pow_right (by decide) (by omega)
  obtain ⟨p, pl, e4, np, npl, vp, vpl⟩ := nb_prod (g := g) hw (by omega) na none_ hA (Or.inr (by decide)) ea (one_val hv) (by omega) (by omega)
  have hq : A * 4503599627370496 * ((2 ^ g : Nat) : Int) = fvI a := by
    rw [ea, hg, Nat.pow_add, Int.natCast_mul, ← Int.mul_assoc]
    rfl
  rw [hq, rn_id (fvI_Fl a)] at vp
  rw [hq, vp] at vpl
  rw [vz, Int.add_zero, rn_id (fvI_Fl a)] at vx
  rw [vz, vx] at vxl
  have cs : ∀ y, fvI y = -fvI s → Nb (k + 1) y → (FloatKind.f64.format.order s (flq y) == some .eq) = true := fun y hy ny => nb_ord ns (nb_neg ny).1 (by rw [(nb_neg ny).2, hy, Int.neg_neg])
  have vt' : fvI t = -fvI s := by rw [vt, vna, vnb, vs, ← rn_neg]; congr 1; omega
  have vu' : fvI u = fvI s := by rw [vu, vs, Int.add_comm]
  have hZH : Z = -H := by rw [hZ, hH, hv_neg]
  refine ⟨s, r, t, tl, u, ul, p, pl, x, xl, z, zl, h, l, e1, e2, e3, e4, e5, e6, e7, ⟨nt.1, ntl.1, nh.1, nl.1⟩, cs t vt' nt, ?_, nb_ord ns nu vu'.symm, ?_, nb_ord np na vp, ?_, nb_ord nx na vx, ?_, ?_, ?_⟩
  · exact nb_ord nr (nb_neg ntl).1 (by rw [(nb_neg ntl).2, vtl, vt', vna, vnb, vr]; omega)
  · exact nb_ord nr nul (by rw [vr, vul, vu']; omega)
  · exact nb_ord npl nz (by rw [vpl, vz]; omega)
  · exact nb_ord nxl nz (by rw [vxl, vz]; omega)
  · exact nb_ord nzz (nb_neg nh).1 (by rw [(nb_neg nh).2, vzz, vh, hZH, Int.neg_mul])
  · exact nb_ord nzl (nb_neg nl).1 (by rw [(nb_neg nl).2, vzl, vl, hZH, ← Int.neg_mul]; congr 1; omega)

theorem neg_run {b : Nat} (hb : b < 18446744073709551616) : ∀ w, (Op.unary UnOp.neg (.float .f64 b)).run Try.prog w = .ok (.float .f64 (flq b)) w := fun w => by rw [← neg_bits hb]; rfl
theorem two_pairs (w : World) (h l x y : Nat) : Pb ((w.alloc (.cells #[.float .f64 h, .float .f64 l] 33)).alloc (.cells #[.float .f64 x, .float .f64 y] 33)) w.heap.size h l ∧ Pb ((w.alloc (.cells #[.float .f64 h, .float .f64 l] 33)).alloc (.cells #[.float .f64 x, .float .f64 y] 33)) (w.heap.size + 1) x y := by
  have b2 := Pb.new (w.alloc (.cells #[.float .f64 h, .float .f64 l] 33)) x y
  rw [World.size_alloc] at b2
  exact ⟨(Pb.new w h l).alloc _, b2⟩
theorem below_two (w : World) (P Q : Obj) : Below w.heap.size w ((w.alloc P).alloc Q) := ((Below.refl _ _).alloc (Nat.le_refl _) _).alloc (by simp) _

set_option maxRecDepth 20000 in
set_option maxHeartbeats 2000000 in
theorem ddTurned_yes (a b : Nat) (ha : a < 18446744073709551616) (hb : b < 18446744073709551616) (sa : Sf a) (sb : Sf b) (w : World) :
    Calls Try.prog 6 #[.int .u64 (a : Int), .int .u64 (b : Int)] w fun e w' => e = .returned (.bool true) ∧ Below w.heap.size w w' := by
  obtain ⟨k, hk⟩ : ∃ k, k = 1675 := ⟨_, rfl⟩
  obtain ⟨s, r, t, tl, u, ul, p, pl, x, xl, z, zl, h, l, e1, e2, e3, e4, e5, e6, e7, ⟨lt1, lt2, lt3, lt4⟩, o1, o2, o3, o4, o5, o6, o7, o8, o9, o10⟩ := turned_all hk (sf_nb hk ha sa) (sf_nb hk hb sb) sa
  have hva : decide (Sf a) = true := decide_eq_true sa
  have hvb : decide (Sf b) = true := decide_eq_true sb
  have HL := Lib.hid (dalive_any w)
  have S1 := Lib.hid (fun u => safe_l true a ha u hva)
  have S2 := Lib.hid (fun u => safe_l true b hb u hvb)
  have fa := frombits_e a
  have fb := frombits_e b
  have g1 := neg_run ha
  have g2 := neg_run hb
  have g3 := neg_run lt1
  have g4 := neg_run lt2
  have g5 := neg_run lt3
  have g6 := neg_run lt4
  have C1 := Lib.hid (sum_w e1)
  have C2 := Lib.hid (sum_w e2)
  have C3 := Lib.hid (sum_w e3)
  have C4 := Lib.hid (prod_w e4)
  have C5 := Lib.hid (sum_w e5)
  have C6 := Lib.hid (split_w e6)
  have C7 := Lib.hid (split_w e7)
  generalize flq a = na at *
  generalize flq b = nb at *
  generalize flq t = nt at *
  generalize flq tl = ntl at *
  generalize flq h = nh at *
  generalize flq l = nl at *
  clear e1 e2 e3 e4 e5 e6 e7 lt1 lt2 lt3 lt4 hva hvb ha hb sa sb hk
  go_enter Try.func6, Try.ntmps6
  go_wp2_with fail
  refine HL.out.mono ?_
  rintro e w1 ⟨rfl, hB1⟩
  have cur := Lib.hid hB1
  clear hB1 HL
  go_wp2_with fail
  refine (S1.out _).mono ?_
  rintro e w' ⟨rfl, rfl⟩
  go_wp2_with fail
  refine (S2.out _).mono ?_
  rintro e w' ⟨rfl, rfl⟩
  clear S1 S2
  go_wp2_with fail
  refine (C1.out _).mono ?_
  rintro e w2 ⟨rfl, hB⟩
  replace cur := Lib.hid (cur.out.trans (hB.mono cur.out.size))
  clear hB
  go_wp2_with fail
  refine (C2.out _).mono ?_
  rintro e w3 ⟨rfl, hB⟩
  replace cur := Lib.hid (cur.out.trans (hB.mono cur.out.size))
  clear hB
  have P1 := Lib.hid (two_pairs w3 s r t tl).1
  have P2 := Lib.hid (two_pairs w3 s r t tl).2
  replace cur := Lib.hid (cur.out.trans ((below_two w3 (.cells #[.float .f64 s, .float .f64 r] 33) (.cells #[.float .f64 t, .float .f64 tl] 33)).mono cur.out.size))
  clear C1 C2
  go_wp2_with fail
  refine (C3.out _).mono ?_
  rintro e w4 ⟨rfl, hB⟩
  replace cur := Lib.hid (cur.out.trans (hB.mono cur.out.size))
  replace P1 := Lib.hid (P1.out.below hB)
  replace P2 := Lib.hid (P2.out.below hB)
  clear hB
  go_wp2_with fail
  refine (C4.out _).mono ?_
  rintro e w5 ⟨rfl, hB⟩
  replace cur := Lib.hid (cur.out.trans (hB.mono cur.out.size))
  replace P1 := Lib.hid (P1.out.below hB)
  replace P2 := Lib.hid (P2.out.below hB)
  clear hB
  have P3 := Lib.hid (two_pairs w5 u ul p pl).1
  have P4 := Lib.hid (two_pairs w5 u ul p pl).2
  replace P1 := Lib.hid (P1.out.below (below_two w5 (.cells #[.float .f64 u, .float .f64 ul] 33) (.cells #[.float .f64 p, .float .f64 pl] 33)))
  replace P2 := Lib.hid (P2.out.below (below_two w5 (.cells #[.float .f64 u, .float .f64 ul] 33) (.cells #[.float .f64 p, .float .f64 pl] 33)))
  replace cur := Lib.hid (cur.out.trans ((below_two w5 (.cells #[.float .f64 u, .float .f64 ul] 33) (.cells #[.float .f64 p, .float .f64 pl] 33)).mono cur.out.size))
  clear C3 C4
  go_wp2_with fail
  refine (C5.out _).mono ?_
  rintro e w6 ⟨rfl, hB⟩
  replace cur := Lib.hid (cur.out.trans (hB.mono cur.out.size))
  replace P1 := Lib.hid (P1.out.below hB)
  replace P2 := Lib.hid (P2.out.below hB)
  replace P3 := Lib.hid (P3.out.below hB)
  replace P4 := Lib.hid (P4.out.below hB)
  clear hB
  go_wp2_with fail
  refine (C6.out _).mono ?_
  rintro e w7 ⟨rfl, hB⟩
  replace cur := Lib.hid (cur.out.trans (hB.mono cur.out.size))
  replace P1 := Lib.hid (P1.out.below hB)
  replace P2 := Lib.hid (P2.out.below hB)
  replace P3 := Lib.hid (P3.out.below hB)
  replace P4 := Lib.hid (P4.out.below hB)
  clear hB
  have P5 := Lib.hid (two_pairs w7 x xl z zl).1
  have P6 := Lib.hid (two_pairs w7 x xl z zl).2
  replace P1 := Lib.hid (P1.out.below (below_two w7 (.cells #[.float .f64 x, .float .f64 xl] 33) (.cells #[.float .f64 z, .float .f64 zl] 33)))
  replace P2 := Lib.hid (P2.out.below (below_two w7 (.cells #[.float .f64 x, .float .f64 xl] 33) (.cells #[.float .f64 z, .float .f64 zl] 33)))
  replace P3 := Lib.hid (P3.out.below (below_two w7 (.cells #[.float .f64 x, .float .f64 xl] 33) (.cells #[.float .f64 z, .float .f64 zl] 33)))
  replace P4 := Lib.hid (P4.out.below (below_two w7 (.cells #[.float .f64 x, .float .f64 xl] 33) (.cells #[.float .f64 z, .float .f64 zl] 33)))
  replace cur := Lib.hid (cur.out.trans ((below_two w7 (.cells #[.float .f64 x, .float .f64 xl] 33) (.cells #[.float .f64 z, .float .f64 zl] 33)).mono cur.out.size))
  clear C5 C6
  go_wp2_with fail
  refine (C7.out _).mono ?_
  rintro e w8 ⟨rfl, hB⟩
  replace cur := Lib.hid (cur.out.trans (hB.mono cur.out.size))
  replace P1 := Lib.hid (P1.out.below hB)
  replace P2 := Lib.hid (P2.out.below hB)
  replace P3 := Lib.hid (P3.out.below hB)
  replace P4 := Lib.hid (P4.out.below hB)
  replace P5 := Lib.hid (P5.out.below hB)
  replace P6 := Lib.hid (P6.out.below hB)
  clear hB C7
  have x1 := P1.out.c0
  have y1 := P1.out.c1
  have z1 := P1.out.lt
  have x2 := P2.out.c0
  have y2 := P2.out.c1
  have z2 := P2.out.lt
  have x3 := P3.out.c0
  have y3 := P3.out.c1
  have z3 := P3.out.lt
  have x4 := P4.out.c0
  have y4 := P4.out.c1
  have z4 := P4.out.lt
  have x5 := P5.out.c0
  have y5 := P5.out.c1
  have z5 := P5.out.lt
  have x6 := P6.out.c0
  have y6 := P6.out.c1
  have z6 := P6.out.lt
  replace cur := Lib.hid (cur.out.trans ((below1 w8 (.cells #[.float .f64 h, .float .f64 l] 33)).mono cur.out.size))
  clear P1 P2 P3 P4 P5 P6
  go_wp2
  go_ret
  exact ⟨rfl, cur.out⟩

theorem ddTurned_no (a b : Nat) (ha : a < 18446744073709551616) (hb : b < 18446744073709551616) (hs : ¬ (Sf a ∧ Sf b)) (w : World) :
    Calls Try.prog 6 #[.int .u64 (a : Int), .int .u64 (b : Int)] w fun e w' => e = .returned (.bool true) ∧ Below w.heap.size w w' := by
  obtain ⟨va, hva⟩ : ∃ v, decide (Sf a) = v := ⟨_, rfl⟩
  obtain ⟨vb, hvb⟩ : ∃ v, decide (Sf b) = v := ⟨_, rfl⟩
  have HL := Lib.hid (dalive_any w)
  have S1 := Lib.hid (fun u => safe_l va a ha u hva)
  have S2 := Lib.hid (fun u => safe_l vb b hb u hvb)
  have hab : va = false ∨ (va = true ∧ vb = false) := by
    cases va
    · exact Or.inl rfl
    · refine Or.inr ⟨rfl, ?_⟩
      cases vb
      · rfl
      · exact absurd ⟨of_decide_eq_true hva, of_decide_eq_true hvb⟩ hs
  clear hva hvb hs ha hb
  go_enter Try.func6, Try.ntmps6
  go_wp2_with fail
  refine HL.out.mono ?_
  rintro e w1 ⟨rfl, hB1⟩
  have cur := Lib.hid hB1
  clear hB1 HL
  go_wp2_with fail
  refine (S1.out _).mono ?_
  rintro e w' ⟨rfl, rfl⟩
  rcases hab with rfl | ⟨rfl, rfl⟩
  · clear S1 S2
    go_wp2
    go_ret
    exact ⟨rfl, cur.out⟩
  · go_wp2_with fail
    refine (S2.out _).mono ?_
    rintro e w' ⟨rfl, rfl⟩
    clear S1 S2
    go_wp2
    go_ret
    exact ⟨rfl, cur.out⟩

theorem walk_ddTurned (a0 a1 : Int) (w : World) (h0 : 0 ≤ a0) (h1 : a0 ≤ 18446744073709551615) (h2 : 0 ≤ a1) (h3 : a1 ≤ 18446744073709551615) :
    Calls Try.prog 6 #[.int .u64 a0, .int .u64 a1] w fun e w' => e = .returned (.bool true) ∧ Below w.heap.size w w' := by
  obtain ⟨a, rfl⟩ := Int.eq_ofNat_of_zero_le h0
  obtain ⟨b, rfl⟩ := Int.eq_ofNat_of_zero_le h2
  by_cases hs : Sf a ∧ Sf b
  · exact ddTurned_yes a b (by omega) (by omega) hs.1 hs.2 w
  · exact ddTurned_no a b (by omega) (by omega) hs w
end Go.Proofs.Ytfccpjjdemanbaa
