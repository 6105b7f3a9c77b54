/- The walks of exact.Power, Is and Of: what the laws of layer 11 ask. -/
import Derived.Test.YtmmeejofepmgaaaGreatDoorExPow
import Derived.Test.YtmmeejofepmgaaaGreatDoorExSoM
import Derived.Test.YtmmeejofepmgaaaGreatDoorExTermM
namespace Go.Proofs.YtmmeejofepmgaaaGreatDoor
open Go.RowKit

/-- q in its box, the result's block, and a dyad in a block of its own. -/
def HoldW (w : World) (p : Nat) (M K : Int) (b : Nat) (g : Bool) (A : Option Addr) (n c : Nat) (xs : List Nat) (E : Int) (u : World) : Prop :=
  Qx u (p + 1) M K ∧ Bd u (p + 2) 32 false none 0 0 0 ∧ Bd u b 32 g A n c E ∧ Lim u A n c xs ∧ Tab u ∧ Below w.heap.size w u
section
variable {w : World} {p : Nat} {M K : Int} {b : Nat} {g : Bool} {A : Option Addr} {n c : Nat} {xs : List Nat} {E : Int} {u u' : World}
theorem HoldW.below (h : HoldW w p M K b g A n c xs E u) (hb : Below u.heap.size u u') : HoldW w p M K b g A n c xs E u' :=
  ⟨h.1.below hb, h.2.1.below hb, h.2.2.1.below hb, h.2.2.2.1.below hb, h.2.2.2.2.1.below hb, h.2.2.2.2.2.trans (hb.mono h.2.2.2.2.2.size)⟩
end
theorem above_odd {d : Dy} (h : Odd d) (hs : 0 < sgD d.neg d.V) : d.V % 2 = 1 ∧ d.neg = false := by
  obtain ⟨h1, h2⟩ := sgD_above hs
  refine ⟨?_, h2⟩
  rcases h with ⟨m, hm⟩ | h
  · omega
  · rw [h] at h1; exact absurd rfl h1
/-- A result's block that takes what was found. -/
theorem pow_out {w w' : World} {b t : Nat} {o : Option Dy} {M K : Int} {g : Bool} {A : Option Addr} {m c : Nat} {zs : List Nat} {f : Int} {bb : Bool} {r : Int} {g0 : Bool} {A0 : Option Addr} {n0 c0 : Nat} {e0 : Int} (hB : Bd w' b t g0 A0 n0 c0 e0) (hb : w.heap.size ≤ b) (hS : Below w.heap.size w w') (hl : Lim w' A m c zs) (hm : m ≤ 1024) (hbz : Bare zs) (hi : PowIs o M K g (val zs) f bb r) :
    PowTold w o M K (.returned (.tuple #[.agg #[.bool g, .slice A m c, .int .i64 f], .bool bb, .int .i64 r])) (World.put w' b g A m c f) :=
  ⟨A, m, c, zs, g, f, bb, r, rfl, by omega, hB.lim hl _ _ _ _ _, hbz, below_put hS hb _ _ _ _ _, hi⟩

set_option maxHeartbeats 2000000 in
set_option maxRecDepth 20000 in
theorem power_meets : PowerMeets := by
  intro g A n c xs e0 M K w hA hn hT hM1 hM2 hK1 hK2
  have a1 := below1 w (.cells #[.bool g, .slice A n c, .int .i64 e0] 32)
  have a2 := a1.trans ((below1 (w.alloc (.cells #[.bool g, .slice A n c, .int .i64 e0] 32)) (.cells #[.int .i64 M, .int .i64 K] 36)).mono a1.size)
  have a3 := a2.trans ((below1 ((w.alloc (.cells #[.bool g, .slice A n c, .int .i64 e0] 32)).alloc (.cells #[.int .i64 M, .int .i64 K] 36)) (.cells #[.bool false, .slice none 0 0, .int .i64 0] 32)).mono a2.size)
  have b2 := Qx.new (w.alloc (.cells #[.bool g, .slice A n c, .int .i64 e0] 32)) M K
  rw [World.size_alloc] at b2
  have b3 := Bd.new ((w.alloc (.cells #[.bool g, .slice A n c, .int .i64 e0] 32)).alloc (.cells #[.int .i64 M, .int .i64 K] 36)) 32 false none 0 0 0
  rw [World.size_alloc, World.size_alloc] at b3
  have b4 := b2.alloc (.cells #[.bool false, .slice none 0 0, .int .i64 0] 32)
  have h1 := dbare_any g A n c xs e0 _ (hA.below a3) (by omega) (hT.below a3)
  obtain ⟨o, ho⟩ : ∃ o, mk g (val xs) e0 = o := ⟨_, rfl⟩
  rw [ho] at h1 ⊢
  have HO := Lib.hid ho
  have H1 := Lib.hid h1
  have HQ := Lib.hid b4
  have HR := Lib.hid b3
  have HT := Lib.hid (hT.below a3)
  have HS := Lib.hid a3
  have H2 : Hid (∀ u, Calls Tryz.prog 21 #[.agg #[.int .i64 M, .int .i64 K]] u fun e w' => ∃ LM LK r, e = .returned (.tuple #[.agg #[.int .i64 LM, .int .i64 LK], .int .i64 r]) ∧ Below u.heap.size u w' ∧ ((K < 1 ∧ LM = 0 ∧ LK = 0 ∧ r = 1) ∨ (1 ≤ K ∧ r = 0 ∧ ∃ q : Nat, 1 ≤ q ∧ M = LM * q ∧ K = LK * q ∧ 1 ≤ LK ∧ Nat.gcd LM.natAbs LK.natAbs = 1))) := fun u => elow_l M K u hM1 hM2 hK1 hK2
  have HB : Hid (-9223372036854775808 ≤ M ∧ M ≤ 9223372036854775807 ∧ -9223372036854775808 ≤ K ∧ K ≤ 9223372036854775807 ∧ n ≤ 100) := ⟨hM1, hM2, hK1, hK2, hn⟩
  clear a1 a2 a3 b2 b3 b4 ho h1 hA hT hM1 hM2 hK1 hK2 hn
  go_enter Tryz.func6, Tryz.ntmps6
  go_wp2_with fail
  refine H1.out.mono ?_
  rintro e w1 ⟨g1, A1, m1, c1, zs, E1, r1, rfl, hm1, hl1, hb1, his1, hB1⟩
  have a4 := below1 w1 (.cells #[.bool g1, .slice A1 m1 c1, .int .i64 E1] 32)
  have hs1 := HS.out.trans (hB1.mono HS.out.size)
  have k0 : HoldW w w.heap.size M K w1.heap.size g1 A1 m1 c1 zs E1 (w1.alloc (.cells #[.bool g1, .slice A1 m1 c1, .int .i64 E1] 32)) :=
    ⟨(HQ.out.below hB1).alloc _, (HR.out.below hB1).alloc _, Bd.new _ _ _ _ _ _ _, hl1.alloc _, (HT.out.below hB1).below a4, hs1.trans (a4.mono hs1.size)⟩
  have K0 := Lib.hid k0
  have HI := Lib.hid his1
  have x3 := k0.1.c0
  have x4 := k0.1.c1
  have Hm1 := Lib.hid (Nat.le_trans hm1 HB.out.2.2.2.2)
  clear a4 hs1 k0 hl1 hb1 his1 hB1 H1 HQ HR HT HS hm1
  go_wp2_with fail
  refine (H2.out _).mono ?_
  rintro e w2 ⟨LM, LK, r2, rfl, hB2, hlow⟩
  have k2 := K0.out.below hB2
  have a5 := below1 w2 (.cells #[.int .i64 LM, .int .i64 LK] 36)
  have HQ2 := Lib.hid (Qx.new w2 LM LK)
  replace K0 := Lib.hid (k2.below a5)
  have HLow := Lib.hid hlow
  clear x3 x4 k2 a5 hlow hB2 H2
  cases o with
  | none =>
    obtain ⟨rfl, rfl, hz, rfl⟩ := HI.out
    have y0 := K0.out.2.1.c0
    have y1 := K0.out.2.1.c1
    have y2 := K0.out.2.1.c2
    have yf := K0.out.2.1.fz
    have Hfin : Hid (PowTold w none M K (.returned (.tuple #[.agg #[.bool false, .slice none 0 0, .int .i64 0], .bool false, .int .i64 1])) (World.put (w2.alloc (.cells #[.int .i64 LM, .int .i64 LK] 36)) (w.heap.size + 2) false none 0 0 0)) :=
      pow_out K0.out.2.1 (by omega) K0.out.2.2.2.2.2 (Lim.nil _ _ _) (by decide) rfl ⟨rfl, rfl, rfl, rfl, rfl⟩
    clear hz HI HLow K0 HQ2 HO HB
    go_wp2
    exact bodyPost_ret (v := .tuple #[.agg #[.bool false, .slice none 0 0, .int .i64 0], .bool false, .int .i64 1]) (by simp [results, Tryz.results6, go_sem, y0, y1, y2]) rfl Hfin.out
  | some d =>
    obtain ⟨od, o1, o2⟩ := mk_odd_of HO.out
    obtain ⟨dg, dV, dE⟩ := d
    obtain ⟨rfl, hg1, hz, hE1⟩ := HI.out
    simp only at hg1 hz hE1 o1 o2
    subst hg1 hE1
    have Hz := Lib.hid hz
    have Hod := Lib.hid od
    have Ho1 := Lib.hid o1
    have Ho2 := Lib.hid o2
    obtain ⟨s, hs⟩ : ∃ s, sgD g1 dV = s := ⟨_, rfl⟩
    have H3 := Lib.hid (sign_l s g1 A1 m1 c1 zs E1 _ K0.out.2.2.2.1 (by have := Hm1.out; omega) (by show sgD _ _ = _; rw [hz]; exact hs))
    have z0 := K0.out.2.2.1.c0
    have z1 := K0.out.2.2.1.c1
    have z2 := K0.out.2.2.1.c2
    have Hs := Lib.hid hs
    clear hz od o1 o2 HI HO hs
    by_cases hs0 : s ≤ 0
    · have b1 : decide (s ≤ 0) = true := decide_eq_true hs0
      have Hs0 := Lib.hid hs0
      clear hs0
      go_wp2_with fail
      refine H3.out.mono ?_
      rintro e w3 ⟨rfl, hB3⟩
      replace K0 := Lib.hid (K0.out.below hB3)
      have y0 := K0.out.2.1.c0
      have y1 := K0.out.2.1.c1
      have y2 := K0.out.2.1.c2
      have yf := K0.out.2.1.fz
      have Hfin : Hid (PowTold w (some ⟨g1, dV, E1⟩) M K (.returned (.tuple #[.agg #[.bool false, .slice none 0 0, .int .i64 0], .bool false, .int .i64 1])) (World.put w3 (w.heap.size + 2) false none 0 0 0)) :=
        pow_out K0.out.2.1 (by omega) K0.out.2.2.2.2.2 (Lim.nil _ _ _) (by decide) rfl (by
          show if 0 < sgD g1 dV ∧ 1 ≤ K then _ else _
          rw [if_neg (by rw [Hs.out]; intro h; have := Hs0.out; omega)]
          exact ⟨rfl, rfl, rfl, rfl, rfl⟩)
      clear HLow K0 HQ2 HB Hz Hod Ho1 Ho2 Hs Hs0 H3 hB3 z0 z1 z2
      go_wp2
      exact bodyPost_ret (v := .tuple #[.agg #[.bool false, .slice none 0 0, .int .i64 0], .bool false, .int .i64 1]) (by simp [results, Tryz.results6, go_sem, y0, y1, y2]) rfl Hfin.out
    · have b1 : decide (s ≤ 0) = false := decide_eq_false hs0
      have Hs0 : Hid (0 < sgD g1 dV) := by show 0 < sgD g1 dV; rw [Hs.out]; omega
      clear hs0
      by_cases hK : K < 1
      · obtain rfl : r2 = 1 := by
          rcases HLow.out with ⟨_, _, _, h⟩ | ⟨h, _⟩
          · exact h
          · omega
        have HK := Lib.hid hK
        clear hK
        go_wp2_with fail
        refine H3.out.mono ?_
        rintro e w3 ⟨rfl, hB3⟩
        replace K0 := Lib.hid (K0.out.below hB3)
        have y0 := K0.out.2.1.c0
        have y1 := K0.out.2.1.c1
        have y2 := K0.out.2.1.c2
        have yf := K0.out.2.1.fz
        have Hfin : Hid (PowTold w (some ⟨g1, dV, E1⟩) M K (.returned (.tuple #[.agg #[.bool false, .slice none 0 0, .int .i64 0], .bool false, .int .i64 1])) (World.put w3 (w.heap.size + 2) false none 0 0 0)) :=
          pow_out K0.out.2.1 (by omega) K0.out.2.2.2.2.2 (Lim.nil _ _ _) (by decide) rfl (by
            show if 0 < sgD g1 dV ∧ 1 ≤ K then _ else _
            rw [if_neg (by intro h; have := HK.out; omega)]
            exact ⟨rfl, rfl, rfl, rfl, rfl⟩)
        clear HLow K0 HQ2 HB Hz Hod Ho1 Ho2 Hs Hs0 H3 hB3 z0 z1 z2 HK
        go_wp2
        exact bodyPost_ret (v := .tuple #[.agg #[.bool false, .slice none 0 0, .int .i64 0], .bool false, .int .i64 1]) (by simp [results, Tryz.results6, go_sem, y0, y1, y2]) rfl Hfin.out
      · obtain ⟨rfl, q, q1, q2, q3, q4, q5⟩ : r2 = 0 ∧ ∃ q : Nat, 1 ≤ q ∧ M = LM * q ∧ K = LK * q ∧ 1 ≤ LK ∧ Nat.gcd LM.natAbs LK.natAbs = 1 := by
          rcases HLow.out with ⟨h, _⟩ | ⟨_, h⟩
          · omega
          · exact h
        obtain ⟨hod, hg⟩ := above_odd Hod.out Hs0.out
        simp only at hod hg
        subst hg
        obtain ⟨lk, rfl⟩ := Int.eq_ofNat_of_zero_le (show 0 ≤ LK by omega)
        have hlm : LM.natAbs ≤ M.natAbs := by rw [q2, Int.natAbs_mul, Int.natAbs_natCast]; exact Nat.le_mul_of_pos_right _ q1
        have hsgn : (0 ≤ LM ∧ 0 ≤ M) ∨ (LM ≤ 0 ∧ M ≤ 0) := by
          rcases Int.le_total 0 LM with h | h
          · exact Or.inl ⟨h, by rw [q2]; exact Int.mul_nonneg h (Int.natCast_nonneg q)⟩
          · exact Or.inr ⟨h, by rw [q2]; exact Int.mul_nonpos_of_nonpos_of_nonneg h (Int.natCast_nonneg q)⟩
        have hlk : lk ≤ K.toNat := by
          have : K = ((lk * q : Nat) : Int) := by rw [q3, Int.natCast_mul]
          rw [this, Int.toNat_natCast]
          exact Nat.le_mul_of_pos_right _ q1
        have hbd := HB.out
        have hex : ∀ d', ExIs dV E1 LM lk d' ↔ ExIs dV E1 M K.toNat d' := fun d' => by
          have hkk : K.toNat = lk * q := by
            have : K = ((lk * q : Nat) : Int) := by rw [q3, Int.natCast_mul]
            rw [this, Int.toNat_natCast]
          rw [hkk, q2]
          exact (ex_times (by omega)).symm
        have HX := Lib.hid hex
        have HK : Hid (1 ≤ K) := by show 1 ≤ K; omega
        have hk0 := K0.out
        have H4 : Hid (∀ u, HoldW w w.heap.size M K w1.heap.size false A1 m1 c1 zs E1 u → Calls Tryz.prog 23 #[.agg #[.bool false, .slice A1 m1 c1, .int .i64 E1], .agg #[.int .i64 LM, .int .i64 (lk : Int)]] u (BrkTold u dV E1 LM lk)) := fun u hu => by
          have h9 := ebrk_l A1 m1 c1 zs E1 LM lk u hu.2.2.2.1 Hm1.out hu.2.2.2.2.1 (by rw [Hz.out]; exact hod) Ho1.out Ho2.out (by omega) (by omega) (by omega) (by omega) (by rw [Int.toNat_natCast]; rw [Int.natAbs_natCast] at q5; exact q5)
          rw [Hz.out] at h9
          exact h9
        clear hod hlm hsgn hlk hbd hex hk0 q1 q2 q3 q4 q5 hK Hod Ho1 Ho2 HLow Hm1 HB Hz
        go_wp2_with fail
        refine H3.out.mono ?_
        rintro e w3 ⟨rfl, hB3⟩
        replace K0 := Lib.hid (K0.out.below hB3)
        replace HQ2 := Lib.hid (HQ2.out.below hB3)
        clear z0 z1 z2 H3 hB3
        have z0 := K0.out.2.2.1.c0
        have z1 := K0.out.2.2.1.c1
        have z2 := K0.out.2.2.1.c2
        have v0 := HQ2.out.c0
        have v1 := HQ2.out.c1
        go_wp2_with fail
        refine (H4.out _ K0.out).mono ?_
        rintro e w4 ⟨g4, A4, m4, c4, us, f4, bb, rfl, hm4, hl4, hb4, hB4, hi4⟩
        have a6 := below1 w4 (.cells #[.bool g4, .slice A4 m4 c4, .int .i64 f4] 32)
        have hk4 := (K0.out.below hB4).below a6
        have hd4 := Bd.new w4 32 g4 A4 m4 c4 f4
        have y0 := hk4.2.1.c0
        have y1 := hk4.2.1.c1
        have y2 := hk4.2.1.c2
        have yf := hk4.2.1.fz
        have t0 := hd4.c0
        have t1 := hd4.c1
        have t2 := hd4.c2
        have Hp := hk4.2.1.put g4 A4 m4 c4 f4
        have p0 := Hp.c0
        have p1 := Hp.c1
        have p2 := Hp.c2
        have Hfin : Hid (PowTold w (some ⟨false, dV, E1⟩) M K (.returned (.tuple #[.agg #[.bool g4, .slice A4 m4 c4, .int .i64 f4], .bool bb, .int .i64 0])) (World.put (w4.alloc (.cells #[.bool g4, .slice A4 m4 c4, .int .i64 f4] 32)) (w.heap.size + 2) g4 A4 m4 c4 f4)) :=
          pow_out hk4.2.1 (by omega) hk4.2.2.2.2.2 (hl4.below a6) hm4 hb4 (by
            show if 0 < sgD false dV ∧ 1 ≤ K then _ else _
            rw [if_pos ⟨Hs0.out, HK.out⟩]
            refine ⟨rfl, ?_⟩
            rcases hi4 with ⟨h1, h2⟩ | ⟨h1, h2, h3, h4, h5⟩
            · exact Or.inl ⟨h1, (HX.out _).1 (by rw [Int.toNat_natCast] at h2; exact h2)⟩
            · exact Or.inr ⟨h1, h2, h3, h4, fun d' hd => h5 d' (by rw [Int.toNat_natCast]; exact (HX.out _).2 hd)⟩)
        clear K0 HQ2 H4 HX HK Hs Hs0 hl4 hb4 hB4 hi4 a6 hk4 hd4 Hp z0 z1 z2 v0 v1
        go_wp2
        exact bodyPost_ret (v := .tuple #[.agg #[.bool g4, .slice A4 m4 c4, .int .i64 f4], .bool bb, .int .i64 0]) (by simp [results, Tryz.results6, go_sem, p0, p1, p2]) rfl Hfin.out
end Go.Proofs.YtmmeejofepmgaaaGreatDoor
