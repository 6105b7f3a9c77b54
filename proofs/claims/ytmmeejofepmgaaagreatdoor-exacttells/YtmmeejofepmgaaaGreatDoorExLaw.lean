/- What the laws of layer 11 ask of exact.Power; the law's example; planimeterref11.Near. -/
import Derived.Test.YtmmeejofepmgaaaGreatDoorExPower
import Derived.Test.YtmmeejofepmgaaaGreatDoorK5
import Derived.Test.YtmmeejofepmgaaaGreatDoorK4
namespace Go.Proofs.YtmmeejofepmgaaaGreatDoor
open Go.RowKit

/-- What Power is to tell of what Bare tells: a dyad, a bool and an error. -/
def PowIs (o : Option Dy) (M K : Int) (g : Bool) (V : Nat) (E : Int) (b : Bool) (r : Int) : Prop :=
  match o with
  | none => r = 1 ∧ b = false ∧ g = false ∧ V = 0 ∧ E = 0
  | some d => if 0 < sgD d.neg d.V ∧ 1 ≤ K then r = 0 ∧ ((b = true ∧ ExIs d.V d.e M K.toNat ⟨g, V, E⟩) ∨ (b = false ∧ g = false ∧ V = 0 ∧ E = 0 ∧ ∀ d', ¬ ExIs d.V d.e M K.toNat d')) else r = 1 ∧ b = false ∧ g = false ∧ V = 0 ∧ E = 0
def PowTold (w : World) (o : Option Dy) (M K : Int) (e : Ending) (w' : World) : Prop :=
  ∃ A m c zs g E b r, e = .returned (.tuple #[.agg #[.bool g, .slice A m c, .int .i64 E], .bool b, .int .i64 r]) ∧ m ≤ 100000 ∧ Lim w' A m c zs ∧ Bare zs ∧ Below w.heap.size w w' ∧ PowIs o M K g (val zs) E b r
/-- The contract of exact.Power: what the laws are walked with. -/
def PowerMeets : Prop := ∀ (g : Bool) (A : Option Addr) (n c : Nat) (xs : List Nat) (e0 M K : Int) (w : World), Lim w A n c xs → n ≤ 100 → Tab w → -9223372036854775808 ≤ M → M ≤ 9223372036854775807 → -9223372036854775808 ≤ K → K ≤ 9223372036854775807 →
  Calls Tryz.prog 6 #[.agg #[.bool g, .slice A n c, .int .i64 e0], .agg #[.int .i64 M, .int .i64 K]] w (PowTold w (mk g (val xs) e0) M K)

theorem HoldD.tri {w : World} {b : Nat} {g : Bool} {A : Option Addr} {n c : Nat} {xs : List Nat} {e0 : Int} {u : World} (h : HoldD w b g A n c xs e0 u) : u.cell? ⟨b, 0, none⟩ = some (.bool g) ∧ u.cell? ⟨b, 1, none⟩ = some (.slice A n c) ∧ u.cell? ⟨b, 2, none⟩ = some (.int .i64 e0) := ⟨h.1.c0, h.1.c1, h.1.c2⟩
theorem ex_alive : ExIs 9 0 3 2 ⟨false, 27, 0⟩ := ⟨rfl, rfl, by decide, by decide, by decide, by decide⟩

set_option maxHeartbeats 2000000 in
set_option maxRecDepth 20000 in
theorem ealive_any (HPow : PowerMeets) (w : World) (hT : Tab w) : Calls Tryz.prog 4 #[] w fun e w' => e = .returned (.bool true) ∧ Below w.heap.size w w' := by
  have H9 : Hid (∀ u, Tab u → Calls Tryz.prog 14 #[.int .i64 9] u (Tells1 u false 9 1 0)) := fun u hu => dof_nat 9 (by decide) false 9 0 u hu rfl
  have HT := Lib.hid hT
  have HP := Lib.hid HPow
  clear hT HPow
  go_enter Tryz.func4, Tryz.ntmps4
  go_wp2_with fail
  refine (H9.out _ HT.out).mono ?_
  rintro e w1 ⟨A1, m1, c1, zs, rfl, hm1, hl1, hb1, hv1, hB1⟩
  replace HT := Lib.hid (HT.out.below hB1)
  have HS := Lib.hid hB1
  have h1 := HP.out false A1 m1 c1 zs 0 3 2 w1 hl1 (by omega) HT.out (by decide) (by decide) (by decide) (by decide)
  rw [hv1] at h1
  have H1 := Lib.hid h1
  clear hl1 hb1 hB1 hv1 h1
  go_wp2_with fail
  refine H1.out.mono ?_
  rintro e w2 ⟨A2, m2, c2, us, g2, E2, b2, r2, rfl, hm2, hl2, hb2, hB2, hi2⟩
  replace hi2 : r2 = 0 ∧ ((b2 = true ∧ ExIs 9 0 3 2 ⟨g2, val us, E2⟩) ∨ (b2 = false ∧ g2 = false ∧ val us = 0 ∧ E2 = 0 ∧ ∀ d', ¬ ExIs 9 0 3 2 d')) := hi2
  obtain ⟨rfl, hi2⟩ := hi2
  have hi3 : b2 = true ∧ (⟨g2, val us, E2⟩ : Dy) = ⟨false, 27, 0⟩ := by
    rcases hi2 with ⟨h1, h2⟩ | ⟨_, _, _, _, h2⟩
    · exact ⟨h1, h2.uniq (by decide) (by decide) ex_alive⟩
    · exact absurd ex_alive (h2 _)
  obtain ⟨rfl, hi4⟩ := hi3
  injection hi4 with q1 q2 q3
  subst q1
  subst q3
  have k2 := hB2.trans ((below1 w2 (.cells #[.bool false, .slice A2 m2 c2, .int .i64 0] 32)).mono hB2.size)
  replace HT := Lib.hid (HT.out.below k2)
  replace HS := Lib.hid (HS.out.trans (k2.mono HS.out.size))
  have HD := Lib.hid (Bd.new w2 32 false A2 m2 c2 0)
  have HL := Lib.hid (hl2.alloc (.cells #[.bool false, .slice A2 m2 c2, .int .i64 0] 32))
  have HV := Lib.hid q2
  clear hB2 hl2 hb2 hi2 k2 q2 H1
  go_wp2_with fail
  refine (H9.out _ HT.out).mono ?_
  rintro e w3 ⟨A3, m3, c3, ts, rfl, hm3, hl3, hb3, hv3, hB3⟩
  replace HT := Lib.hid (HT.out.below hB3)
  replace HS := Lib.hid (HS.out.trans (hB3.mono HS.out.size))
  replace HD := Lib.hid (HD.out.below hB3)
  replace HL := Lib.hid (HL.out.below hB3)
  have h1 := HP.out false A3 m3 c3 ts 0 3 0 w3 hl3 (by omega) HT.out (by decide) (by decide) (by decide) (by decide)
  rw [hv3] at h1
  have H1 := Lib.hid h1
  clear hl3 hb3 hB3 hv3 h1
  go_wp2_with fail
  refine H1.out.mono ?_
  rintro e w4 ⟨A4, m4, c4, rs, g4, E4, b4, r4, rfl, hm4, hl4, hb4, hB4, hi4⟩
  replace hi4 : r4 = 1 ∧ b4 = false ∧ g4 = false ∧ val rs = 0 ∧ E4 = 0 := hi4
  obtain ⟨rfl, rfl, rfl, _, rfl⟩ := hi4
  have k4 := hB4.trans ((below1 w4 (.cells #[.bool false, .slice A4 m4 c4, .int .i64 0] 32)).mono hB4.size)
  have h9 : HoldD w w2.heap.size false A2 m2 c2 us 0 (w4.alloc (.cells #[.bool false, .slice A4 m4 c4, .int .i64 0] 32)) := ⟨HD.out.below k4, HL.out.below k4, HT.out.below k4, HS.out.trans (k4.mono HS.out.size)⟩
  have K0 := Lib.hid (h9.below (below_drew _))
  have HO : Hid (∀ u, HoldD w w2.heap.size false A2 m2 c2 us 0 u → Calls Tryz.prog 14 #[.int .i64 27] u (Tells1 u false 27 1 0)) := fun u hu => dof_nat 27 (by decide) false 27 0 u hu.2.2.1 rfl
  have HC : Hid (∀ u A5 m5 c5 qs, HoldD w w2.heap.size false A2 m2 c2 us 0 u → Lim u A5 m5 c5 qs → val qs = 27 → m5 ≤ 1 → Calls Tryz.prog 15 #[.agg #[.bool false, .slice A2 m2 c2, .int .i64 0], .agg #[.bool false, .slice A5 m5 c5, .int .i64 0]] u fun e w' => e = .returned (.int .i64 0) ∧ Below u.heap.size u w') := fun u A5 m5 c5 qs hu h1 h2 h3 =>
    dcmp_l 0 false A2 m2 c2 us 0 false A5 m5 c5 qs 0 u hu.2.1 h1 (by omega) (by omega) hu.2.2.1 (by show _ = _; rw [HV.out, h2]; exact cmpI_eq rfl)
  clear h9 k4 hl4 hb4 hB4 HD HL HT HS HV H1 HP H9
  go_wp2_with fail
  go_region_held3 (fun w' => w'.cell? ⟨w2.heap.size, 0, none⟩ = some (.bool false) ∧ w'.cell? ⟨w2.heap.size, 1, none⟩ = some (.slice A2 m2 c2) ∧ w'.cell? ⟨w2.heap.size, 2, none⟩ = some (.int .i64 0))
    (first | (with_reducible exact K0.out.tri) | (with_reducible exact K1.out.tri) | (with_reducible exact K2.out.tri))
    (first
      | (go_at_call 14; (with_reducible refine (HO.out _ K0.out).mono ?_); rintro e w5 ⟨A5, m5, c5, qs, rfl, hm5, hl5, hb5, hv5, hB5⟩; have K1 := Lib.hid (K0.out.below hB5); have L5 := Lib.hid hl5; have V5 := Lib.hid hv5; clear hl5 hb5 hv5 hB5)
      | (go_at_call 15; (with_reducible refine (HC.out _ A5 m5 c5 qs K1.out L5.out V5.out hm5).mono ?_); rintro e w6 ⟨rfl, hB6⟩; have K2 := Lib.hid (K1.out.below hB6); clear hB6))
  all_goals (
    have Hfin := Lib.hid K2.out.2.2.2
    clear K0 K1 K2 HO HC L5 V5
    go_wp2_with fail
    go_ret
    exact ⟨rfl, Hfin.out⟩)

/-- Can it be held against all bits? -/
def nearB (V : Nat) (E M K : Int) : Bool :=
  if M < -60 ∨ 60 < M ∨ K < 1 ∨ 40 < K then false else decide ((blen V : Int) * M ≤ 1500) && (decide (-1500 ≤ (blen V : Int) * M) && (decide (-2000 ≤ E) && decide (E ≤ 2000)))
theorem nearB_yes {V : Nat} {E M K : Int} (hV : 1 ≤ V) (h : nearB V E M K = true) : NearP V E M K.toNat ∧ 1 ≤ K ∧ K ≤ 40 := by
  unfold nearB at h
  by_cases h0 : M < -60 ∨ 60 < M ∨ K < 1 ∨ 40 < K
  · rw [if_pos h0] at h; exact absurd h (by decide)
  · rw [if_neg h0, Bool.and_eq_true, Bool.and_eq_true, Bool.and_eq_true] at h
    have q1 := of_decide_eq_true h.1
    have q2 := of_decide_eq_true h.2.1
    have q3 := of_decide_eq_true h.2.2.1
    have q4 := of_decide_eq_true h.2.2.2
    refine ⟨⟨hV, by omega, by omega, by omega, by omega, ?_, q3, q4⟩, by omega, by omega⟩
    have h5 : (blen V * M.natAbs : Nat) = ((blen V : Int) * M).natAbs := by rw [Int.natAbs_mul, Int.natAbs_natCast]
    omega
set_option maxHeartbeats 1000000 in
theorem near_l (v : Bool) (g : Bool) (A : Option Addr) (n c : Nat) (ds : List Nat) (e0 M K : Int) (w : World) (hA : Dig w A n c ds) (hb : D.Bare ds) (hn : n ≤ 1000) (hv : Hid (nearB (D.val ds) e0 M K = v)) :
    Calls Tryz.prog 10 #[.agg #[.bool g, .slice A n c, .int .i64 e0], .int .i64 M, .int .i64 K] w fun e w' => e = .returned (.bool v) ∧ Below w.heap.size w w' := by
  have a1 := below1 w (.cells #[.bool g, .slice A n c, .int .i64 e0] 30)
  have H1 := Lib.hid a1
  have hv' := hv.out
  unfold nearB at hv'
  by_cases h0 : M < -60 ∨ 60 < M ∨ K < 1 ∨ 40 < K
  · rw [if_pos h0] at hv'
    subst hv'
    have g4 : decide (M < -60) = true ∨ (decide (M < -60) = false ∧ decide (60 < M) = true) ∨ (decide (M < -60) = false ∧ decide (60 < M) = false ∧ decide (K < 1) = true) ∨ (decide (M < -60) = false ∧ decide (60 < M) = false ∧ decide (K < 1) = false ∧ decide (40 < K) = true) := by
      by_cases q1 : M < -60
      · exact Or.inl (decide_eq_true q1)
      · by_cases q2 : 60 < M
        · exact Or.inr (Or.inl ⟨decide_eq_false q1, decide_eq_true q2⟩)
        · by_cases q3 : K < 1
          · exact Or.inr (Or.inr (Or.inl ⟨decide_eq_false q1, decide_eq_false q2, decide_eq_true q3⟩))
          · exact Or.inr (Or.inr (Or.inr ⟨decide_eq_false q1, decide_eq_false q2, decide_eq_false q3, decide_eq_true (by omega)⟩))
    clear h0 hA hb hv a1
    rcases g4 with b1 | ⟨b1, b2⟩ | ⟨b1, b2, b3⟩ | ⟨b1, b2, b3, b4⟩
    all_goals
      go_enter Tryz.func10, Tryz.ntmps10
      go_wp2
      go_ret
      exact ⟨rfl, H1.out⟩
  · rw [if_neg h0] at hv'
    have b1 : decide (M < -60) = false := decide_eq_false (by omega)
    have b2 : decide (60 < M) = false := decide_eq_false (by omega)
    have b3 : decide (K < 1) = false := decide_eq_false (by omega)
    have b4 : decide (40 < K) = false := decide_eq_false (by omega)
    have hlt := D.val_lt hA.words
    rw [hA.len, D.pw_two] at hlt
    have hbl : blen (D.val ds) ≤ 16 * n := blen_le_iff.2 hlt
    have HB := rbits_any A n c ds _ (hA.below a1) hb (by omega)
    obtain ⟨B, hB⟩ : ∃ B, blen (D.val ds) = B := ⟨_, rfl⟩
    rw [hB] at hbl hv' HB
    replace HB := Lib.hid HB
    obtain ⟨P, hP⟩ : ∃ P, (B : Int) * M = P := ⟨_, rfl⟩
    have hPb : -16000 * 60 ≤ P ∧ P ≤ 16000 * 60 := by
      have h5 : (B * M.natAbs : Nat) = ((B : Int) * M).natAbs := by rw [Int.natAbs_mul, Int.natAbs_natCast]
      have h6 := Nat.mul_le_mul (show B ≤ 16000 by omega) (show M.natAbs ≤ 60 by omega)
      rw [hP] at h5
      omega
    obtain ⟨hP1, hP2⟩ := hPb
    rw [hP] at hv'
    have x1 := (Bd.new w 30 g A n c e0).c1
    have x2 := (Bd.new w 30 g A n c e0).c2
    clear hA hb hv a1 hlt hbl hB h0
    by_cases q1 : P ≤ 1500
    · have c1 : decide (P ≤ 1500) = true := decide_eq_true q1
      rw [c1, Bool.true_and] at hv'
      by_cases q2 : -1500 ≤ P
      · have c2 : decide (-1500 ≤ P) = true := decide_eq_true q2
        rw [c2, Bool.true_and] at hv'
        by_cases q3 : -2000 ≤ e0
        · have c3 : decide (-2000 ≤ e0) = true := decide_eq_true q3
          rw [c3, Bool.true_and] at hv'
          have HV := Lib.hid hv'
          clear hv' q1 q2 q3
          go_enter Tryz.func10, Tryz.ntmps10
          go_wp2_with fail
          refine HB.out.mono ?_
          rintro e w' ⟨rfl, rfl⟩
          go_wp2
          go_ret
          exact ⟨congrArg (fun v => Ending.returned (.bool v)) HV.out, H1.out⟩
        · have c3 : decide (-2000 ≤ e0) = false := decide_eq_false q3
          rw [c3, Bool.false_and] at hv'
          subst hv'
          clear q1 q2 q3
          go_enter Tryz.func10, Tryz.ntmps10
          go_wp2_with fail
          refine HB.out.mono ?_
          rintro e w' ⟨rfl, rfl⟩
          go_wp2
          go_ret
          exact ⟨rfl, H1.out⟩
      · have c2 : decide (-1500 ≤ P) = false := decide_eq_false q2
        rw [c2, Bool.false_and] at hv'
        subst hv'
        clear q1 q2
        go_enter Tryz.func10, Tryz.ntmps10
        go_wp2_with fail
        refine HB.out.mono ?_
        rintro e w' ⟨rfl, rfl⟩
        go_wp2
        go_ret
        exact ⟨rfl, H1.out⟩
    · have c1 : decide (P ≤ 1500) = false := decide_eq_false q1
      rw [c1, Bool.false_and] at hv'
      subst hv'
      clear q1
      go_enter Tryz.func10, Tryz.ntmps10
      go_wp2_with fail
      refine HB.out.mono ?_
      rintro e w' ⟨rfl, rfl⟩
      go_wp2
      go_ret
      exact ⟨rfl, H1.out⟩
end Go.Proofs.YtmmeejofepmgaaaGreatDoor
