/- The walk of the law ExactTells (written by law_etells.py). -/
import Derived.Test.YtmmeejofepmgaaaGreatDoorExLaw
import Derived.Test.YtmmeejofepmgaaaGreatDoorK5
namespace Go.Proofs.YtmmeejofepmgaaaGreatDoor
open Go.RowKit

/-- An exponent in a block of its own. -/
def Qb (w : World) (b : Nat) (M K : Int) : Prop := w.heap[b]? = some (.cells #[.int .i64 M, .int .i64 K] 26)
section
variable {w w' : World} {b : Nat} {M K : Int}
theorem Qb.lt (h : Qb w b M K) : b < w.heap.size := by
  rcases Nat.lt_or_ge b w.heap.size with h' | h'
  · exact h'
  · rw [Qb, Array.getElem?_eq_none h'] at h; cases h
theorem Qb.new (w : World) (M K : Int) : Qb (w.alloc (.cells #[.int .i64 M, .int .i64 K] 26)) w.heap.size M K := by
  show (w.heap.push _)[w.heap.size]? = _
  simp
theorem Qb.below (h : Qb w b M K) (hb : Below w.heap.size w w') : Qb w' b M K := by
  rw [Qb, hb.block b h.lt]; exact h
theorem Qb.c0 (h : Qb w b M K) : w.cell? ⟨b, 0, none⟩ = some (.int .i64 M) := by simp [World.cell?, show w.heap[b]? = _ from h]
theorem Qb.c1 (h : Qb w b M K) : w.cell? ⟨b, 1, none⟩ = some (.int .i64 K) := by simp [World.cell?, show w.heap[b]? = _ from h]
end
theorem lim_nil11 {w : World} {A : Option Addr} {n c : Nat} {xs : List Nat} (h : Lim w A n c xs) (hb : Bare xs) (hv : val xs = 0) : n = 0 := by
  have h1 : xs = [] := bare_eq h.words Words.nil hb rfl (by rw [hv]; rfl)
  rw [← h.len, h1]; rfl
theorem mk_if11 {g : Bool} {V : Nat} {e : Int} {d : Dy} (h : nO g V e = d) : mk g V e = if -1073741824 ≤ d.e ∧ d.e ≤ 1073741824 then some d else none := by
  rw [mk_nO, h]
  have ho := nO_odd g V e
  rw [h] at ho
  unfold toldD
  rcases ho with ⟨k, hk⟩ | ho
  · rw [if_neg (by omega)]
    by_cases h1 : -1073741824 ≤ d.e ∧ d.e ≤ 1073741824
    · rw [if_pos h1, if_neg (by omega)]
    · rw [if_neg h1, if_pos (by omega)]
  · subst ho; rfl

/-- While the law is walked: the dyad and the exponent in their boxes, the document's number, the power. -/
def HoldE (w : World) (g : Bool) (A : Option Addr) (n c : Nat) (xs : List Nat) (e0 M K : Int) (pn : Nat) (g1 : Bool) (A1 : Option Addr) (m1 c1 : Nat) (E1 : Int) (V1 : Nat) (es1 : List Nat) (pp : Nat) (pg : Bool) (A2 : Option Addr) (m2 c2 : Nat) (pE : Int) (zs : List Nat) (u : World) : Prop :=
  Bd u w.heap.size 24 g A n c e0 ∧ Qb u (w.heap.size + 1) M K ∧ Bd u pn 30 g1 A1 m1 c1 E1 ∧ Bd u pp 32 pg A2 m2 c2 pE ∧ Lim u A n c xs ∧ Mg u V1 A1 m1 c1 es1 ∧ Lim u A2 m2 c2 zs ∧ Tab u ∧ Below w.heap.size w u
section
variable {w : World} {g : Bool} {A : Option Addr} {n c : Nat} {xs : List Nat} {e0 M K : Int} {pn : Nat} {g1 : Bool} {A1 : Option Addr} {m1 c1 : Nat} {E1 : Int} {V1 : Nat} {es1 : List Nat} {pp : Nat} {pg : Bool} {A2 : Option Addr} {m2 c2 : Nat} {pE : Int} {zs : List Nat} {u u' : World}
theorem HoldE.below (q : HoldE w g A n c xs e0 M K pn g1 A1 m1 c1 E1 V1 es1 pp pg A2 m2 c2 pE zs u) (hb : Below u.heap.size u u') : HoldE w g A n c xs e0 M K pn g1 A1 m1 c1 E1 V1 es1 pp pg A2 m2 c2 pE zs u' := by
  obtain ⟨h1, h2, h3, h4, h5, h6, h7, h8, h9⟩ := q
  exact ⟨h1.below hb, h2.below hb, h3.below hb, h4.below hb, h5.below hb, h6.below hb, h7.below hb, h8.below hb, h9.trans (hb.mono h9.size)⟩
theorem HoldE.mg (q : HoldE w g A n c xs e0 M K pn g1 A1 m1 c1 E1 V1 es1 pp pg A2 m2 c2 pE zs u) : Mg u V1 A1 m1 c1 es1 := q.2.2.2.2.2.1
theorem HoldE.l2 (q : HoldE w g A n c xs e0 M K pn g1 A1 m1 c1 E1 V1 es1 pp pg A2 m2 c2 pE zs u) : Lim u A2 m2 c2 zs := q.2.2.2.2.2.2.1
theorem HoldE.tab_ (q : HoldE w g A n c xs e0 M K pn g1 A1 m1 c1 E1 V1 es1 pp pg A2 m2 c2 pE zs u) : Tab u := q.2.2.2.2.2.2.2.1
theorem HoldE.old (q : HoldE w g A n c xs e0 M K pn g1 A1 m1 c1 E1 V1 es1 pp pg A2 m2 c2 pE zs u) : Below w.heap.size w u := q.2.2.2.2.2.2.2.2
end

set_option maxHeartbeats 1000000 in
set_option maxRecDepth 20000 in
theorem etells_long (HPow : PowerMeets) (g : Bool) (A : Option Addr) (n c : Nat) (e0 M K : Int) (w : World) (hT : Tab w) (hl : 10 < n) :
    Calls Tryz.prog 3 #[.agg #[.bool g, .slice A n c, .int .i64 e0], .agg #[.int .i64 M, .int .i64 K]] w fun e w' => e = .returned (.bool true) ∧ Below w.heap.size w w' := by
  have a1 : Below w.heap.size w ((w.alloc (.cells #[.bool g, .slice A n c, .int .i64 e0] 24)).alloc (.cells #[.int .i64 M, .int .i64 K] 26)) := ((Below.refl _ _).alloc (Nat.le_refl _) _).alloc (by simp) _
  have H1 := Lib.hid (ealive_any HPow _ (hT.below a1))
  have Hb := Lib.hid ((Bd.new w 24 g A n c e0).alloc (.cells #[.int .i64 M, .int .i64 K] 26))
  have HS := Lib.hid a1
  have b1 : decide ((10 : Int) < (n : Int)) = true := decide_eq_true (by omega)
  clear a1 hT hl
  go_enter Tryz.func3, Tryz.ntmps3
  go_wp2_with fail
  refine H1.out.mono ?_
  rintro e w1 ⟨rfl, hB1⟩
  have x1 := (Hb.out.below hB1).c1
  have Hfin := Lib.hid (HS.out.trans (hB1.mono HS.out.size))
  clear hB1 H1 HS Hb
  go_wp2
  go_ret
  exact ⟨rfl, Hfin.out⟩

set_option maxHeartbeats 1500000 in
set_option maxRecDepth 20000 in
theorem etells_short (HPow : PowerMeets) (g : Bool) (A : Option Addr) (n c : Nat) (xs : List Nat) (e0 M K : Int) (w : World) (hT : Tab w) (hA : Lim w A n c xs) (hn : n ≤ 10) (hi1 : -9223372036854775808 ≤ M) (hi2 : M ≤ 9223372036854775807) (hj1 : -9223372036854775808 ≤ K) (hj2 : K ≤ 9223372036854775807) :
    Calls Tryz.prog 3 #[.agg #[.bool g, .slice A n c, .int .i64 e0], .agg #[.int .i64 M, .int .i64 K]] w fun e w' => e = .returned (.bool true) ∧ Below w.heap.size w w' := by
  have a1 : Below w.heap.size w ((w.alloc (.cells #[.bool g, .slice A n c, .int .i64 e0] 24)).alloc (.cells #[.int .i64 M, .int .i64 K] 26)) := ((Below.refl _ _).alloc (Nat.le_refl _) _).alloc (by simp) _
  have H1 := Lib.hid (ealive_any HPow _ (hT.below a1))
  have bq := Qb.new (w.alloc (.cells #[.bool g, .slice A n c, .int .i64 e0] 24)) M K
  rw [World.size_alloc] at bq
  obtain ⟨⟨g1, V1, E1⟩, hd⟩ : ∃ d, nO g (val xs) e0 = d := ⟨_, rfl⟩
  have hmk := mk_if11 hd
  simp only at hmk
  have HB0 : Hid (Bd ((w.alloc (.cells #[.bool g, .slice A n c, .int .i64 e0] 24)).alloc (.cells #[.int .i64 M, .int .i64 K] 26)) w.heap.size 24 g A n c e0 ∧ Qb ((w.alloc (.cells #[.bool g, .slice A n c, .int .i64 e0] 24)).alloc (.cells #[.int .i64 M, .int .i64 K] 26)) (w.heap.size + 1) M K ∧ Lim ((w.alloc (.cells #[.bool g, .slice A n c, .int .i64 e0] 24)).alloc (.cells #[.int .i64 M, .int .i64 K] 26)) A n c xs ∧ Tab ((w.alloc (.cells #[.bool g, .slice A n c, .int .i64 e0] 24)).alloc (.cells #[.int .i64 M, .int .i64 K] 26)) ∧ Below w.heap.size w ((w.alloc (.cells #[.bool g, .slice A n c, .int .i64 e0] 24)).alloc (.cells #[.int .i64 M, .int .i64 K] 26))) := ⟨(Bd.new w _ _ _ _ _ _).alloc _, bq, hA.below a1, hT.below a1, a1⟩
  have HOf : Hid (∀ u, Lim u A n c xs → Calls Tryz.prog 5 #[.agg #[.bool g, .slice A n c, .int .i64 e0]] u (NTold u ⟨g1, V1, E1⟩ 40)) := fun u hu => by
    have h := rof_any g A n c xs e0 u hu (by omega)
    rw [hd] at h
    exact h.mono fun _ _ ⟨A1, m1, c1, ds1, q1, q2, q3⟩ => ⟨A1, m1, c1, ds1, q1, by omega, q3⟩
  have HPw : Hid (∀ u, Lim u A n c xs → Tab u → Calls Tryz.prog 6 #[.agg #[.bool g, .slice A n c, .int .i64 e0], .agg #[.int .i64 M, .int .i64 K]] u (PowTold u (if -1073741824 ≤ E1 ∧ E1 ≤ 1073741824 then some ⟨g1, V1, E1⟩ else none) M K)) := fun u h1 h2 => by
    have h := HPow g A n c xs e0 M K u h1 (by omega) h2 hi1 hi2 hj1 hj2
    rw [hmk] at h
    exact h
  have b1 : decide ((10 : Int) < (n : Int)) = false := decide_eq_false (by omega)
  clear a1 hT hA hd hmk bq HPow
  go_enter Tryz.func3, Tryz.ntmps3
  go_wp2_with fail
  refine H1.out.mono ?_
  rintro e w1 ⟨rfl, hB1⟩
  obtain ⟨d1, d2, d3, d4, d5⟩ := HB0.out
  replace HB0 : Hid (Bd w1 w.heap.size 24 g A n c e0 ∧ Qb w1 (w.heap.size + 1) M K ∧ Lim w1 A n c xs ∧ Tab w1 ∧ Below w.heap.size w w1) := ⟨d1.below hB1, d2.below hB1, d3.below hB1, d4.below hB1, d5.trans (hB1.mono d5.size)⟩
  have x0 := HB0.out.1.c0
  have x1 := HB0.out.1.c1
  have x2 := HB0.out.1.c2
  clear hB1 H1 d1 d2 d3 d4 d5
  go_wp2_with fail
  refine (HOf.out _ HB0.out.2.2.1).mono ?_
  rintro e w2 ⟨A1, m1, c1, es1, rfl, hm1, hl1, hb1, hv1, hB2⟩
  have k2 := hB2.trans ((below1 w2 (.cells #[.bool g1, .slice A1 m1 c1, .int .i64 E1] 30)).mono hB2.size)
  obtain ⟨d1, d2, d3, d4, d5⟩ := HB0.out
  replace HB0 : Hid (Bd (w2.alloc (.cells #[.bool g1, .slice A1 m1 c1, .int .i64 E1] 30)) w.heap.size 24 g A n c e0 ∧ Qb (w2.alloc (.cells #[.bool g1, .slice A1 m1 c1, .int .i64 E1] 30)) (w.heap.size + 1) M K ∧ Lim (w2.alloc (.cells #[.bool g1, .slice A1 m1 c1, .int .i64 E1] 30)) A n c xs ∧ Tab (w2.alloc (.cells #[.bool g1, .slice A1 m1 c1, .int .i64 E1] 30)) ∧ Below w.heap.size w (w2.alloc (.cells #[.bool g1, .slice A1 m1 c1, .int .i64 E1] 30))) := ⟨d1.below k2, d2.below k2, d3.below k2, d4.below k2, d5.trans (k2.mono d5.size)⟩
  have HN : Hid (Bd (w2.alloc (.cells #[.bool g1, .slice A1 m1 c1, .int .i64 E1] 30)) w2.heap.size 30 g1 A1 m1 c1 E1 ∧ Mg (w2.alloc (.cells #[.bool g1, .slice A1 m1 c1, .int .i64 E1] 30)) V1 A1 m1 c1 es1) := ⟨Bd.new w2 _ _ _ _ _ _, hl1.alloc _, hb1, hv1⟩
  clear hB2 hl1 hb1 hv1 k2 d1 d2 d3 d4 d5 x0 x1 x2 HOf
  have x0 := HB0.out.1.c0
  have x1 := HB0.out.1.c1
  have x2 := HB0.out.1.c2
  have y0 := HB0.out.2.1.c0
  have y1 := HB0.out.2.1.c1
  go_wp2_with fail
  refine (HPw.out _ HB0.out.2.2.1 HB0.out.2.2.2.1).mono ?_
  rintro e w3 ⟨A2, m2, c2, zs, pg, pE, ok, r, rfl, hm2, hl2, hb2, hB3, hpi⟩
  have k3 := hB3.trans ((below1 w3 (.cells #[.bool pg, .slice A2 m2 c2, .int .i64 pE] 32)).mono hB3.size)
  obtain ⟨d1, d2, d3, d4, d5⟩ := HB0.out
  have H0 : Hid (HoldE w g A n c xs e0 M K w2.heap.size g1 A1 m1 c1 E1 V1 es1 w3.heap.size pg A2 m2 c2 pE zs (w3.alloc (.cells #[.bool pg, .slice A2 m2 c2, .int .i64 pE] 32))) :=
    ⟨d1.below k3, d2.below k3, HN.out.1.below k3, Bd.new w3 _ _ _ _ _ _, d3.below k3, HN.out.2.below k3, hl2.alloc _, d4.below k3, d5.trans (k3.mono d5.size)⟩
  have HZ := Lib.hid hb2
  obtain ⟨f1, hf1⟩ : ∃ f, decide (-1073741824 ≤ E1 ∧ E1 ≤ 1073741824) = f := ⟨_, rfl⟩
  obtain ⟨s1, hs1⟩ : ∃ s, sgD g1 V1 = s := ⟨_, rfl⟩
  have HFi : Hid (∀ u, Calls Tryz.prog 7 #[.agg #[.bool g1, .slice A1 m1 c1, .int .i64 E1]] u fun e w' => e = .returned (.bool f1) ∧ Below u.heap.size u w') := fun u => fits_b f1 g1 A1 m1 c1 E1 u hf1
  have HSg : Hid (∀ u, HoldE w g A n c xs e0 M K w2.heap.size g1 A1 m1 c1 E1 V1 es1 w3.heap.size pg A2 m2 c2 pE zs u → Calls Tryz.prog 8 #[.agg #[.bool g1, .slice A1 m1 c1, .int .i64 E1]] u fun e w' => e = .returned (.int .i64 s1) ∧ Below u.heap.size u w') := fun u hu => rsign_l s1 g1 A1 m1 c1 es1 E1 u hu.mg.1 hu.mg.2.1 (by show _ = _; rw [hu.mg.2.2]; exact hs1)
  rw [show (if -1073741824 ≤ E1 ∧ E1 ≤ 1073741824 then some (⟨g1, V1, E1⟩ : Dy) else none) = if f1 = true then some ⟨g1, V1, E1⟩ else none by rw [← hf1]; simp] at hpi
  have HPi := Lib.hid hpi
  have HF1 := Lib.hid hf1
  have HS1 := Lib.hid hs1
  clear hB3 hl2 hb2 k3 d1 d2 d3 d4 d5 x0 x1 x2 y0 y1 HB0 HN HPw hpi hf1 hs1
  have x0 := H0.out.2.2.1.c0
  have x1 := H0.out.2.2.1.c1
  have x2 := H0.out.2.2.1.c2
  by_cases hok : f1 = true ∧ 0 < s1 ∧ 1 ≤ K
  case neg =>
    obtain ⟨rfl, rfl, hz⟩ : r = 1 ∧ ok = false ∧ val zs = 0 := by
      have hp := HPi.out
      cases f1 with
      | false => exact ⟨hp.1, hp.2.1, hp.2.2.2.1⟩
      | true =>
        simp only [if_true] at hp
        unfold PowIs at hp
        simp only at hp
        rw [if_neg (fun h9 => hok ⟨rfl, by rw [← HS1.out]; exact h9.1, h9.2⟩)] at hp
        exact ⟨hp.1, hp.2.1, hp.2.2.2.1⟩
    obtain rfl : m2 = 0 := lim_nil11 H0.out.l2 HZ.out hz
    have g3 : f1 = false ∨ (f1 = true ∧ decide (s1 ≤ 0) = true) ∨ (f1 = true ∧ decide (s1 ≤ 0) = false ∧ decide (K < 1) = true) := by
      cases f1
      · exact Or.inl rfl
      · by_cases z1 : s1 ≤ 0
        · exact Or.inr (Or.inl ⟨rfl, decide_eq_true z1⟩)
        · exact Or.inr (Or.inr ⟨rfl, decide_eq_false z1, decide_eq_true (by have : ¬ 1 ≤ K := fun h9 => hok ⟨rfl, by omega, h9⟩; omega)⟩)
    clear hok HPi HZ HF1 HS1 hz
    rcases g3 with rfl | ⟨rfl, z1⟩ | ⟨rfl, z1, z2⟩
    · go_wp2_with fail
      refine (HFi.out _).mono ?_
      rintro e w5 ⟨rfl, hB⟩
      replace H0 := Lib.hid (H0.out.below hB)
      clear hB x0 x1 x2
      have q0 := H0.out.2.1.c0
      have q1 := H0.out.2.1.c1
      have z0 := H0.out.2.2.2.1.c0
      have z1 := H0.out.2.2.2.1.c1
      have z2 := H0.out.2.2.2.1.c2
      have Hfin := Lib.hid H0.out.old
      clear H0 HFi HSg
      go_wp2
      go_ret
      exact ⟨rfl, Hfin.out⟩
    · go_wp2_with fail
      refine (HFi.out _).mono ?_
      rintro e w5 ⟨rfl, hB⟩
      replace H0 := Lib.hid (H0.out.below hB)
      clear hB x0 x1 x2
      have x0 := H0.out.2.2.1.c0
      have x1 := H0.out.2.2.1.c1
      have x2 := H0.out.2.2.1.c2
      go_wp2_with fail
      refine (HSg.out _ H0.out).mono ?_
      rintro e w6 ⟨rfl, hB⟩
      replace H0 := Lib.hid (H0.out.below hB)
      clear hB x0 x1 x2
      have q0 := H0.out.2.1.c0
      have q1 := H0.out.2.1.c1
      have z0 := H0.out.2.2.2.1.c0
      have z1 := H0.out.2.2.2.1.c1
      have z2 := H0.out.2.2.2.1.c2
      have Hfin := Lib.hid H0.out.old
      clear H0 HFi HSg
      go_wp2
      go_ret
      exact ⟨rfl, Hfin.out⟩
    · go_wp2_with fail
      refine (HFi.out _).mono ?_
      rintro e w5 ⟨rfl, hB⟩
      replace H0 := Lib.hid (H0.out.below hB)
      clear hB x0 x1 x2
      have x0 := H0.out.2.2.1.c0
      have x1 := H0.out.2.2.1.c1
      have x2 := H0.out.2.2.1.c2
      go_wp2_with fail
      refine (HSg.out _ H0.out).mono ?_
      rintro e w6 ⟨rfl, hB⟩
      replace H0 := Lib.hid (H0.out.below hB)
      clear hB x0 x1 x2
      have q0 := H0.out.2.1.c0
      have q1 := H0.out.2.1.c1
      have z0 := H0.out.2.2.2.1.c0
      have z1 := H0.out.2.2.2.1.c1
      have z2 := H0.out.2.2.2.1.c2
      have Hfin := Lib.hid H0.out.old
      clear H0 HFi HSg
      go_wp2
      go_ret
      exact ⟨rfl, Hfin.out⟩
  case pos =>
    obtain ⟨rfl, z1, z2⟩ := hok
    have d1 : decide (s1 ≤ 0) = false := decide_eq_false (by omega)
    have d2 : decide (K < 1) = false := decide_eq_false (by omega)
    obtain ⟨n1, rfl⟩ := sgD_above (by rw [HS1.out]; exact z1)
    have hp := HPi.out
    simp only [if_true] at hp
    unfold PowIs at hp
    simp only at hp
    rw [if_pos ⟨by rw [HS1.out]; exact z1, z2⟩] at hp
    obtain ⟨rfl, hp⟩ := hp
    obtain ⟨kk, rfl⟩ : ∃ kk : Nat, K = (kk : Int) := ⟨K.toNat, by omega⟩
    rw [Int.toNat_natCast] at hp
    have HPp := Lib.hid hp
    have hfb := of_decide_eq_true HF1.out
    have HNr : Hid (∀ (v : Bool) u, nearB V1 E1 M (kk : Int) = v → HoldE w g A n c xs e0 M (kk : Int) w2.heap.size false A1 m1 c1 E1 V1 es1 w3.heap.size pg A2 m2 c2 pE zs u → Calls Tryz.prog 10 #[.agg #[.bool false, .slice A1 m1 c1, .int .i64 E1], .int .i64 M, .int .i64 (kk : Int)] u fun e w' => e = .returned (.bool v) ∧ Below u.heap.size u w') := fun v u hv hu => near_l v false A1 m1 c1 es1 E1 M kk u hu.mg.1 hu.mg.2.1 (by omega) (by show _ = _; rw [hu.mg.2.2]; exact hv)
    obtain ⟨nb, hnb⟩ : ∃ nb, nearB V1 E1 M (kk : Int) = nb := ⟨_, rfl⟩
    have HNb := Lib.hid hnb
    have HN1 := Lib.hid n1
    clear hp HPi hnb n1 HS1 hfb
    go_wp2_with fail
    refine (HFi.out _).mono ?_
    rintro e w5 ⟨rfl, hB⟩
    replace H0 := Lib.hid (H0.out.below hB)
    clear hB x0 x1 x2 HFi
    have x0 := H0.out.2.2.1.c0
    have x1 := H0.out.2.2.1.c1
    have x2 := H0.out.2.2.1.c2
    go_wp2_with fail
    refine (HSg.out _ H0.out).mono ?_
    rintro e w6 ⟨rfl, hB⟩
    replace H0 := Lib.hid (H0.out.below hB)
    clear hB x0 x1 x2 HSg
    cases ok with
    | true =>
      have hex : ExIs V1 E1 M kk ⟨pg, val zs, pE⟩ := by
        rcases HPp.out with ⟨_, h⟩ | ⟨h, _⟩
        · exact h
        · exact absurd h (by decide)
      have hbk : Hid (brkO (mk pg (val zs) pE) = true) := by
        show _ = _
        have h9 := mk_odd_self (d := ⟨pg, val zs, pE⟩) (Or.inl ⟨val zs / 2, by have := hex.2.1; simp only at this; show val zs = _; omega⟩) hex.2.2.1 hex.2.2.2.1
        rw [h9]
        exact hex.2.2.2.2.1
      have HBk := Lib.hid (break_l true pg A2 m2 c2 zs pE _ H0.out.l2 (by omega) H0.out.tab_ hbk)
      have HEx := Lib.hid hex
      clear hex hbk HPp
      have q0 := H0.out.2.1.c0
      have q1 := H0.out.2.1.c1
      have z0 := H0.out.2.2.2.1.c0
      have z1 := H0.out.2.2.2.1.c1
      have z2 := H0.out.2.2.2.1.c2
      go_wp2_with fail
      refine (HBk.out).mono ?_
      rintro e w7 ⟨rfl, hB⟩
      replace H0 := Lib.hid (H0.out.below hB)
      clear hB HBk q0 q1 z0 z1 z2
      have x0 := H0.out.2.2.1.c0
      have x1 := H0.out.2.2.1.c1
      have x2 := H0.out.2.2.1.c2
      have q0 := H0.out.2.1.c0
      have q1 := H0.out.2.1.c1
      go_wp2_with fail
      refine (HNr.out nb _ HNb.out H0.out).mono ?_
      rintro e w8 ⟨rfl, hB⟩
      replace H0 := Lib.hid (H0.out.below hB)
      clear hB HNr x0 x1 x2 q0 q1
      cases nb with
      | false =>
        clear HNb HN1 HZ HF1 HEx
        have Hfin := Lib.hid H0.out.old
        clear H0 
        go_wp2
        go_ret
        exact ⟨rfl, Hfin.out⟩
      | true =>
        obtain ⟨hnp, hk1, hk2⟩ := nearB_yes (Nat.pos_of_ne_zero HN1.out) HNb.out
        rw [Int.toNat_natCast] at hnp
        have HP9 := Lib.hid (power11_l V1 E1 M kk A1 m1 c1 es1 _ H0.out.mg.1 H0.out.mg.2.1 (by omega) H0.out.mg.2.2 hnp)
        have HK := Lib.hid (And.intro hnp.1 hnp.2.1)
        clear hnp hk1 hk2 HNb HF1
        have x0 := H0.out.2.2.1.c0
        have x1 := H0.out.2.2.1.c1
        have x2 := H0.out.2.2.1.c2
        have q0 := H0.out.2.1.c0
        have q1 := H0.out.2.1.c1
        go_wp2_with fail
        refine HP9.out.mono ?_
        rintro e w9 ⟨A5, m5, c5, ds5, E5, b5, rfl, hm5, hl5, hb5, hB5, hc5⟩
        have hc6 : b5 = true ∧ D.val ds5 ≠ 0 ∧ nO false (D.val ds5) E5 = ⟨pg, val zs, pE⟩ := by
          rcases hc5 with ⟨h1, h2, d, h3, h4⟩ | ⟨h1, h2⟩
          · exact ⟨h1, h2, by rw [h4]; exact h3.uniq HK.out.1 (by have := HK.out.2; omega) HEx.out⟩
          · exact absurd HEx.out (h2 _)
        obtain ⟨rfl, h50, hnO⟩ := hc6
        have hp0 : val zs ≠ 0 := fun h9 => by have := HEx.out.2.1; simp only at this; omega
        replace H0 := Lib.hid ((H0.out.below hB5).below (below1 _ (.cells #[.bool false, .slice A5 m5 c5, .int .i64 E5] 30)))
        have HX5 := Lib.hid (Bd.new w9 30 false A5 m5 c5 E5)
        have HTo := Lib.hid (rto_far false (D.val ds5) E5 pg (val zs) pE A5 m5 c5 ds5 _ (hl5.alloc (.cells #[.bool false, .slice A5 m5 c5, .int .i64 E5] 30)) hb5 rfl (by omega) hnO hp0 HEx.out.2.2.1 HEx.out.2.2.2.1)
        have s0 := HX5.out.c0
        have s1 := HX5.out.c1
        have s2 := HX5.out.c2
        clear hB5 hl5 hb5 hc5 h50 hnO hp0 HP9 HEx HK x0 x1 x2 q0 q1
        go_wp2_with fail
        refine HTo.out.mono ?_
        rintro e w10 ⟨A7, m7, c7, ts, rfl, hm7, hl7, hb7, hv7, hB⟩
        simp only at hv7
        obtain rfl : ts = zs := bare_eq hl7.words H0.out.l2.words hb7 HZ.out hv7
        obtain rfl : m7 = m2 := by rw [← hl7.len, ← H0.out.l2.len]
        replace H0 := Lib.hid ((H0.out.below hB).below (below1 _ (.cells #[.bool pg, .slice A7 m7 c7, .int .i64 pE] 24)))
        have HX := Lib.hid (Bd.new w10 24 pg A7 m7 c7 pE)
        have HL7 := Lib.hid (hl7.alloc (.cells #[.bool pg, .slice A7 m7 c7, .int .i64 pE] 24))
        have HSm := Lib.hid (fsame_yes pg A2 m7 c2 ts pE A7 c7 _ H0.out.l2 HL7.out (by omega))
        clear hB hl7 hb7 hv7 HTo HZ s0 s1 s2 HX5
        have s0 := HX.out.c0
        have s1 := HX.out.c1
        have s2 := HX.out.c2
        have z0 := H0.out.2.2.2.1.c0
        have z1 := H0.out.2.2.2.1.c1
        have z2 := H0.out.2.2.2.1.c2
        go_wp2_with fail
        refine HSm.out.mono ?_
        rintro e w13 ⟨rfl, hB⟩
        have Hfin := Lib.hid (H0.out.below hB).old
        clear hB H0 HX HL7 HSm s0 s1 s2 z0 z1 z2
        go_wp2
        go_ret
        exact ⟨rfl, Hfin.out⟩
    | false =>
      have hno : val zs = 0 ∧ ∀ d', ¬ ExIs V1 E1 M kk d' := by
        rcases HPp.out with ⟨h, _⟩ | ⟨_, _, h1, _, h2⟩
        · exact absurd h (by decide)
        · exact ⟨h1, h2⟩
      obtain rfl : m2 = 0 := lim_nil11 H0.out.l2 HZ.out hno.1
      have HNo := Lib.hid hno.2
      clear hno HPp
      have q0 := H0.out.2.1.c0
      have q1 := H0.out.2.1.c1
      have z0 := H0.out.2.2.2.1.c0
      have z1 := H0.out.2.2.2.1.c1
      have z2 := H0.out.2.2.2.1.c2
      have x0 := H0.out.2.2.1.c0
      have x1 := H0.out.2.2.1.c1
      have x2 := H0.out.2.2.1.c2
      go_wp2_with fail
      refine (HNr.out nb _ HNb.out H0.out).mono ?_
      rintro e w8 ⟨rfl, hB⟩
      replace H0 := Lib.hid (H0.out.below hB)
      clear hB HNr x0 x1 x2 q0 q1 z0 z1 z2
      cases nb with
      | false =>
        clear HNb HN1 HZ HF1 HNo
        have Hfin := Lib.hid H0.out.old
        clear H0 
        go_wp2
        go_ret
        exact ⟨rfl, Hfin.out⟩
      | true =>
        obtain ⟨hnp, hk1, hk2⟩ := nearB_yes (Nat.pos_of_ne_zero HN1.out) HNb.out
        rw [Int.toNat_natCast] at hnp
        have HP9 := Lib.hid (power11_l V1 E1 M kk A1 m1 c1 es1 _ H0.out.mg.1 H0.out.mg.2.1 (by omega) H0.out.mg.2.2 hnp)
        clear hnp hk1 hk2 HNb HF1
        have x0 := H0.out.2.2.1.c0
        have x1 := H0.out.2.2.1.c1
        have x2 := H0.out.2.2.1.c2
        have q0 := H0.out.2.1.c0
        have q1 := H0.out.2.1.c1
        go_wp2_with fail
        refine HP9.out.mono ?_
        rintro e w9 ⟨A5, m5, c5, ds5, E5, b5, rfl, hm5, hl5, hb5, hB5, hc5⟩
        obtain rfl : b5 = false := by
          rcases hc5 with ⟨h1, h2, d, h3, h4⟩ | ⟨h1, h2⟩
          · exact absurd h3 (HNo.out _)
          · exact h1
        replace H0 := Lib.hid ((H0.out.below hB5).below (below1 _ (.cells #[.bool false, .slice A5 m5 c5, .int .i64 E5] 30)))
        clear hB5 hl5 hb5 hc5 HP9 HNo HZ x0 x1 x2 q0 q1
        have Hfin := Lib.hid H0.out.old
        clear H0 
        go_wp2
        go_ret
        exact ⟨rfl, Hfin.out⟩

theorem walk_exactTells' (HPow : PowerMeets) (g : Bool) (A : Option Addr) (n c : Nat) (xs : List Nat) (e0 M K : Int) (w : World) (hT : Tab w) (hA : Lim w A n c xs) (hi1 : -9223372036854775808 ≤ M) (hi2 : M ≤ 9223372036854775807) (hj1 : -9223372036854775808 ≤ K) (hj2 : K ≤ 9223372036854775807) :
    Calls Tryz.prog 3 #[.agg #[.bool g, .slice A n c, .int .i64 e0], .agg #[.int .i64 M, .int .i64 K]] w fun e w' => e = .returned (.bool true) ∧ Below w.heap.size w w' := by
  by_cases h : 10 < n
  · exact etells_long HPow g A n c e0 M K w hT h
  · exact etells_short HPow g A n c xs e0 M K w hT hA (by omega) hi1 hi2 hj1 hj2
end Go.Proofs.YtmmeejofepmgaaaGreatDoor
