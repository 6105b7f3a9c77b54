/- The document's powers by comparisons alone: planimeterref11.Power. -/
import Derived.Test.YtmmeejofepmgaaaGreatDoorExBelow
import Derived.Test.YtmmeejofepmgaaaGreatDoorExMid
namespace Go.Proofs.YtmmeejofepmgaaaGreatDoor
open Go.RowKit

theorem lowC_upto (V : Nat) (E i : Int) (k : Nat) (hV : 0 < V) (hk : k ≠ 0) (n : Nat) : ∃ X, X ≤ n ∧ 0 ≤ cS V E i k (vX X) ∧ (X < n → cS V E i k (vX (X + 1)) < 0) := by
  induction n with
  | zero => exact ⟨0, Nat.le_refl _, by rw [show vX 0 = 0 from by unfold vX; rw [show fm 0 = 0 from by decide, Nat.zero_mul], cS_zero hV hk]; decide, fun h => by omega⟩
  | succ n ih =>
    rcases Int.lt_or_le (cS V E i k (vX (n + 1))) 0 with h | h
    · obtain ⟨X, h1, h2, h3⟩ := ih
      refine ⟨X, by omega, h2, fun h4 => ?_⟩
      by_cases h5 : X = n
      · rw [h5]; exact h
      · exact h3 (by omega)
    · exact ⟨n + 1, Nat.le_refl _, h, fun h4 => by omega⟩
theorem lowC_some (V : Nat) (E i : Int) (k : Nat) (hV : 0 < V) (hk : k ≠ 0) : ∃ X, LowC V E i k X := lowC_upto V E i k hV hk 9218868437227405312
theorem nO_size (g : Bool) {V U m : Nat} {E f : Int} (hV : V ≠ 0) (h1 : -1073741824 ≤ E) (h2 : E ≤ 1073741824) (hU : U = 2 * m + 1) (h3 : -1073741824 ≤ f) (h4 : f ≤ 1073741824) (h : sz V E = sz U f) : nO g V E = ⟨g, U, f⟩ := by
  obtain ⟨q, hq⟩ := low_spec (Nat.pos_of_ne_zero hV)
  unfold sz at h
  obtain ⟨l, hl⟩ : ∃ l, low V = l := ⟨_, rfl⟩
  rw [hl] at hq
  have l1 : low (V * 2 ^ sh E) = l + sh E := low_eq (m := q) (by rw [hq, Nat.pow_add, Nat.mul_right_comm])
  have l2 : low (U * 2 ^ sh f) = sh f := low_eq (m := m) (by rw [hU, Nat.mul_comm])
  have l3 : l + sh E = sh f := by rw [← l1, h, l2]
  rw [← l3, Nat.pow_add, ← Nat.mul_assoc] at h
  have h5 := Nat.eq_of_mul_eq_mul_right (Nat.two_pow_pos _) h
  have b1 := sh_eq h1 h2
  have b2 := sh_eq h3 h4
  rw [nO_pos _ _ hV, hl, h5, Nat.mul_div_cancel _ (Nat.two_pow_pos _), held_id h1 h2, show E + (l : Int) = f by omega]

/-- What the document's Power tells. -/
def ExTold (w : World) (V : Nat) (E i : Int) (k : Nat) (e : Ending) (w' : World) : Prop :=
  ∃ A m c ds E' b, e = .returned (.tuple #[.agg #[.bool false, .slice A m c, .int .i64 E'], .bool b]) ∧ m ≤ 140 ∧ Dig w' A m c ds ∧ D.Bare ds ∧ Below w.heap.size w w' ∧
    ((b = true ∧ D.val ds ≠ 0 ∧ ∃ d, ExIs V E i k d ∧ nO false (D.val ds) E' = d) ∨ (b = false ∧ ∀ d, ¬ ExIs V E i k d))

theorem ex_limit {V : Nat} {E i : Int} {k : Nat} (hV : 0 < V) (h : cS V E i k (vX 9218868437227405312) = 0) : ExIs V E i k ⟨false, 1, 1024⟩ :=
  ⟨rfl, rfl, by decide, by decide, by decide, by rw [ratC_sz hV (by decide) (by decide), sz_inf rfl]; exact h⟩
theorem ex_worth {V : Nat} {E i : Int} {k X : Nat} (hV : 0 < V) (hX : X < 9218868437227405312) (h0 : 0 < X) (h : cS V E i k (vX X) = 0) : ExIs V E i k (vO X) := by
  obtain ⟨f1, f2, f3, f4, f5, f6⟩ := vO_facts (b := X) (by omega)
  have hv : vO X = fO X := by unfold vO; rw [if_neg (by omega)]
  have hf : Fnt X := by unfold Fnt fex; omega
  have hm0 : fm X ≠ 0 := fun h9 => by
    have h8 : (vO X).V = 0 := by rw [hv, fO_zero h9]
    have := f6.1 h8
    omega
  have ho : (vO X).V % 2 = 1 := by
    rw [hv, (fO_pos hf hm0).2.1]
    obtain ⟨q, hq⟩ := low_spec (Nat.pos_of_ne_zero hm0)
    have h5 := Nat.mul_div_cancel_left (2 * q + 1) (Nat.two_pow_pos (low (fm X)))
    rw [← hq] at h5
    omega
  refine ⟨f1, ho, by omega, by omega, ?_, by rw [ratC_sz hV (by omega) (by omega), f2]; exact h⟩
  have hl : IsLow (sz (vO X).V (vO X).e) X := by rw [f2]; exact ⟨by omega, Nat.le_refl _, fun _ => vX_lt hX⟩
  have hb := (brk_low (g := (vO X).neg) (m := (vO X).V / 2) (by omega) (by omega) (by omega) hl).2 (Or.inr ⟨hX, Or.inl f2⟩)
  exact hb
theorem ex_mid {V : Nat} {E i : Int} {k X U : Nat} {F : Int} (hV : 0 < V) (hX : X < 9218868437227405312) (hU : U ≠ 0) (h1 : -2000 ≤ F) (h2 : F ≤ 2000) (hs : 2 * sz U F = vX X + vX (X + 1)) (h : cS V E i k (sz U F) = 0) : ExIs V E i k (nO false U F) ∧ (nO false U F).V ≠ 0 := by
  have hf : Fnt X := by unfold Fnt fex; omega
  have hfe := fe_bd hf
  have hms := mid_size hf
  rw [Nat.mod_eq_of_lt (show X < 9223372036854775808 by omega)] at hms
  have hsz : sz U F = sz (2 * fm X + 1) (fe X - 1) := by omega
  rw [nO_size false hU (by omega) (by omega) (m := fm X) rfl (by omega) (by omega) hsz]
  have hl := mid_low hf
  rw [Nat.mod_eq_of_lt (show X < 9223372036854775808 by omega)] at hl
  refine ⟨⟨rfl, by show (2 * fm X + 1) % 2 = 1; omega, by show -1073741824 ≤ fe X - 1; omega, by show fe X - 1 ≤ 1073741824; omega, ?_, ?_⟩, by show 2 * fm X + 1 ≠ 0; omega⟩
  · exact (brk_low (g := false) (m := fm X) rfl (by omega) (by omega) hl).2 (Or.inr ⟨hX, Or.inr hms⟩)
  · show ratC V E i (2 * fm X + 1) (fe X - 1) k = 0
    rw [ratC_sz hV (by omega) (by omega), ← hsz]
    exact h

/-- While it is walked: the number in its box, the result's block. -/
theorem none_inf {V : Nat} {E i : Int} {k : Nat} (hV : 0 < V) (hk : k ≠ 0) (hX : LowC V E i k 9218868437227405312) (h : cS V E i k (vX 9218868437227405312) ≠ 0) : ∀ d, ¬ ExIs V E i k d := fun d hd => by
  have h6 := hd.2.2.2.2.2
  rw [ratC_sz hV hd.2.2.1 hd.2.2.2.1] at h6
  rcases hd.at hV hk hX with ⟨_, h9⟩ | ⟨h9, _⟩
  · rw [h9] at h6; exact h h6
  · omega
theorem none_fin {V : Nat} {E i : Int} {k X U : Nat} {F : Int} (hV : 0 < V) (hk : k ≠ 0) (hX : LowC V E i k X) (hX9 : X < 9218868437227405312) (h1 : X = 0 ∨ cS V E i k (vX X) ≠ 0) (hs : 2 * sz U F = vX X + vX (X + 1)) (h2 : cS V E i k (sz U F) ≠ 0) : ∀ d, ¬ ExIs V E i k d := fun d hd => by
  have h6 := hd.2.2.2.2.2
  rw [ratC_sz hV hd.2.2.1 hd.2.2.2.1] at h6
  rcases hd.at hV hk hX with ⟨h9, _⟩ | ⟨_, h9 | h9⟩
  · omega
  · rcases h1 with h1 | h1
    · subst h1
      rw [show vX 0 = 0 from by unfold vX; rw [show fm 0 = 0 from by decide, Nat.zero_mul]] at h9
      have h8 := sz_pos (V := d.V) d.e (fun h7 => by have := hd.2.1; rw [h7] at this; exact absurd this (by decide))
      omega
    · rw [h9] at h6; exact h1 h6
  · have h8 : sz d.V d.e = sz U F := by omega
    rw [h8] at h6; exact h2 h6

set_option maxHeartbeats 2000000 in
set_option maxRecDepth 20000 in
theorem power11_l (V : Nat) (E i : Int) (k : Nat) (A : Option Addr) (n c : Nat) (ds : List Nat) (w : World) (hA : Dig w A n c ds) (ba : D.Bare ds) (hn : n ≤ 1000) (hV : D.val ds = V) (hP : NearP V E i k) :
    Calls Tryz.prog 11 #[.agg #[.bool false, .slice A n c, .int .i64 E], .int .i64 i, .int .i64 (k : Int)] w (ExTold w V E i k) := by
  have hV0 : 0 < V := hP.1
  have hk0 : k ≠ 0 := by have := hP.2.1; omega
  obtain ⟨X, hX⟩ := lowC_some V E i k hV0 hk0
  have hX9 := hX.1
  have h0 := HoldQ10.start w false A n c ds E hA
  have HB := Lib.hid (below11_l X V E i k A n c ds _ h0.dig ba hn hV hP hX)
  have HCm : Hid (∀ (v : Int) (U : Nat) (F : Int), U ≠ 0 → blen U ≤ 60 → -2000 ≤ F → F ≤ 2000 → cS V E i k (sz U F) = v → ∀ u A1 m1 c1 us, HoldQ10 w false A n c ds E u → Dig u A1 m1 c1 us → D.Bare us → D.val us = U → m1 ≤ 140 → Calls Tryz.prog 28 #[.agg #[.bool false, .slice A n c, .int .i64 E], .int .i64 i, .agg #[.bool false, .slice A1 m1 c1, .int .i64 F], .int .i64 (k : Int)] u fun e w' => e = .returned (.int .i64 v) ∧ Below u.heap.size u w') := fun v U F h1 h2 h3 h4 hv u A1 m1 c1 us hu r1 r2 r3 r4 =>
    near_cmp hP v U F A n c ds A1 m1 c1 us u hu.dig ba hn hV r1 r2 (by omega) r3 h1 h2 h3 h4 hv
  have HX := Lib.hid hX
  have HV0 := Lib.hid hV0
  have HK0 := Lib.hid hk0
  have hk9 : k ≤ 40 := hP.2.2.1
  have hi1 : -60 ≤ i := hP.2.2.2.1
  have hi2 : i ≤ 60 := hP.2.2.2.2.1
  have H0 := Lib.hid h0
  clear hA ba hn hV hP hX h0 hV0 hk0
  go_enter Tryz.func11, Tryz.ntmps11
  go_wp2_with fail
  refine HB.out.mono ?_
  rintro e w1 ⟨rfl, hB1⟩
  replace H0 := Lib.hid (H0.out.below hB1)
  clear hB1 HB
  by_cases hXi : X = 9218868437227405312
  · subst hXi
    obtain ⟨v0, hv0⟩ : ∃ v, cS V E i k (vX 9218868437227405312) = v := ⟨_, rfl⟩
    have HC0 : Hid (∀ u A1 m1 c1 us, HoldQ10 w false A n c ds E u → Dig u A1 m1 c1 us → D.Bare us → D.val us = 1 → m1 ≤ 4 → Calls Tryz.prog 28 #[.agg #[.bool false, .slice A n c, .int .i64 E], .int .i64 i, .agg #[.bool false, .slice A1 m1 c1, .int .i64 1024], .int .i64 (k : Int)] u fun e w' => e = .returned (.int .i64 v0) ∧ Below u.heap.size u w') := fun u A1 m1 c1 us hu r1 r2 r3 r4 =>
      HCm.out v0 1 1024 (by decide) (by decide) (by decide) (by decide) (by rw [sz_inf rfl]; exact hv0) u A1 m1 c1 us hu r1 r2 r3 (by omega)
    have HL : Hid (∀ u, HoldQ10 w false A n c ds E u → Calls Tryz.prog 29 #[] u (NTold u ⟨false, 1, 1024⟩ 4)) := fun u _ => limit_l u
    have K0 := Lib.hid (H0.out.below (below_drew _))
    have Hv0 := Lib.hid hv0
    obtain ⟨bb, hbb⟩ : ∃ bb, (v0 == 0) = bb := ⟨_, rfl⟩
    have Hbb := Lib.hid hbb
    clear hv0 HCm H0 hbb
    go_wp2_with fail
    go_cut [22] from 11 (fun s22 wx => s22 = .bool bb ∧ Hid (HoldQ10 w false A n c ds E wx))
    case first =>
      go_region_held3 (fun w' => w'.cell? ⟨w.heap.size, 0, none⟩ = some (.bool false) ∧ w'.cell? ⟨w.heap.size, 1, none⟩ = some (.slice A n c) ∧ w'.cell? ⟨w.heap.size, 2, none⟩ = some (.int .i64 E))
        (first | (with_reducible exact K0.out.three) | (with_reducible exact K1.out.three) | (with_reducible exact K2.out.three))
        (first
          | (go_at_call 29; (with_reducible refine (HL.out _ K0.out).mono ?_); rintro e w2 ⟨A1, m1, c1, us, rfl, hm1, hl1, hb1, hv1, hB1⟩; have K1 := Lib.hid (K0.out.below hB1); have L1 := Lib.hid hl1; have N1 := Lib.hid hb1; have V1 := Lib.hid hv1; clear hl1 hb1 hv1 hB1)
          | (go_at_call 28; (with_reducible refine (HC0.out _ A1 m1 c1 us K1.out L1.out N1.out V1.out hm1).mono ?_); rintro e w3 ⟨rfl, hB2⟩; have K2 := Lib.hid (K1.out.below hB2); clear hB2))
      clear K0 K1 L1 N1 V1 HL HC0
      go_wp2_with fail
      go_meet
      exact ⟨by rw [← Hbb.out], K2⟩
    case rest =>
      obtain ⟨w4, rfl⟩ : ∃ w4, w4 = wc := ⟨_, rfl⟩
      obtain ⟨rfl, K2⟩ := hcut
      clear HL K0 HC0
      cases bb with
      | true =>
        have h0 : cS V E i k (vX 9218868437227405312) = 0 := by rw [Hv0.out]; exact eq_of_beq Hbb.out
        have HE := Lib.hid (ex_limit HV0.out h0)
        clear h0 Hv0 Hbb
        go_wp2_with fail
        refine (limit_l _).mono ?_
        rintro e w5 ⟨A1, m1, c1, us, rfl, hm1, hl1, hb1, hv1, hB1⟩
        have k3 := K2.out.below hB1
        have y0 := k3.2.1.c0
        have y1 := k3.2.1.c1
        have y2 := k3.2.1.c2
        have yf := k3.2.1.fz
        have hv1' : D.val us = 1 := hv1
        have Fin : Hid (ExTold w V E i k (.returned (.tuple #[.agg #[.bool false, .slice A1 m1 c1, .int .i64 1024], .bool true])) (World.put w5 (w.heap.size + 1) false A1 m1 c1 1024)) :=
          ⟨A1, m1, c1, us, 1024, true, rfl, by omega, k3.2.1.dig hl1 _ _ _ _ _, hb1, below_put k3.old (Nat.le_succ _) _ _ _ _ _, Or.inl ⟨rfl, by rw [hv1']; decide, _, HE.out, by rw [hv1']; rfl⟩⟩
        clear k3 hl1 hb1 hv1 hv1' hB1 K2 HE HX
        go_wp2
        exact bodyPost_ret (v := .tuple #[.agg #[.bool false, .slice A1 m1 c1, .int .i64 1024], .bool true]) (by simp [results, Tryz.results11, go_sem, y0, y1, y2]) rfl Fin.out
      | false =>
        have h0 : cS V E i k (vX 9218868437227405312) ≠ 0 := by
          rw [Hv0.out]
          intro h9
          have h8 := Hbb.out
          rw [h9] at h8
          exact absurd h8 (by decide)
        have k3 := K2.out
        have y0 := k3.2.1.c0
        have y1 := k3.2.1.c1
        have y2 := k3.2.1.c2
        have yf := k3.2.1.fz
        have Fin : Hid (ExTold w V E i k (.returned (.tuple #[.agg #[.bool false, .slice none 0 0, .int .i64 0], .bool false])) (World.put w4 (w.heap.size + 1) false none 0 0 0)) :=
          ⟨none, 0, 0, [], 0, false, rfl, by omega, Dig.nil _ _ _, rfl, below_put k3.old (Nat.le_succ _) _ _ _ _ _, Or.inr ⟨rfl, none_inf HV0.out HK0.out HX.out h0⟩⟩
        clear k3 h0 Hv0 Hbb K2 HX
        go_wp2
        exact bodyPost_ret (v := .tuple #[.agg #[.bool false, .slice none 0 0, .int .i64 0], .bool false]) (by simp [results, Tryz.results11, go_sem, y0, y1, y2]) rfl Fin.out
  · have hXl : X < 9218868437227405312 := by omega
    have b0 : ((X : Int) == 9218868437227405312) = false := beq_eq_false_iff_ne.2 (by omega)
    obtain ⟨U, F, mU, mB, mF1, mF2, mS, mC⟩ := mid_fine hXl
    obtain ⟨⟨zg, zV, zE⟩, hz⟩ : ∃ d, vO X = d := ⟨_, rfl⟩
    have hf := vO_facts (b := X) (by omega)
    have hbl := vO_blen (b := X) (by omega)
    rw [hz] at hf hbl
    simp only at hf hbl
    obtain ⟨f1, f2, f3, f4, f5, f6⟩ := hf
    subst f1
    have HW : Hid (∀ u, Calls Tryz.prog 30 #[.int .u64 (X : Int)] u (NTold u ⟨false, zV, zE⟩ 4)) := fun u => by
      have h := worth_any X (by omega) u
      rw [show fO X = ⟨false, zV, zE⟩ by rw [← hz]; unfold vO; rw [if_neg (by omega)]] at h
      exact h
    obtain ⟨v1, hv1⟩ : ∃ v, cS V E i k (vX X) = v := ⟨_, rfl⟩
    obtain ⟨v2, hv2⟩ : ∃ v, cS V E i k (sz U F) = v := ⟨_, rfl⟩
    have HC1 : Hid (0 < X → ∀ u A1 m1 c1 us, HoldQ10 w false A n c ds E u → Dig u A1 m1 c1 us → D.Bare us → D.val us = zV → m1 ≤ 4 → Calls Tryz.prog 28 #[.agg #[.bool false, .slice A n c, .int .i64 E], .int .i64 i, .agg #[.bool false, .slice A1 m1 c1, .int .i64 zE], .int .i64 (k : Int)] u fun e w' => e = .returned (.int .i64 v1) ∧ Below u.heap.size u w') := fun hx u A1 m1 c1 us hu r1 r2 r3 r4 =>
      HCm.out v1 zV zE (fun h9 => by have := f6.1 h9; omega) hbl (by omega) (by omega) (by rw [f2]; exact hv1) u A1 m1 c1 us hu r1 r2 r3 (by omega)
    have HC2 : Hid (∀ u A1 m1 c1 us, HoldQ10 w false A n c ds E u → Dig u A1 m1 c1 us → D.Bare us → D.val us = U → m1 ≤ 140 → Calls Tryz.prog 28 #[.agg #[.bool false, .slice A n c, .int .i64 E], .int .i64 i, .agg #[.bool false, .slice A1 m1 c1, .int .i64 F], .int .i64 (k : Int)] u fun e w' => e = .returned (.int .i64 v2) ∧ Below u.heap.size u w') := fun u A1 m1 c1 us hu r1 r2 r3 r4 =>
      HCm.out v2 U F mU mB mF1 mF2 hv2 u A1 m1 c1 us hu r1 r2 r3 r4
    have HMd := Lib.hid mC
    have HE1 : Hid (0 < X → v1 = 0 → ExIs V E i k ⟨false, zV, zE⟩ ∧ zV ≠ 0 ∧ nO false zV zE = ⟨false, zV, zE⟩) := fun hx h9 => by
      have h8 := ex_worth HV0.out hXl hx (by rw [hv1]; exact h9)
      rw [hz] at h8
      refine ⟨h8, fun h7 => by have := f6.1 h7; omega, ?_⟩
      exact nO_self (d := ⟨false, zV, zE⟩) (Or.inl ⟨zV / 2, by have := h8.2.1; show zV = _; simp only at this; omega⟩) (by show -2147483648 ≤ zE; omega) (by show zE ≤ 2147483648; omega)
    have HE2 : Hid (v2 = 0 → ExIs V E i k (nO false U F)) := fun h9 => (ex_mid HV0.out hXl mU mF1 mF2 mS (by rw [hv2]; exact h9)).1
    have HE3 : Hid ((X = 0 ∨ v1 ≠ 0) → v2 ≠ 0 → ∀ d, ¬ ExIs V E i k d) := fun h9 h8 => none_fin HV0.out HK0.out HX.out hXl (by rcases h9 with h9 | h9; exact Or.inl h9; exact Or.inr (by rw [hv1]; exact h9)) mS (by rw [hv2]; exact h8)
    have HmU := Lib.hid mU
    clear hz f2 f3 f4 f5 f6 hbl hv1 hv2 HCm mS mB mC hXi mU
    have HE9 := Lib.hid (And.intro mF1 mF2)
    clear mF1 mF2
    go_wp2_with fail
    refine (HW.out _).mono ?_
    rintro e w2 ⟨A2, m2, c2, us, rfl, hm2, hl2, hb2, hv2, hB2⟩
    have hv2' : D.val us = zV := hv2
    replace H0 := Lib.hid ((H0.out.below hB2).below (below1 _ (.cells #[.bool false, .slice A2 m2 c2, .int .i64 zE] 30)))
    have HN := Lib.hid (Bd.new w2 30 false A2 m2 c2 zE)
    have HNd : Hid (Dig (w2.alloc (.cells #[.bool false, .slice A2 m2 c2, .int .i64 zE] 30)) A2 m2 c2 us ∧ D.Bare us ∧ D.val us = zV) := ⟨hl2.alloc _, hb2, hv2'⟩
    clear hB2 hl2 hb2 hv2 hv2' HW
    by_cases hx0 : X = 0
    · subst hx0
      have hnot : (0 : Nat) = 0 ∨ v1 ≠ 0 := Or.inl rfl
      have H4 := HE3.out hnot
      clear HE1 HE3 hnot HC1
      go_wp2_with fail
      refine (HMd.out _).mono ?_
      rintro e w5 ⟨A5, m5, c5, es, rfl, hm5, hl5, hb5, hv5, hB5⟩
      have hv5' : D.val es = U := hv5
      replace H0 := Lib.hid ((H0.out.below hB5).below (below1 _ (.cells #[.bool false, .slice A5 m5 c5, .int .i64 F] 30)))
      have HM := Lib.hid (Bd.new w5 30 false A5 m5 c5 F)
      have HMn : Hid (Dig (w5.alloc (.cells #[.bool false, .slice A5 m5 c5, .int .i64 F] 30)) A5 m5 c5 es ∧ D.Bare es ∧ D.val es = U) := ⟨hl5.alloc _, hb5, hv5'⟩
      clear hB5 hl5 hb5 hv5 hv5' HMd HN HNd
      have x0 := H0.out.1.c0
      have x1 := H0.out.1.c1
      have x2 := H0.out.1.c2
      have z0 := HM.out.c0
      have z1 := HM.out.c1
      have z2 := HM.out.c2
      go_wp2_with fail
      refine (HC2.out _ A5 m5 c5 es H0.out HMn.out.1 HMn.out.2.1 HMn.out.2.2 hm5).mono ?_
      rintro e w6 ⟨rfl, hB6⟩
      replace H0 := Lib.hid (H0.out.below hB6)
      replace HM := Lib.hid (HM.out.below hB6)
      have HMn2 : Hid (Dig w6 A5 m5 c5 es ∧ D.Bare es ∧ D.val es = U) := ⟨HMn.out.1.below hB6, HMn.out.2⟩
      clear hB6 HMn HC2 x0 x1 x2 z0 z1 z2
      have z0 := HM.out.c0
      have z1 := HM.out.c1
      have z2 := HM.out.c2
      have y0 := H0.out.2.1.c0
      have y1 := H0.out.2.1.c1
      have y2 := H0.out.2.1.c2
      have yf := H0.out.2.1.fz
      by_cases hv9 : v2 = 0
      · have d1 : (v2 == 0) = true := by rw [hv9]; rfl
        have Fin : Hid (ExTold w V E i k (.returned (.tuple #[.agg #[.bool false, .slice A5 m5 c5, .int .i64 F], .bool true])) (World.put w6 (w.heap.size + 1) false A5 m5 c5 F)) :=
          ⟨A5, m5, c5, es, F, true, rfl, hm5, H0.out.2.1.dig HMn2.out.1 _ _ _ _ _, HMn2.out.2.1, below_put H0.out.old (Nat.le_succ _) _ _ _ _ _, Or.inl ⟨rfl, by rw [HMn2.out.2.2]; exact HmU.out, _, HE2.out hv9, by rw [HMn2.out.2.2]⟩⟩
        clear H4 HE2 HMn2 HM H0 hv9 HmU HE9 HX
        go_wp2
        exact bodyPost_ret (v := .tuple #[.agg #[.bool false, .slice A5 m5 c5, .int .i64 F], .bool true]) (by simp [results, Tryz.results11, go_sem, y0, y1, y2]) rfl Fin.out
      · have d1 : (v2 == 0) = false := beq_eq_false_iff_ne.2 hv9
        have Fin : Hid (ExTold w V E i k (.returned (.tuple #[.agg #[.bool false, .slice none 0 0, .int .i64 0], .bool false])) (World.put w6 (w.heap.size + 1) false none 0 0 0)) :=
          ⟨none, 0, 0, [], 0, false, rfl, by omega, Dig.nil _ _ _, rfl, below_put H0.out.old (Nat.le_succ _) _ _ _ _ _, Or.inr ⟨rfl, H4 hv9⟩⟩
        clear H4 HE2 HMn2 HM H0 hv9 HmU HE9 HX
        go_wp2
        exact bodyPost_ret (v := .tuple #[.agg #[.bool false, .slice none 0 0, .int .i64 0], .bool false]) (by simp [results, Tryz.results11, go_sem, y0, y1, y2]) rfl Fin.out
    · have dx : decide ((0 : Int) < (X : Int)) = true := decide_eq_true (by omega)
      have dx2 : decide (0 < X) = true := decide_eq_true (by omega)
      have x0 := H0.out.1.c0
      have x1 := H0.out.1.c1
      have x2 := H0.out.1.c2
      have z0 := HN.out.c0
      have z1 := HN.out.c1
      have z2 := HN.out.c2
      go_wp2_with fail
      refine (HC1.out (by omega) _ A2 m2 c2 us H0.out HNd.out.1 HNd.out.2.1 HNd.out.2.2 hm2).mono ?_
      rintro e w4 ⟨rfl, hB4⟩
      replace H0 := Lib.hid (H0.out.below hB4)
      replace HN := Lib.hid (HN.out.below hB4)
      have HNe : Hid (Dig w4 A2 m2 c2 us ∧ D.Bare us ∧ D.val us = zV) := ⟨HNd.out.1.below hB4, HNd.out.2⟩
      clear hB4 HNd x0 x1 x2 z0 z1 z2
      by_cases hv9 : v1 = 0
      · have d1 : (v1 == 0) = true := by rw [hv9]; rfl
        have z0 := HN.out.c0
        have z1 := HN.out.c1
        have z2 := HN.out.c2
        have y0 := H0.out.2.1.c0
        have y1 := H0.out.2.1.c1
        have y2 := H0.out.2.1.c2
        have yf := H0.out.2.1.fz
        obtain ⟨q1, q2, q3⟩ := HE1.out (by omega) hv9
        have Fin : Hid (ExTold w V E i k (.returned (.tuple #[.agg #[.bool false, .slice A2 m2 c2, .int .i64 zE], .bool true])) (World.put w4 (w.heap.size + 1) false A2 m2 c2 zE)) :=
          ⟨A2, m2, c2, us, zE, true, rfl, by omega, H0.out.2.1.dig HNe.out.1 _ _ _ _ _, HNe.out.2.1, below_put H0.out.old (Nat.le_succ _) _ _ _ _ _, Or.inl ⟨rfl, by rw [HNe.out.2.2]; exact q2, _, q1, by rw [HNe.out.2.2]; exact q3⟩⟩
        clear HE1 HE2 HE3 HNe HN H0 hv9 HmU HE9 q1 q2 q3 HX HC1 HC2 HMd
        go_wp2
        exact bodyPost_ret (v := .tuple #[.agg #[.bool false, .slice A2 m2 c2, .int .i64 zE], .bool true]) (by simp [results, Tryz.results11, go_sem, y0, y1, y2]) rfl Fin.out
      · have d1 : (v1 == 0) = false := beq_eq_false_iff_ne.2 hv9
        have hnot : X = 0 ∨ v1 ≠ 0 := Or.inr hv9
        clear hv9
        have H4 := HE3.out hnot
        clear HE1 HE3 hnot HC1
        go_wp2_with fail
        refine (HMd.out _).mono ?_
        rintro e w5 ⟨A5, m5, c5, es, rfl, hm5, hl5, hb5, hv5, hB5⟩
        have hv5' : D.val es = U := hv5
        replace H0 := Lib.hid ((H0.out.below hB5).below (below1 _ (.cells #[.bool false, .slice A5 m5 c5, .int .i64 F] 30)))
        have HM := Lib.hid (Bd.new w5 30 false A5 m5 c5 F)
        have HMn : Hid (Dig (w5.alloc (.cells #[.bool false, .slice A5 m5 c5, .int .i64 F] 30)) A5 m5 c5 es ∧ D.Bare es ∧ D.val es = U) := ⟨hl5.alloc _, hb5, hv5'⟩
        clear hB5 hl5 hb5 hv5 hv5' HMd HN HNe
        have x0 := H0.out.1.c0
        have x1 := H0.out.1.c1
        have x2 := H0.out.1.c2
        have z0 := HM.out.c0
        have z1 := HM.out.c1
        have z2 := HM.out.c2
        go_wp2_with fail
        refine (HC2.out _ A5 m5 c5 es H0.out HMn.out.1 HMn.out.2.1 HMn.out.2.2 hm5).mono ?_
        rintro e w6 ⟨rfl, hB6⟩
        replace H0 := Lib.hid (H0.out.below hB6)
        replace HM := Lib.hid (HM.out.below hB6)
        have HMn2 : Hid (Dig w6 A5 m5 c5 es ∧ D.Bare es ∧ D.val es = U) := ⟨HMn.out.1.below hB6, HMn.out.2⟩
        clear hB6 HMn HC2 x0 x1 x2 z0 z1 z2
        have z0 := HM.out.c0
        have z1 := HM.out.c1
        have z2 := HM.out.c2
        have y0 := H0.out.2.1.c0
        have y1 := H0.out.2.1.c1
        have y2 := H0.out.2.1.c2
        have yf := H0.out.2.1.fz
        by_cases hv9 : v2 = 0
        · have d1 : (v2 == 0) = true := by rw [hv9]; rfl
          have Fin : Hid (ExTold w V E i k (.returned (.tuple #[.agg #[.bool false, .slice A5 m5 c5, .int .i64 F], .bool true])) (World.put w6 (w.heap.size + 1) false A5 m5 c5 F)) :=
            ⟨A5, m5, c5, es, F, true, rfl, hm5, H0.out.2.1.dig HMn2.out.1 _ _ _ _ _, HMn2.out.2.1, below_put H0.out.old (Nat.le_succ _) _ _ _ _ _, Or.inl ⟨rfl, by rw [HMn2.out.2.2]; exact HmU.out, _, HE2.out hv9, by rw [HMn2.out.2.2]⟩⟩
          clear H4 HE2 HMn2 HM H0 hv9 HmU HE9 HX
          go_wp2
          exact bodyPost_ret (v := .tuple #[.agg #[.bool false, .slice A5 m5 c5, .int .i64 F], .bool true]) (by simp [results, Tryz.results11, go_sem, y0, y1, y2]) rfl Fin.out
        · have d1 : (v2 == 0) = false := beq_eq_false_iff_ne.2 hv9
          have Fin : Hid (ExTold w V E i k (.returned (.tuple #[.agg #[.bool false, .slice none 0 0, .int .i64 0], .bool false])) (World.put w6 (w.heap.size + 1) false none 0 0 0)) :=
            ⟨none, 0, 0, [], 0, false, rfl, by omega, Dig.nil _ _ _, rfl, below_put H0.out.old (Nat.le_succ _) _ _ _ _ _, Or.inr ⟨rfl, H4 hv9⟩⟩
          clear H4 HE2 HMn2 HM H0 hv9 HmU HE9 HX
          go_wp2
          exact bodyPost_ret (v := .tuple #[.agg #[.bool false, .slice none 0 0, .int .i64 0], .bool false]) (by simp [results, Tryz.results11, go_sem, y0, y1, y2]) rfl Fin.out
end Go.Proofs.YtmmeejofepmgaaaGreatDoor
