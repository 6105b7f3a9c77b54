/- The document's powers by comparisons alone: planimeterref11.Below. -/
import Derived.Test.YtmmeejofepmgaaaGreatDoorExLow
import Derived.Test.YtmmeejofepmgaaaGreatDoorK5
import Derived.Test.YtmmeejofepmgaaaGreatDoorK4
import Derived.Deep.Cut
namespace Go.Proofs.YtmmeejofepmgaaaGreatDoor
open Go.RowKit

/-- While it is walked: the number in its box. -/
theorem HoldL.tri {w : World} {b : Nat} {g : Bool} {A : Option Addr} {n c : Nat} {ds : List Nat} {e0 : Int} {u : World} (h : HoldL w b g A n c ds e0 u) : u.cell? ⟨b, 0, none⟩ = some (.bool g) ∧ u.cell? ⟨b, 1, none⟩ = some (.slice A n c) ∧ u.cell? ⟨b, 2, none⟩ = some (.int .i64 e0) := h.three

/-- What is asked of a power: that it can be held against all bits. -/
def NearP (V : Nat) (E i : Int) (k : Nat) : Prop := 1 ≤ V ∧ 1 ≤ k ∧ k ≤ 40 ∧ -60 ≤ i ∧ i ≤ 60 ∧ blen V * i.natAbs ≤ 1500 ∧ -2000 ≤ E ∧ E ≤ 2000
theorem NearP.e {V : Nat} {E i : Int} {k : Nat} (h : NearP V E i k) : E.natAbs * i.natAbs ≤ 200000 := by
  obtain ⟨_, _, _, h1, h2, _, h3, h4⟩ := h
  have := Nat.mul_le_mul (show E.natAbs ≤ 2000 by omega) (show i.natAbs ≤ 60 by omega)
  omega
/-- One comparison. -/
theorem near_cmp {V : Nat} {E i : Int} {k : Nat} (hP : NearP V E i k) (v : Int) (U : Nat) (F : Int) (A : Option Addr) (n c : Nat) (ds : List Nat) (B : Option Addr) (m d : Nat) (es : List Nat) (w : World) (hA : Dig w A n c ds) (ba : D.Bare ds) (hn : n ≤ 1000) (hV : D.val ds = V) (hB : Dig w B m d es) (bb : D.Bare es) (hm : m ≤ 1000) (hU : D.val es = U) (hU0 : U ≠ 0) (hU9 : blen U ≤ 60) (hF1 : -2000 ≤ F) (hF2 : F ≤ 2000) (hv : cS V E i k (sz U F) = v) :
    Calls Tryz.prog 28 #[.agg #[.bool false, .slice A n c, .int .i64 E], .int .i64 i, .agg #[.bool false, .slice B m d, .int .i64 F], .int .i64 (k : Int)] w fun e w' => e = .returned (.int .i64 v) ∧ Below w.heap.size w w' := by
  have he := hP.e
  obtain ⟨h1, h2, h3, h4, h5, h6, h7, h8⟩ := hP
  have q2 := Nat.mul_le_mul hU9 h3
  have q4 := Nat.mul_le_mul (show F.natAbs ≤ 2000 by omega) h3
  exact cmp10_l v V E A n c ds i U F B m d es k w hA hB ba bb hn hm hV hU h1 (by omega) (by omega) (by omega) (by omega) (by omega) (by omega) he (by omega) (by show _ = _; rw [ratC_sz (by omega) (by omega) (by omega)]; exact hv)
theorem vO_blen {b : Nat} (hb : b ≤ 9218868437227405312) : blen (vO b).V ≤ 60 := by
  have h := (vO_facts hb).2.2.2.2.1
  have : blen (vO b).V ≤ 53 := blen_le_iff.2 h
  omega

set_option maxHeartbeats 2000000 in
set_option maxRecDepth 20000 in
theorem below11_l (X : Nat) (V : Nat) (E i : Int) (k : Nat) (A : Option Addr) (n c : Nat) (ds : List Nat) (w : World) (hA : Dig w A n c ds) (ba : D.Bare ds) (hn : n ≤ 1000) (hV : D.val ds = V) (hP : NearP V E i k) (hX : LowC V E i k X) :
    Calls Tryz.prog 27 #[.agg #[.bool false, .slice A n c, .int .i64 E], .int .i64 i, .int .i64 (k : Int)] w fun e w' => e = .returned (.int .u64 (X : Int)) ∧ Below w.heap.size w w' := by
  have K0 := Lib.hid ((HoldL.start w false A n c ds E hA).below (below_drew _))
  have hV0 : 0 < V := hP.1
  have hk0 : k ≠ 0 := by have := hP.2.1; omega
  have HL : Hid (∀ u, HoldL w w.heap.size false A n c ds E u → Calls Tryz.prog 29 #[] u (NTold u ⟨false, 1, 1024⟩ 4)) := fun u _ => limit_l u
  obtain ⟨v0, hv0⟩ : ∃ v, cS V E i k (vX 9218868437227405312) = v := ⟨_, rfl⟩
  have HC0 : Hid (∀ u A1 m1 c1 us, HoldL w w.heap.size false A n c ds E u → Dig u A1 m1 c1 us → D.Bare us → D.val us = 1 → m1 ≤ 4 → Calls Tryz.prog 28 #[.agg #[.bool false, .slice A n c, .int .i64 E], .int .i64 i, .agg #[.bool false, .slice A1 m1 c1, .int .i64 1024], .int .i64 (k : Int)] u fun e w' => e = .returned (.int .i64 v0) ∧ Below u.heap.size u w') := fun u A1 m1 c1 us hu r1 r2 r3 r4 =>
    near_cmp hP v0 1 1024 A n c ds A1 m1 c1 us u hu.dig ba hn hV r1 r2 (by omega) r3 (by decide) (by decide) (by decide) (by decide) (by rw [sz_inf rfl]; exact hv0)
  have HC : Hid (∀ (v : Int) (b : Nat) (E1 : Int), 0 < b → b ≤ 9218868437227405312 → cS V E i k (vX b) = v → (vO b).e = E1 → ∀ u A1 m1 c1 us, HoldL w w.heap.size false A n c ds E u → Dig u A1 m1 c1 us → D.Bare us → D.val us = (vO b).V → m1 ≤ 4 → Calls Tryz.prog 28 #[.agg #[.bool false, .slice A n c, .int .i64 E], .int .i64 i, .agg #[.bool false, .slice A1 m1 c1, .int .i64 E1], .int .i64 (k : Int)] u fun e w' => e = .returned (.int .i64 v) ∧ Below u.heap.size u w') := fun v b E1 h0 hb hv hE u A1 m1 c1 us hu r1 r2 r3 r4 => by
    obtain ⟨_, f2, f3, f4, f5, f6⟩ := vO_facts hb
    subst hE
    exact near_cmp hP v (vO b).V (vO b).e A n c ds A1 m1 c1 us u hu.dig ba hn hV r1 r2 (by omega) r3 (fun h => by have := f6.1 h; omega) (vO_blen hb) (by omega) (by omega) (by rw [f2]; exact hv)
  have HX := Lib.hid hX
  have hcase : (X = 9218868437227405312 ∧ 0 ≤ v0) ∨ (X < 9218868437227405312 ∧ v0 < 0) := by
    rcases Nat.lt_or_ge X 9218868437227405312 with h | h
    · have k1 := hX.2.2 h
      have k2 := cS_anti (E := E) (i := i) (k := k) hV0 (vX_le (X := X + 1) (Y := 9218868437227405312) h (Nat.le_refl _))
      exact Or.inr ⟨h, by rw [← hv0]; omega⟩
    · have k0 : X = 9218868437227405312 := by have := hX.1; omega
      have k1 := hX.2.1
      rw [k0] at k1
      exact Or.inl ⟨k0, by rw [← hv0]; exact k1⟩
  have HV0 := Lib.hid hV0
  have HK0 := Lib.hid hk0
  have Hv0 := Lib.hid hv0
  have HPi : Hid (NearP V E i k) := hP
  have hi9 : -60 ≤ i ∧ i ≤ 60 := ⟨hP.2.2.2.1, hP.2.2.2.2.1⟩
  have hk9 : k ≤ 40 := hP.2.2.1
  obtain ⟨hi1, hi2⟩ := hi9
  clear hA ba hV hX hv0 hP hn hV0 hk0
  go_enter Tryz.func27, Tryz.ntmps27
  obtain ⟨bb, hbb⟩ : ∃ bb, decide (0 ≤ v0) = bb := ⟨_, rfl⟩
  go_wp2_with fail
  go_cut [15] from 10 (fun s15 wx => s15 = .bool bb ∧ Hid (HoldL w w.heap.size false A n c ds E wx))
  case first =>
    go_region_held3 (fun w' => w'.cell? ⟨w.heap.size, 0, none⟩ = some (.bool false) ∧ w'.cell? ⟨w.heap.size, 1, none⟩ = some (.slice A n c) ∧ w'.cell? ⟨w.heap.size, 2, none⟩ = some (.int .i64 E))
      (first | (with_reducible exact K0.out.tri) | (with_reducible exact K1.out.tri) | (with_reducible exact K2.out.tri))
      (first
        | (go_at_call 29; (with_reducible refine (HL.out _ K0.out).mono ?_); rintro e w1 ⟨A1, m1, c1, us, rfl, hm1, hl1, hb1, hv1, hB1⟩; have K1 := Lib.hid (K0.out.below hB1); have L1 := Lib.hid hl1; have N1 := Lib.hid hb1; have V1 := Lib.hid hv1; clear hl1 hb1 hv1 hB1)
        | (go_at_call 28; (with_reducible refine (HC0.out _ A1 m1 c1 us K1.out L1.out N1.out V1.out hm1).mono ?_); rintro e w2 ⟨rfl, hB2⟩; have K2 := Lib.hid (K1.out.below hB2); clear hB2))
    clear K0 K1 L1 N1 V1 HL HC0 HC
    go_wp2_with fail
    go_meet
    exact ⟨by rw [← hbb], K2⟩
  case rest =>
  obtain ⟨w2, rfl⟩ : ∃ w2, w2 = wc := ⟨_, rfl⟩
  obtain ⟨rfl, K2⟩ := hcut
  clear HL K0 HC0
  rcases hcase with ⟨hX0, hv0⟩ | ⟨hX0, hv1⟩
  · obtain rfl : bb = true := by rw [← hbb]; exact decide_eq_true hv0
    have Hfin := Lib.hid K2.out.old
    subst hX0
    clear K2 HC HX hv0 hbb Hv0
    go_wp2
    go_ret
    exact ⟨rfl, Hfin.out⟩
  · obtain rfl : bb = false := by rw [← hbb]; exact decide_eq_false (by omega)
    have hS1 : Hid (0 ≤ cS V E i k (vX 0) ∧ cS V E i k (vX 9218868437227405312) < 0) := ⟨by rw [show vX 0 = 0 from by unfold vX; rw [show fm 0 = 0 from by decide, Nat.zero_mul], cS_zero HV0.out HK0.out]; decide, by rw [Hv0.out]; exact hv1⟩
    clear hv1 hbb Hv0
    go_wp2
    go_loopw [7, 8] (fun l h wr => ∃ lo hi : Nat, l = .int .u64 (lo : Int) ∧ h = .int .u64 (hi : Int) ∧ lo < hi ∧ hi ≤ 9218868437227405312 ∧ Hid (0 ≤ cS V E i k (vX lo) ∧ cS V E i k (vX hi) < 0) ∧ Hid (HoldL w w.heap.size false A n c ds E wr)) (fun l h _ => (intOf h).toNat - (intOf l).toNat)
    case atStart => exact ⟨0, 9218868437227405312, rfl, rfl, by decide, Nat.le_refl _, hS1, K2⟩
    case round =>
      obtain ⟨lo, hi, rfl, rfl, hlh, hhi, HV, HB⟩ := hrel
      obtain ⟨dd, hdd⟩ : ∃ dd, hi - lo = dd := ⟨_, rfl⟩
      have e1 : (hi : Int) - (lo : Int) = (dd : Int) := by omega
      have hd0 : 1 ≤ dd := by omega
      by_cases hd1 : 1 < dd
      · obtain ⟨h2, hh2⟩ : ∃ h2, dd / 2 = h2 := ⟨_, rfl⟩
        have e2 : (dd : Int) / 2 = (h2 : Int) := by omega
        obtain ⟨mid, hmid⟩ : ∃ mid, lo + h2 = mid := ⟨_, rfl⟩
        have e3 : (lo : Int) + (h2 : Int) = (mid : Int) := by omega
        have b1 : decide ((1 : Int) < (dd : Int)) = true := decide_eq_true (by omega)
        have hm1 : lo < mid ∧ mid < hi := by omega
        obtain ⟨hm1, hm2⟩ := hm1
        have hmb : mid ≤ 9218868437227405312 := by omega
        obtain ⟨E1, hE1⟩ : ∃ E, (vO mid).e = E := ⟨_, rfl⟩
        obtain ⟨v, hv⟩ : ∃ v, cS V E i k (vX mid) = v := ⟨_, rfl⟩
        have HCv := Lib.hid (HC.out v mid E1 (by omega) hmb hv hE1)
        have hvm : vO mid = fO mid := by unfold vO; rw [if_neg (by omega)]
        have KB := Lib.hid (HB.out.below (below_drew _))
        have HW : Hid (∀ u, HoldL w w.heap.size false A n c ds E u → Calls Tryz.prog 30 #[.int .u64 (mid : Int)] u (NTold u ⟨false, (vO mid).V, E1⟩ 4)) := fun u _ => by
          have h := worth_any mid (by omega) u
          rw [← hvm] at h
          have hz : vO mid = ⟨false, (vO mid).V, E1⟩ := by
            have h9 := (vO_facts hmb).1
            generalize vO mid = z at *
            obtain ⟨zg, zV, zE⟩ := z
            simp only at h9 hE1
            rw [h9, hE1]
          rw [hz] at h
          exact h
        have hvc : (0 ≤ v ∧ 0 ≤ cS V E i k (vX mid)) ∨ (v < 0 ∧ cS V E i k (vX mid) < 0) := by
          rw [← hv]
          rcases Int.lt_or_le (cS V E i k (vX mid)) 0 with h9 | h9
          · exact Or.inr ⟨h9, h9⟩
          · exact Or.inl ⟨h9, h9⟩
        have Hvc := Lib.hid hvc
        clear hv hE1 hdd hh2 hmid hvc hvm
        generalize (vO mid).V = mV at HCv HW
        go_wp2_with fail
        go_region_held3 (fun w' => w'.cell? ⟨w.heap.size, 0, none⟩ = some (.bool false) ∧ w'.cell? ⟨w.heap.size, 1, none⟩ = some (.slice A n c) ∧ w'.cell? ⟨w.heap.size, 2, none⟩ = some (.int .i64 E))
          (first | (with_reducible exact KB.out.tri) | (with_reducible exact K5.out.tri) | (with_reducible exact K6.out.tri))
          (first
            | (go_at_call 30; (with_reducible refine (HW.out _ KB.out).mono ?_); rintro e w5 ⟨A5, m5, c5, us5, rfl, hm5, hl5, hb5, hv5, hB5⟩; have K5 := Lib.hid (KB.out.below hB5); have L5 := Lib.hid hl5; have N5 := Lib.hid hb5; have V5 := Lib.hid hv5; clear hl5 hb5 hv5 hB5)
            | (go_at_call 28; (with_reducible refine (HCv.out _ A5 m5 c5 us5 K5.out L5.out N5.out V5.out hm5).mono ?_); rintro e w6 ⟨rfl, hB6⟩; have K6 := Lib.hid (K5.out.below hB6); clear hB6))
        rcases Hvc.out with ⟨k1, k2⟩ | ⟨k1, k2⟩
        · have HV2 : Hid (0 ≤ cS V E i k (vX mid) ∧ cS V E i k (vX hi) < 0) := ⟨k2, HV.out.2⟩
          have d9 : decide (0 ≤ v) = true := decide_eq_true k1
          clear KB K5 HB HV HW Hvc k2 HCv L5 N5 V5
          go_wp2
          go_roundw
          case rel => exact ⟨mid, hi, rfl, rfl, hm2, hhi, HV2, K6⟩
          case measure => simp [intOf]; omega
        · have HV2 : Hid (0 ≤ cS V E i k (vX lo) ∧ cS V E i k (vX mid) < 0) := ⟨HV.out.1, k2⟩
          have d9 : decide (0 ≤ v) = false := decide_eq_false (by omega)
          clear KB K5 HB HV HW Hvc k2 HCv L5 N5 V5
          go_wp2
          go_roundw
          case rel => exact ⟨lo, mid, rfl, rfl, hm1, hmb, HV2, K6⟩
          case measure => simp [intOf]; omega
      · obtain rfl : dd = 1 := by omega
        obtain rfl : hi = lo + 1 := by omega
        have hlow : LowC V E i k lo := ⟨by omega, HV.out.1, fun _ => HV.out.2⟩
        obtain rfl : X = lo := HX.out.uniq HV0.out hlow
        have Hfin := Lib.hid HB.out.old
        clear hlow HV HB HX K2 HC hS1
        go_wp2
        go_ret
        exact ⟨rfl, Hfin.out⟩
end Go.Proofs.YtmmeejofepmgaaaGreatDoor
