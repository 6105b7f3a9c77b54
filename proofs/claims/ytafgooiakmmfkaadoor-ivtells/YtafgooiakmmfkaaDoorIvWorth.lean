/- The document's numbers against dyads, by their worths. -/
import Derived.Test.YtafgooiakmmfkaaDoorIvJ
import Derived.Test.YtafgooiakmmfkaaDoorIvTell
import Derived.Test.YtafgooiakmmfkaaDoorIvTimes
import Derived.Test.YtafgooiakmmfkaaDoorIvEnds
namespace Go.Proofs.YtafgooiakmmfkaaDoor
open Go.RowKit

theorem sz_blen {V U : Nat} {e f : Int} (hV : V ≠ 0) (hU : U ≠ 0) (h1 : -100000 ≤ e) (h2 : e ≤ 100000) (h3 : -100000 ≤ f) (h4 : f ≤ 100000) (h : sz V e = sz U f) : (blen V : Int) + e = blen U + f := by
  have k1 := congrArg blen h
  unfold sz at k1
  rw [blen_shl hV, blen_shl hU] at k1
  have a := sh_held e
  have b := sh_held f
  rw [held_id (by omega) (by omega)] at a b
  omega
theorem dw_abs (g : Bool) (V : Nat) (e : Int) : (dw g V e).natAbs = sz V e := by cases g <;> simp [dw]
theorem sp_e {k : Nat} {d : Dy} (h : Sp k d) : -(k : Int) ≤ d.e ∧ d.e ≤ k := ⟨h.2.1, by have := h.2.2; omega⟩
/-- A number of the document that is worth a dyad: that one by its words; not long. -/
theorem nO_worth {g : Bool} {V k : Nat} {E : Int} {d : Dy} (hs : Sp k d) (hk : k ≤ 20000) (h1 : -20000 ≤ E) (h2 : E ≤ 20000) (h : dw g V E = dwD d) : nO g V E = d ∧ (blen V : Int) + E ≤ max (k : Int) E := by
  have hd := sp_e hs
  have ha := congrArg Int.natAbs h
  unfold dwD at ha
  rw [dw_abs, dw_abs] at ha
  have hb : (blen V : Int) + E ≤ max (k : Int) E := by
    by_cases hV : V = 0
    · rw [hV, blen_nought]; omega
    · have hU : d.V ≠ 0 := fun hU => by
        rw [hU, sz_zero] at ha
        have := sz_pos E hV
        omega
      have := sz_blen hV hU (by omega) (by omega) (by omega) (by omega) ha
      have := hs.2.2
      omega
  refine ⟨?_, hb⟩
  obtain ⟨b, hb1, hb2, hb3⟩ := sp_mk (g := g) (V := V) (k := 40000) (e := E) (by omega) (by omega) (by omega) (fun _ => by omega)
  rw [mk_is hb1]
  exact bare_same hb2.1 hs.1 (by rw [hb3, h]; rfl)
/-- The document's number is told of a near dyad. -/
theorem of_near {d : Dy} (g : Bool) (A : Option Addr) (n c : Nat) (xs : List Nat) (e : Int) (w : World) (hA : Lim w A n c xs) (hn : n ≤ 10) (hm : mk g (val xs) e = some d) : Calls Tryd.prog 9 #[.agg #[.bool g, .slice A n c, .int .i64 e]] w (NTold w d 40) := by
  have h := rof_any g A n c xs e w hA (by omega)
  rw [mk_is hm] at h
  exact h.mono fun _ _ ⟨A9, m9, c9, z9, k1, k2, k3⟩ => ⟨A9, m9, c9, z9, k1, by omega, k3⟩
/-- The document's sum of two near numbers: worth the dyad s, not long. -/
def Sums (d1 d2 s : Dy) (o : Dy) : Prop := nO o.neg o.V o.e = s ∧ ∀ (A : Option Addr) (n c : Nat) (ds : List Nat) (B : Option Addr) (m d : Nat) (es : List Nat) (w : World), (Dig w A n c ds ∧ D.Bare ds ∧ n ≤ 40 ∧ D.val ds = d1.V) → (Dig w B m d es ∧ D.Bare es ∧ m ≤ 40 ∧ D.val es = d2.V) →
  Calls Tryd.prog 20 #[.agg #[.bool d1.neg, .slice A n c, .int .i64 d1.e], .agg #[.bool d2.neg, .slice B m d, .int .i64 d2.e]] w (NTold w o 600)
theorem sums_ex (d1 d2 : Dy) {s : Dy} (g k : Bool) (hs : Sp 4000 s) (b1 : -3640 ≤ d1.e ∧ d1.e ≤ 3640) (b2 : -3640 ≤ d2.e ∧ d2.e ≤ 3640) (h : dwD s = dw g d1.V d1.e + dw k d2.V d2.e) : ∃ o, Sums ⟨g, d1.V, d1.e⟩ ⟨k, d2.V, d2.e⟩ s o ∧ -3640 ≤ o.e ∧ o.e ≤ 3640 := by
  obtain ⟨o, h1, h2, h3, h4, h5, h6, h7⟩ := gadd_spec g k d1.V d2.V d1.e d2.e (by omega) (by omega) (by omega) (by omega) (by omega) (by omega)
  have he : -3640 ≤ o.e ∧ o.e ≤ 3640 := by rcases h4 with h4 | h4 <;> omega
  have hn := nO_worth (g := o.neg) (V := o.V) (E := o.e) hs (by omega) (by omega) (by omega) (by rw [h1, h])
  refine ⟨o, ⟨hn.1, fun A n c ds B m d es w hA hB => ?_⟩, he⟩
  have hr := h7 A n c ds B m d es w hA.1 hB.1 hA.2.1 hB.2.1 (by have := hA.2.2.1; omega) (by have := hB.2.2.1; omega) hA.2.2.2 hB.2.2.2
  refine hr.mono fun _ _ ⟨A9, m9, c9, z9, k1, k2, k3, k4, k5, k6⟩ => ⟨A9, m9, c9, z9, k1, ?_, k3, k4, k5, k6⟩
  have hb := hn.2
  obtain ⟨N, hN⟩ : ∃ N : Nat, N = 7640 := ⟨_, rfl⟩
  exact dlen_le (k := N) k3 k4 k5 (blen_le_iff.1 (by omega)) (by omega)
/-- A product is what Mul tells. -/
theorem pn_is {k j : Nat} {a b m : Dy} (ha : Sp k a) (hb : Sp j b) (hk : k + j ≤ 30000) (h : mulO (mk a.neg a.V a.e) (mk b.neg b.V b.e) = some m) : pN a.neg a.V a.e b.neg b.V b.e = m := by
  have a1 := sp_e ha
  have b1 := sp_e hb
  have a2 := ha.2
  have b2 := hb.2
  have e : mulB a b = toldD (a.neg != b.neg) (a.V * b.V) (a.e + b.e) := by
    unfold mulB
    rw [if_neg (by omega)]
  have ho : mulO (mk a.neg a.V a.e) (mk b.neg b.V b.e) = toldD (a.neg != b.neg) (a.V * b.V) (a.e + b.e) := by rw [ha.1, hb.1]; exact e
  rw [ho] at h
  unfold toldD at h
  unfold pN
  by_cases h0 : a.V * b.V = 0
  · rw [if_pos h0] at h
    rw [if_pos (Nat.mul_eq_zero.1 h0)]
    exact Option.some.inj h
  · rw [if_neg h0, if_neg (by omega)] at h
    rw [if_neg (fun h' => h0 (Nat.mul_eq_zero.2 h'))]
    exact Option.some.inj h
end Go.Proofs.YtafgooiakmmfkaaDoor
