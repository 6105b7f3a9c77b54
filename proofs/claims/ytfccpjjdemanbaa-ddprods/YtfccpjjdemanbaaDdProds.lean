/- The walk of DdProds. -/
import Derived.Test.YtfccpjjdemanbaaDdProdM
namespace Go.Proofs.Ytfccpjjdemanbaa
open Go.RowKit

theorem ddProds_no (a b : Nat) (ha : a < 18446744073709551616) (hb : b < 18446744073709551616) (hs : ¬ (Sf a ∧ Sf b)) (w : World) :
    Calls Try.prog 4 #[.int .u64 (a : Int), .int .u64 (b : Int)] w fun e w' => e = .returned (.bool true) ∧ Below w.heap.size w w' := by
  obtain ⟨va, hva⟩ : ∃ v, decide (Sf a) = v := ⟨_, rfl⟩
  obtain ⟨vb, hvb⟩ : ∃ v, decide (Sf b) = v := ⟨_, rfl⟩
  have HL := Lib.hid (dalive_any w)
  have R1 := Lib.hid (fun u => rsafe_l va a ha u hva)
  have R2 := Lib.hid (fun u => rsafe_l vb b hb u hvb)
  have hab : va = false ∨ (va = true ∧ vb = false) := by
    cases va
    · exact Or.inl rfl
    · refine Or.inr ⟨rfl, ?_⟩
      cases vb
      · rfl
      · exact absurd ⟨of_decide_eq_true hva, of_decide_eq_true hvb⟩ hs
  clear hva hvb hs ha hb
  go_enter Try.func4, Try.ntmps4
  go_wp2_with fail
  refine HL.out.mono ?_
  rintro e w1 ⟨rfl, hB1⟩
  have cur := Lib.hid hB1
  clear hB1 HL
  go_wp2_with fail
  refine (R1.out _).mono ?_
  rintro e w4 ⟨rfl, hB⟩
  replace cur := Lib.hid (cur.out.trans (hB.mono cur.out.size))
  clear hB R1
  rcases hab with rfl | ⟨rfl, rfl⟩
  · clear R2
    go_wp2
    go_ret
    exact ⟨rfl, cur.out⟩
  · go_wp2_with fail
    refine (R2.out _).mono ?_
    rintro e w5 ⟨rfl, hB⟩
    replace cur := Lib.hid (cur.out.trans (hB.mono cur.out.size))
    clear hB R2
    go_wp2
    go_ret
    exact ⟨rfl, cur.out⟩

/-- All that DdProds reckons: the halves; the product's number, where its greatest bit stands; and, unless that is out of what is looked at, the product and its rest. -/
theorem prods_all {a b k : Nat} (hk : k = 1675) (na : Nb k a) (nb : Nb k b) (sa : Sf a) (sb : Sf b) : ∃ h l, SplitEqs a h l ∧ Nb (k + 31) h ∧ Nb (k + 31) l ∧ fvI h + fvI l = fvI a ∧ blen (fO h).V ≤ 26 ∧ blen (fO l).V ≤ 26 ∧
    ((fO a).V * (fO b).V ≠ 0 → rtop ((fO a).V * (fO b).V) ((fO a).e + (fO b).e) < -900 ∨ 1000 < rtop ((fO a).V * (fO b).V) ((fO a).e + (fO b).e) ∨
      ∃ g p r, g ≤ 1974 ∧ ProdEqs a b p r ∧ Nb (106 + g) p ∧ Nb (110 + g) r ∧ ∃ Q : Int, Q.natAbs ≤ 2 ^ (106 + g) ∧ fvI p = rn Q ∧ fvI p + fvI r = Q ∧ Wu ⟨(fO a).neg ^^ (fO b).neg, (fO a).V * (fO b).V, (fO a).e + (fO b).e⟩ Q) ∧
    ((fO a).V * (fO b).V = 0 → ∃ g p r, g ≤ 1974 ∧ ProdEqs a b p r ∧ Nb (106 + g) p ∧ Nb (110 + g) r ∧ ∃ Q : Int, Q.natAbs ≤ 2 ^ (106 + g) ∧ fvI p = rn Q ∧ fvI p + fvI r = Q ∧ Wu ⟨(fO a).neg ^^ (fO b).neg, (fO a).V * (fO b).V, (fO a).e + (fO b).e⟩ Q) := by
  obtain ⟨A, α, hA, ea, a1, a2, a3, a4⟩ := sf_place sa
  obtain ⟨B, β, hB, eb, b1, b2, b3, b4⟩ := sf_place sb
  obtain ⟨h, l, e7, nh, nl, H, _, vh, vl, d1, d2, d3⟩ := nb_split (by omega) na hA ea
  have xa := fO_exp na.2.1
  have xb := fO_exp nb.2.1
  obtain ⟨u, hu⟩ : ∃ u : Nat, u = 1074 := ⟨_, rfl⟩
  have key : ∀ g : Nat, α + β = u + g → g ≤ 1974 → ∃ g p r, g ≤ 1974 ∧ ProdEqs a b p r ∧ Nb (106 + g) p ∧ Nb (110 + g) r ∧ ∃ Q : Int, Q.natAbs ≤ 2 ^ (106 + g) ∧ fvI p = rn Q ∧ fvI p + fvI r = Q ∧ Wu ⟨(fO a).neg ^^ (fO b).neg, (fO a).V * (fO b).V, (fO a).e + (fO b).e⟩ Q := fun g hg hg2 => by
    obtain ⟨p, r, q1, q2, q3, q4, q5⟩ := nb_prod hu (by omega) na nb hA hB ea eb hg hg2
    refine ⟨g, p, r, hg2, q1, q2, q3, _, half_mul (H := 9007199254740992) (L := 9007199254740992) ?_ ?_ (by decide), q4, by omega, ?_⟩
    · rcases hA with h9 | h9 <;> omega
    · rcases hB with h9 | h9 <;> omega
    · exact wu_mul hu (fO_wu na.2.1) (fO_wu nb.2.1) (by omega) (by omega) (by omega) (by omega) (by rw [ea, eb]; exact at_place hg)
  obtain ⟨ja, ha1, ha2⟩ := fO_place na.2.1
  obtain ⟨jb, hb1, hb2⟩ := fO_place nb.2.1
  have eA : (fvI a).natAbs = A.natAbs * 2 ^ α := by rw [ea, Int.natAbs_mul, Int.natAbs_natCast]
  have eB : (fvI b).natAbs = B.natAbs * 2 ^ β := by rw [eb, Int.natAbs_mul, Int.natAbs_natCast]
  have zA : A = 0 ↔ (fO a).V = 0 := by
    have hp := Nat.two_pow_pos ja
    have hq := Nat.two_pow_pos α
    rw [eA] at ha1
    constructor
    · intro h0
      rw [h0] at ha1
      rcases Nat.eq_zero_or_pos (fO a).V with h9 | h9
      · exact h9
      · have := Nat.mul_pos h9 hp; simp at ha1; omega
    · intro h0
      rw [h0, Nat.zero_mul] at ha1
      rcases Nat.eq_zero_or_pos A.natAbs with h9 | h9
      · omega
      · have := Nat.mul_pos h9 hq; omega
  have zB : B = 0 ↔ (fO b).V = 0 := by
    have hp := Nat.two_pow_pos jb
    have hq := Nat.two_pow_pos β
    rw [eB] at hb1
    constructor
    · intro h0
      rw [h0] at hb1
      rcases Nat.eq_zero_or_pos (fO b).V with h9 | h9
      · exact h9
      · have := Nat.mul_pos h9 hp; simp at hb1; omega
    · intro h0
      rw [h0, Nat.zero_mul] at hb1
      rcases Nat.eq_zero_or_pos B.natAbs with h9 | h9
      · omega
      · have := Nat.mul_pos h9 hq; omega
  refine ⟨h, l, e7, nh.mono (by omega), nl, ?_, ?_, ?_, ?_, ?_⟩
  · rw [vh, vl, ea, ← Int.add_mul]; congr 1; omega
  · obtain ⟨x, rfl⟩ := d1
    refine half_bits (y := x.natAbs) (f := 27 + α) nh.2.1 ?_ (by omega)
    rw [vh, Int.natAbs_mul, Int.natAbs_mul, Int.natAbs_natCast, Nat.pow_add, Nat.mul_comm (Int.natAbs 134217728), Nat.mul_assoc]
    rfl
  · refine half_bits (y := (A - H).natAbs) (f := α) nl.2.1 ?_ d3
    rw [vl, Int.natAbs_mul, Int.natAbs_natCast]
  · intro hne
    have nA : A ≠ 0 := fun h0 => hne (by rw [zA.1 h0, Nat.zero_mul])
    have nB : B ≠ 0 := fun h0 => hne (by rw [zB.1 h0, Nat.mul_zero])
    have hVa : (fO a).V ≠ 0 := fun h0 => nA (zA.2 h0)
    have hVb : (fO b).V ≠ 0 := fun h0 => nB (zB.2 h0)
    have hea := (ha2.resolve_left hVa).2
    have heb := (hb2.resolve_left hVb).2
    have lA := hA.resolve_left nA
    have lB := hB.resolve_left nB
    have hprod : (fO a).V * (fO b).V * 2 ^ (ja + jb) = A.natAbs * B.natAbs * 2 ^ (α + β) := by
      rw [Nat.pow_add, Nat.pow_add, show (fO a).V * (fO b).V * (2 ^ ja * 2 ^ jb) = (fO a).V * 2 ^ ja * ((fO b).V * 2 ^ jb) by ac_rfl, ← ha1, ← hb1, eA, eB]
      ac_rfl
    have hAB0 : A.natAbs * B.natAbs ≠ 0 := Nat.mul_ne_zero (by omega) (by omega)
    have hbl := congrArg blen hprod
    rw [blen_shl hne, blen_shl hAB0] at hbl
    have lo : 105 ≤ blen (A.natAbs * B.natAbs) := by
      rcases Nat.lt_or_ge (blen (A.natAbs * B.natAbs)) 105 with h9 | h9
      · have h8 := blen_le_iff.1 (show blen (A.natAbs * B.natAbs) ≤ 104 by omega)
        have h7 := Nat.mul_le_mul lA.1 lB.1
        rw [show (4503599627370496 * 4503599627370496 : Nat) = 2 ^ 104 by decide] at h7
        omega
      · exact h9
    have hi : blen (A.natAbs * B.natAbs) ≤ 106 := by
      refine blen_le_iff.2 ?_
      have h7 := Nat.mul_lt_mul'' lA.2 lB.2
      rw [show (9007199254740992 * 9007199254740992 : Nat) = 2 ^ 106 by decide] at h7
      exact h7
    have ht : rtop ((fO a).V * (fO b).V) ((fO a).e + (fO b).e) = (blen ((fO a).V * (fO b).V) : Int) - 1 + ((fO a).e + (fO b).e) := rfl
    by_cases c1 : rtop ((fO a).V * (fO b).V) ((fO a).e + (fO b).e) < -900
    · exact Or.inl c1
    · by_cases c2 : 1000 < rtop ((fO a).V * (fO b).V) ((fO a).e + (fO b).e)
      · exact Or.inr (Or.inl c2)
      · refine Or.inr (Or.inr (key (α + β - u) ?_ ?_))
        · omega
        · omega
  · intro h0
    have hz : A = 0 ∨ B = 0 := by
      rcases Nat.mul_eq_zero.1 h0 with h9 | h9
      · exact Or.inl (zA.2 h9)
      · exact Or.inr (zB.2 h9)
    rcases hz with h9 | h9
    · have := a3 h9
      exact key β (by omega) (by omega)
    · have := b3 h9
      exact key α (by omega) (by omega)
end Go.Proofs.Ytfccpjjdemanbaa
