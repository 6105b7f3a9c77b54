/- A number with fewer bits: whole numbers alone. -/
import Derived.Test.YtnkbdjbcfkflpaaDoorIvSp
import Derived.Test.YtnkbdjbcfkflpaaDoorK3
import Derived.Test.YtnkbdjbcfkflpaaDoorIvMulP
namespace Go.Proofs.YtnkbdjbcfkflpaaDoor
open Go.RowKit

/-- What an end becomes by so many bits: in units, and as it is told. -/
def ShX (d : Dy) (b : Nat) (dir : Int) (U : Nat) (H B v : Bool) (V2 : Nat) (o X : Dy) : Prop :=
  rU d.V ((b : Int) - blen d.V) 0 = U ∧ rH d.V ((b : Int) - blen d.V) 0 = H ∧ rB d.V ((b : Int) - blen d.V) 0 = B ∧ awy d.neg dir (decide (U % 2 = 1)) H (B || false) = v ∧ U + v.toNat = V2 ∧ mk d.neg V2 0 = some o ∧ o.V ≠ 0 ∧ X = ⟨o.neg, o.V, o.e + ((blen d.V : Int) + d.e - b)⟩
theorem mk_at {g : Bool} {V : Nat} {o : Dy} (h : mk g V 0 = some o) (h0 : V ≠ 0) (u : Int) (h1 : -100000 ≤ u) (h2 : u ≤ 100000) (hV : blen V ≤ 100000) : mk g V u = some ⟨o.neg, o.V, o.e + u⟩ ∧ o.e ≤ 100000 ∧ 0 ≤ o.e ∧ o.V ≠ 0 ∧ o.V ≤ V := by
  have hp : V / 2 ^ low V ≠ 0 := fun hk => h0 (odd_part_zero.1 hk)
  obtain ⟨f1, f2, f3⟩ := toldD_fine h
  obtain ⟨g1, g2⟩ := f3 hp
  have hl := low_le_blen V
  have e0 : held 0 = 0 := by decide
  rw [e0] at g2
  refine ⟨?_, by omega, by omega, by rw [f2]; exact hp, by rw [f2]; exact Nat.div_le_self _ _⟩
  show toldD g (V / 2 ^ low V) (held u + low V) = _
  rw [held_id (by omega) (by omega)]
  unfold toldD
  rw [if_neg hp, if_neg (by omega), f2, g1, g2]
  have e : (u + (low V : Int)) = 0 + (low V : Int) + u := by omega
  rw [e]
theorem sz_of (V : Nat) (e : Int) : sz V e = V * sz 1 e := by unfold sz; rw [Nat.one_mul]
theorem shx_ex {d : Dy} {b k : Nat} {dir : Int} (hk : k ≤ 6000) (hd : Sp k d) (h0 : d.V ≠ 0) (hb1 : 1 ≤ b) (hb2 : b ≤ 4096) (hdir : dir = 2 ∨ dir = 3) :
    ∃ U H B v V2 o X, ShX d b dir U H B v V2 o X ∧ Sp (k + 1) X ∧ X.V ≠ 0 ∧ blen X.V ≤ b ∧ (blen d.V ≤ b → X = d) ∧ (blen d.V : Int) + d.e - b ≤ X.e ∧ (dir = 2 → dwD d ≤ dwD X) ∧ (dir = 3 → dwD X ≤ dwD d) ∧ (dwD d - dwD X).natAbs < sz 1 ((blen d.V : Int) + d.e - b) ∧ (d.e < (blen d.V : Int) + d.e - b ∨ X = d) := by
  have d1 := hd.2.1
  have d2 := hd.2.2
  have hV := blen_pos h0
  have od : Odd d := by rw [← mk_is hd.1]; exact nO_odd d.neg d.V d.e
  obtain ⟨om, hom⟩ := od.resolve_right (fun h => h0 (by rw [h]))
  have d3 : (blen d.V : Int) ≤ 12000 := by omega
  have hK : Hid (0 < sz 1 ((blen d.V : Int) + d.e - b)) := by
    show 0 < _
    exact sz_pos _ (by decide)
  by_cases hc : blen d.V ≤ b
  · -- nothing is cut
    obtain ⟨j, hj⟩ : ∃ j : Nat, (b : Int) - blen d.V = j := ⟨b - blen d.V, by omega⟩
    have eU : rU d.V ((b : Int) - blen d.V) 0 = d.V * 2 ^ j := by unfold rU; rw [hj, if_pos (by omega), Int.sub_zero, Int.toNat_natCast]
    have eH : rH d.V ((b : Int) - blen d.V) 0 = false := by unfold rH; rw [if_pos (by omega)]
    have eB : rB d.V ((b : Int) - blen d.V) 0 = false := by unfold rB; rw [if_pos (by omega)]
    have ev : ∀ o, awy d.neg dir o false (false || false) = false := fun o => by
      rcases hdir with rfl | rfl <;> (unfold awy; simp)
    have p0 : d.V * 2 ^ j ≠ 0 := Nat.mul_ne_zero h0 (Nat.ne_of_gt (Nat.two_pow_pos _))
    obtain ⟨o, ho⟩ : ∃ o, mk d.neg (d.V * 2 ^ j) 0 = some o := by
      obtain ⟨o, ho, _⟩ := sp_mk (g := d.neg) (V := d.V * 2 ^ j) (k := 20000) (e := 0) (by omega) (by omega) (by omega) (fun _ => by rw [blen_shl h0]; omega)
      exact ⟨o, ho⟩
    have hl : low (d.V * 2 ^ j) = j := by
      have hpos : 0 < d.V * 2 ^ j := Nat.pos_of_ne_zero p0
      obtain ⟨m, hm⟩ := low_spec hpos
      have h1 : 2 ^ low (d.V * 2 ^ j) * (2 * m + 1) = 2 ^ j * (2 * om + 1) := by rw [← hm, hom, Nat.mul_comm]
      have a := pow_odd_unique h1
      have c := pow_odd_unique h1.symm
      omega
    have hdv : d.V * 2 ^ j / 2 ^ j = d.V := Nat.mul_div_cancel _ (Nat.two_pow_pos _)
    obtain ⟨f1, f2, f3⟩ := toldD_fine ho
    have e0 : held 0 = 0 := by decide
    rw [hl, hdv] at f2 f3
    obtain ⟨g1, g2⟩ := f3 h0
    rw [e0] at g2
    have hX : (⟨o.neg, o.V, o.e + ((blen d.V : Int) + d.e - b)⟩ : Dy) = d := by
      rw [g1, f2, g2]
      have e : (0 + (j : Int) + ((blen d.V : Int) + d.e - b)) = d.e := by omega
      rw [e]
    refine ⟨d.V * 2 ^ j, false, false, false, d.V * 2 ^ j, o, d, ⟨eU, eH, eB, ev _, rfl, ho, by rw [f2]; exact h0, hX.symm⟩, hd.mono (by omega), h0, hc, fun _ => rfl, by omega, fun _ => Int.le_refl _, fun _ => Int.le_refl _, ?_, Or.inr rfl⟩
    rw [Int.sub_self]
    exact hK.out
  · -- r bits are cut
    obtain ⟨r, hr⟩ : ∃ r, blen d.V = b + (r + 1) := ⟨blen d.V - b - 1, by omega⟩
    have hE : (b : Int) - blen d.V = -((r : Int) + 1) := by omega
    have hu : (blen d.V : Int) + d.e - b = d.e + ((r + 1 : Nat) : Int) := by omega
    have hn1 : ¬ ((0 : Int) ≤ -((r : Int) + 1)) := by omega
    have ht : (0 - -((r : Int) + 1) - 1).toNat = r := by omega
    have eU : rU d.V ((b : Int) - blen d.V) 0 = d.V / 2 ^ (r + 1) := by
      unfold rU; rw [hE, if_neg hn1, ht, Nat.div_div_eq_div_mul, Nat.pow_succ]
    obtain ⟨H, hH⟩ : ∃ H, rH d.V ((b : Int) - blen d.V) 0 = H := ⟨_, rfl⟩
    obtain ⟨B, hB⟩ : ∃ B, rB d.V ((b : Int) - blen d.V) 0 = B := ⟨_, rfl⟩
    have eH : decide (d.V / 2 ^ r % 2 = 1) = H := by rw [← hH]; unfold rH; rw [hE, if_neg hn1, ht]
    have eB : decide (d.V % 2 ^ r ≠ 0) = B := by rw [← hB]; unfold rB; rw [hE, if_neg hn1, ht]
    obtain ⟨U, hU⟩ : ∃ U, d.V / 2 ^ (r + 1) = U := ⟨_, rfl⟩
    obtain ⟨R, hR⟩ : ∃ R, d.V % 2 ^ (r + 1) = R := ⟨_, rfl⟩
    obtain ⟨p, hp⟩ : ∃ p, (2 : Nat) ^ (r + 1) = p := ⟨_, rfl⟩
    have pp : 0 < p := by rw [← hp]; exact Nat.two_pow_pos _
    have hdm := Nat.div_add_mod d.V (2 ^ (r + 1))
    rw [hU, hR, hp] at hdm
    have hRlt : R < p := by rw [← hR, hp]; exact Nat.mod_lt _ pp
    have rest : (H || B) = decide (R ≠ 0) := by
      rw [← eH, ← eB, ← hR, Nat.pow_succ]
      have h1 := Nat.mod_mul (x := d.V) (a := 2 ^ r) (b := 2)
      rw [h1]
      have h2 := Nat.two_pow_pos r
      have h3 := Nat.mod_lt d.V h2
      have h4 := Nat.mod_two_eq_zero_or_one (d.V / 2 ^ r)
      generalize 2 ^ r = q at *
      rcases h4 with h4 | h4
      · rw [h4]
        by_cases hz : d.V % q = 0
        · simp [hz]
        · simp [hz]
      · rw [h4]
        have h5 : d.V % q + q * 1 ≠ 0 := by omega
        rw [decide_eq_true h5]; simp
    obtain ⟨v, hv⟩ : ∃ v, awy d.neg dir (decide (U % 2 = 1)) H (B || false) = v := ⟨_, rfl⟩
    have ev : v = ((decide (dir = 2) && !d.neg || decide (dir = 3) && d.neg) && decide (R ≠ 0)) := by
      rw [← hv, ← rest]
      rcases hdir with rfl | rfl <;> (unfold awy; cases d.neg <;> cases H <;> cases B <;> simp)
    have bU : 2 ^ (b - 1) ≤ U := by
      rw [← hU]
      refine (Nat.le_div_iff_mul_le (Nat.two_pow_pos _)).2 ?_
      rw [← Nat.pow_add]
      have h1 : ¬ blen d.V ≤ b - 1 + (r + 1) := by omega
      rw [blen_le_iff] at h1
      omega
    have bU2 : U < 2 ^ b := by
      rw [← hU]
      refine (Nat.div_lt_iff_lt_mul (Nat.two_pow_pos _)).2 ?_
      rw [← Nat.pow_add, ← hr]
      exact lt_blen _
    have hU0 : U ≠ 0 := by have := Nat.two_pow_pos (b - 1); omega
    have vb : v.toNat ≤ 1 := by cases v <;> decide
    obtain ⟨V2, hV2⟩ : ∃ V2, U + v.toNat = V2 := ⟨_, rfl⟩
    have hV20 : V2 ≠ 0 := by omega
    have hb3 : blen V2 ≤ b + 1 := blen_le_iff.2 (by rw [Nat.pow_succ]; omega)
    obtain ⟨o, ho⟩ : ∃ o, mk d.neg V2 0 = some o := by
      obtain ⟨o, ho, _⟩ := sp_mk (g := d.neg) (V := V2) (k := 20000) (e := 0) (by omega) (by omega) (by omega) (fun _ => by omega)
      exact ⟨o, ho⟩
    obtain ⟨hm, oe1, oe0, oV, oV2⟩ := mk_at ho hV20 ((blen d.V : Int) + d.e - b) (by omega) (by omega) (by omega)
    obtain ⟨sX, wX⟩ := sp_made (k := k + 1) hm (by omega) (by omega) (by omega) (fun _ => by omega)
    have hbX : blen o.V ≤ b := by
      by_cases h : V2 < 2 ^ b
      · exact Nat.le_trans (blen_mono oV2) (blen_le_iff.2 h)
      · have e : V2 = 2 ^ b := by omega
        obtain ⟨_, f2, _⟩ := toldD_fine ho
        have hl : low V2 = b := by
          have hpos : 0 < V2 := Nat.pos_of_ne_zero hV20
          obtain ⟨m, hm'⟩ := low_spec hpos
          have h1 : 2 ^ low V2 * (2 * m + 1) = 2 ^ b * (2 * 0 + 1) := by rw [← hm', e]; omega
          have a := pow_odd_unique h1
          have c := pow_odd_unique h1.symm
          omega
        rw [hl, e, Nat.div_self (Nat.two_pow_pos _)] at f2
        rw [f2]
        exact Nat.le_trans (by decide : blen 1 ≤ 1) hb1
    obtain ⟨K, hKe⟩ : ∃ K, sz 1 d.e = K := ⟨_, rfl⟩
    have hKp : 0 < K := by rw [← hKe]; exact sz_pos _ (by decide)
    have hun : sz 1 ((blen d.V : Int) + d.e - b) = p * K := by
      rw [hu, sz_shift (V := 1) (k := r + 1) (e := d.e) (by rw [held_id (by omega) (by omega), held_id (by omega) (by omega)]), hp, Nat.one_mul, sz_of, hKe]
    have hsd : sz d.V d.e = (p * U + R) * K := by rw [sz_of, hKe, hdm]
    have hsX : sz V2 ((blen d.V : Int) + d.e - b) = (p * V2) * K := by rw [sz_of, hun, ← Nat.mul_assoc, Nat.mul_comm V2 p]
    have wd : dwD d = if d.neg then -(((p * U + R) * K : Nat) : Int) else (((p * U + R) * K : Nat) : Int) := by unfold dwD dw; rw [hsd]
    have wX' : dwD ⟨o.neg, o.V, o.e + ((blen d.V : Int) + d.e - b)⟩ = if d.neg then -(((p * V2) * K : Nat) : Int) else (((p * V2) * K : Nat) : Int) := by
      have e : dwD ⟨o.neg, o.V, o.e + ((blen d.V : Int) + d.e - b)⟩ = dw d.neg V2 ((blen d.V : Int) + d.e - b) := wX
      rw [e]; unfold dw; rw [hsX]
    have le1 : ∀ x y : Nat, x ≤ y → x * K ≤ y * K := fun x y h => Nat.mul_le_mul_right K h
    have lt1 : ∀ x y : Nat, x < y → x * K < y * K := fun x y h => Nat.mul_lt_mul_of_pos_right h hKp
    have two : (v = false ∧ V2 = U) ∨ (v = true ∧ R ≠ 0 ∧ V2 = U + 1 ∧ ((dir = 2 ∧ d.neg = false) ∨ (dir = 3 ∧ d.neg = true))) := by
      cases v with
      | false => exact Or.inl ⟨rfl, by rw [← hV2]; rfl⟩
      | true =>
        refine Or.inr ⟨rfl, ?_, by rw [← hV2]; rfl, ?_⟩
        · intro h; rw [h] at ev; simp at ev
        · rcases hdir with rfl | rfl
          · cases hg : d.neg with
            | false => exact Or.inl ⟨rfl, rfl⟩
            | true => rw [hg] at ev; simp at ev
          · cases hg : d.neg with
            | true => exact Or.inr ⟨rfl, rfl⟩
            | false => rw [hg] at ev; simp at ev
    have zero_of : v = false → (R = 0 ∨ (dir = 2 ∧ d.neg = true) ∨ (dir = 3 ∧ d.neg = false)) := fun hf => by
      rw [hf] at ev
      by_cases hR0 : R = 0
      · exact Or.inl hR0
      · rcases hdir with rfl | rfl
        · cases hg : d.neg with
          | false => rw [hg] at ev; simp [hR0] at ev
          | true => exact Or.inr (Or.inl ⟨rfl, rfl⟩)
        · cases hg : d.neg with
          | true => rw [hg] at ev; simp [hR0] at ev
          | false => exact Or.inr (Or.inr ⟨rfl, rfl⟩)
    refine ⟨U, H, B, v, V2, o, _, ⟨by rw [eU, hU], hH, hB, hv, hV2, ho, oV, rfl⟩, sX, oV, hbX, fun h => absurd h hc, by show _ ≤ o.e + _; omega, ?_, ?_, ?_, Or.inl (by omega)⟩
    · intro h2
      rw [wd, wX']
      rcases two with ⟨hvf, e⟩ | ⟨_, hR0, e, hh⟩
      · rcases zero_of hvf with h | ⟨_, hg⟩ | ⟨h3, _⟩
        · rw [e, h, Nat.add_zero]; exact Int.le_refl _
        · rw [e, if_pos hg, if_pos hg]
          have := le1 (p * U) (p * U + R) (by omega)
          omega
        · omega
      · rcases hh with ⟨_, hg⟩ | ⟨h3, _⟩
        · rw [e, hg]
          simp only [Bool.false_eq_true, ↓reduceIte]
          have := le1 (p * U + R) (p * (U + 1)) (by rw [Nat.mul_add, Nat.mul_one]; omega)
          omega
        · omega
    · intro h3
      rw [wd, wX']
      rcases two with ⟨hvf, e⟩ | ⟨_, hR0, e, hh⟩
      · rcases zero_of hvf with h | ⟨h2, _⟩ | ⟨_, hg⟩
        · rw [e, h, Nat.add_zero]; exact Int.le_refl _
        · omega
        · rw [e, hg]
          simp only [Bool.false_eq_true, ↓reduceIte]
          have := le1 (p * U) (p * U + R) (by omega)
          omega
      · rcases hh with ⟨h2, _⟩ | ⟨_, hg⟩
        · omega
        · rw [e, if_pos hg, if_pos hg]
          have := le1 (p * U + R) (p * (U + 1)) (by rw [Nat.mul_add, Nat.mul_one]; omega)
          omega
    · rw [wd, wX', hun]
      have a1 := Nat.add_mul (p * U) R K
      rcases two with ⟨_, e⟩ | ⟨_, hR0, e, _⟩
      · rw [e]
        have := lt1 R p hRlt
        cases d.neg
        · simp only [Bool.false_eq_true, ↓reduceIte]; omega
        · simp only [↓reduceIte]; omega
      · rw [e]
        have e2 : p * (U + 1) * K = p * U * K + p * K := by rw [Nat.mul_add, Nat.mul_one, Nat.add_mul]
        have h1 := lt1 R p hRlt
        have h2 := lt1 0 R (by omega)
        cases d.neg
        · simp only [Bool.false_eq_true, ↓reduceIte]; omega
        · simp only [↓reduceIte]; omega
end Go.Proofs.YtnkbdjbcfkflpaaDoor
