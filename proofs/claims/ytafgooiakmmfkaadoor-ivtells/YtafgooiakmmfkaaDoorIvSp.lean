/- Bare dyads whose bits lie between 2^-k and 2^k: their sums, products and parts; whole numbers alone. -/
import Derived.Test.YtafgooiakmmfkaaDoorK2
import Derived.Test.YtafgooiakmmfkaaDoorIvMath
namespace Go.Proofs.YtafgooiakmmfkaaDoor

theorem mk_bareI {g : Bool} {V : Nat} {e : Int} {d : Dy} (h : mk g V e = some d) : mk d.neg d.V d.e = some d := by
  have hf := (mk_fine h).1
  have hO : Odd d := by rw [← mk_is h]; exact nO_odd g V e
  have hs : nO d.neg d.V d.e = d := nO_self hO (by have := hf.1; omega) (by have := hf.2.1; omega)
  rw [mk_nO, hs]
  obtain ⟨n, V, e⟩ := d
  unfold toldD
  by_cases h0 : V = 0
  · obtain ⟨h1, h2⟩ := hf.2.2 h0
    simp only at h1 h2 h0 ⊢
    rw [if_pos h0, h1, h2, h0]
  · have h1 : -1073741824 ≤ e := hf.1
    have h2 : e ≤ 1073741824 := hf.2.1
    simp only
    rw [if_neg h0, if_neg (by omega)]
/-- One in units of a worth. -/
noncomputable def uK : Nat := Classical.choose (⟨2 ^ sh 0, rfl⟩ : ∃ k : Nat, k = 2 ^ sh 0)
theorem uK_eq : uK = 2 ^ sh 0 := Classical.choose_spec (⟨2 ^ sh 0, rfl⟩ : ∃ k : Nat, k = 2 ^ sh 0)
theorem pow_posI (n : Nat) : (0 : Int) < ((2 ^ n : Nat) : Int) := Int.natCast_pos.2 (Nat.two_pow_pos n)
theorem uK_pos : (0 : Int) < (uK : Int) := by rw [uK_eq]; exact pow_posI _
def Sp (k : Nat) (d : Dy) : Prop := mk d.neg d.V d.e = some d ∧ -(k : Int) ≤ d.e ∧ (blen d.V : Int) + d.e ≤ k
theorem Sp.fine {k : Nat} {d : Dy} (h : Sp k d) : Fine d := (mk_fine h.1).1
theorem Sp.mono {k j : Nat} {d : Dy} (h : Sp k d) (hj : k ≤ j) : Sp j d := ⟨h.1, by have := h.2.1; omega, by have := h.2.2; omega⟩
theorem blen_nought : blen 0 = 0 := by decide
theorem sp_made {g : Bool} {V k : Nat} {e : Int} {d : Dy} (h : mk g V e = some d) (hk : k ≤ 100000) (h1 : -(k : Int) ≤ e) (h2 : e ≤ k) (h3 : V ≠ 0 → (blen V : Int) + e ≤ k) : Sp k d ∧ dw d.neg d.V d.e = dw g V e := by
  obtain ⟨f1, f2, f3, _⟩ := mk_fine h
  refine ⟨⟨mk_bareI h, ?_⟩, f2⟩
  obtain ⟨_, t2, t3⟩ := toldD_fine h
  by_cases h0 : V = 0
  · have hd := f3.2 h0
    have he := (f1.2.2 hd).2
    rw [hd, he, blen_nought]
    omega
  · have hd : d.V ≠ 0 := fun h => h0 (f3.1 h)
    have he := (t3 (by rw [← t2]; exact hd)).2
    rw [held_id (by omega) (by omega)] at he
    have hp := odd_part V
    rw [← t2] at hp
    have hb := blen_shl (x := d.V) (n := low V) hd
    rw [hp] at hb
    have := h3 h0
    omega
theorem sp_mk {g : Bool} {V k : Nat} {e : Int} (hk : k ≤ 100000) (h1 : -(k : Int) ≤ e) (h2 : e ≤ k) (h3 : V ≠ 0 → (blen V : Int) + e ≤ k) : ∃ d, mk g V e = some d ∧ Sp k d ∧ dw d.neg d.V d.e = dw g V e := by
  have hs : ∃ d, mk g V e = some d := by
    unfold mk toldD
    rw [held_id (by omega) (by omega)]
    split
    · exact ⟨_, rfl⟩
    · rename_i h0
      have := low_le_blen V
      have := h3 fun hv => h0 (by rw [hv]; simp)
      rw [if_neg (by omega)]
      exact ⟨_, rfl⟩
  obtain ⟨d, hd⟩ := hs
  exact ⟨d, hd, sp_made hd hk h1 h2 h3⟩
theorem sp_neg {k : Nat} {d : Dy} (h : Sp k d) (hk : k ≤ 100000) : ∃ b, mk (!d.neg) d.V d.e = some b ∧ Sp k b ∧ dw b.neg b.V b.e = -dw d.neg d.V d.e := by
  have h1 := h.2.1
  have h2 := h.2.2
  obtain ⟨b, hb, hs, hw⟩ := sp_mk (g := !d.neg) (V := d.V) (k := k) (e := d.e) hk h1 (by omega) (fun _ => h2)
  exact ⟨b, hb, hs, by rw [hw, dw_neg]⟩
theorem sp_add {k : Nat} {a b : Dy} (ha : Sp k a) (hb : Sp k b) (hk : k ≤ 30000) : ∃ d, addO (mk a.neg a.V a.e) (mk b.neg b.V b.e) = some d ∧ Sp (k + 1) d ∧ dw d.neg d.V d.e = dw a.neg a.V a.e + dw b.neg b.V b.e := by
  have key : ∀ d, addB a b = some d → Sp (k + 1) d → ∃ d, addO (mk a.neg a.V a.e) (mk b.neg b.V b.e) = some d ∧ Sp (k + 1) d ∧ dw d.neg d.V d.e = dw a.neg a.V a.e + dw b.neg b.V b.e := fun d h1 h2 =>
    ⟨d, by rw [ha.1, hb.1]; exact h1, h2, (addB_fine ha.fine hb.fine h1).2⟩
  by_cases ha0 : a.V = 0
  · have e : addB a b = some b := by unfold addB; rw [if_pos ha0]
    exact key b e (hb.mono (by omega))
  by_cases hb0 : b.V = 0
  · have e : addB a b = some a := by unfold addB; rw [if_neg ha0, if_pos hb0]
    exact key a e (ha.mono (by omega))
  have a1 := ha.2.1
  have a2 := ha.2.2
  have b1 := hb.2.1
  have b2 := hb.2.2
  have pa := blen_pos ha0
  have pb := blen_pos hb0
  obtain ⟨l, hl⟩ : ∃ l, min a.e b.e = l := ⟨_, rfl⟩
  have hx : (blen (a.V * 2 ^ (a.e - l).toNat) : Int) + l ≤ k := by rw [blen_shl ha0]; omega
  have hy : (blen (b.V * 2 ^ (b.e - l).toNat) : Int) + l ≤ k := by rw [blen_shl hb0]; omega
  obtain ⟨x, ex⟩ : ∃ x, a.V * 2 ^ (a.e - l).toNat = x := ⟨_, rfl⟩
  obtain ⟨y, ey⟩ : ∃ y, b.V * 2 ^ (b.e - l).toNat = y := ⟨_, rfl⟩
  have hfar : ¬ 65535 < max ((blen a.V : Int) - 1 + a.e) ((blen b.V : Int) - 1 + b.e) - l := by omega
  have e : addB a b = if a.neg = b.neg then mk a.neg (x + y) l else if x < y then mk b.neg (y - x) l else mk a.neg (x - y) l := by
    unfold addB
    rw [if_neg ha0, if_neg hb0, hl, ex, ey, if_neg hfar]
  rw [ex] at hx
  rw [ey] at hy
  have hxy : (blen (x + y) : Int) + l ≤ k + 1 := by
    obtain ⟨K, hK⟩ : ∃ K : Nat, (K : Int) = k - l := ⟨((k : Int) - l).toNat, by omega⟩
    have h1 := blen_le_iff.1 (show blen x ≤ K by omega)
    have h2 := blen_le_iff.1 (show blen y ≤ K by omega)
    have h3 : (2 : Nat) ^ K * 2 = 2 ^ (K + 1) := (Nat.pow_succ ..).symm
    have := blen_le_iff.2 (show x + y < 2 ^ (K + 1) by omega)
    omega
  have some_of : ∀ g z, z ≤ x + y → ∃ d, mk g z l = some d ∧ Sp (k + 1) d := fun g z hz => by
    have h4 := blen_mono hz
    obtain ⟨d, hd, hs, _⟩ := sp_mk (g := g) (V := z) (k := k + 1) (e := l) (by omega) (by omega) (by omega) (fun _ => by omega)
    exact ⟨d, hd, hs⟩
  split at e
  · obtain ⟨d, hd, h1⟩ := some_of a.neg (x + y) (Nat.le_refl _)
    exact key d (e.trans hd) h1
  · split at e
    · obtain ⟨d, hd, h1⟩ := some_of b.neg (y - x) (by omega)
      exact key d (e.trans hd) h1
    · obtain ⟨d, hd, h1⟩ := some_of a.neg (x - y) (by omega)
      exact key d (e.trans hd) h1
theorem sp_mul {k j : Nat} {a b : Dy} (ha : Sp k a) (hb : Sp j b) (hk : k + j ≤ 30000) : ∃ d, mulO (mk a.neg a.V a.e) (mk b.neg b.V b.e) = some d ∧ Sp (k + j) d ∧ dw d.neg d.V d.e * (uK : Int) = dw a.neg a.V a.e * dw b.neg b.V b.e := by
  have a1 := ha.2.1
  have a2 := ha.2.2
  have b1 := hb.2.1
  have b2 := hb.2.2
  have hm := blen_mul_le a.V b.V
  have e : mulB a b = toldD (a.neg != b.neg) (a.V * b.V) (a.e + b.e) := by
    unfold mulB
    rw [if_neg (by omega)]
  have ho : mulO (mk a.neg a.V a.e) (mk b.neg b.V b.e) = toldD (a.neg != b.neg) (a.V * b.V) (a.e + b.e) := by rw [ha.1, hb.1]; exact e
  have hs : ∃ d, toldD (a.neg != b.neg) (a.V * b.V) (a.e + b.e) = some d := by
    unfold toldD
    split
    · exact ⟨_, rfl⟩
    · rw [if_neg (by omega)]; exact ⟨_, rfl⟩
  obtain ⟨d, hd⟩ := hs
  obtain ⟨f1, f2⟩ := mulB_fine ha.fine hb.fine (e.trans hd)
  obtain ⟨t1, t2, t3⟩ := toldD_fine hd
  refine ⟨d, ho.trans hd, ⟨?_, ?_⟩, by rw [uK_eq]; exact f2⟩
  · by_cases h0 : a.V * b.V = 0
    · have h1 : d.V = 0 := t2.trans h0
      obtain ⟨h2, h3⟩ := t1.2.2 h1
      obtain ⟨n, V, e⟩ := d
      dsimp only at h1 h2 h3
      subst h1 h2 h3
      rfl
    · have oa : Odd a := by rw [← mk_is ha.1]; exact nO_odd a.neg a.V a.e
      have ob : Odd b := by rw [← mk_is hb.1]; exact nO_odd b.neg b.V b.e
      obtain ⟨m, hm'⟩ := oa.resolve_right (fun h => h0 (by rw [h]; simp))
      obtain ⟨q, hq⟩ := ob.resolve_right (fun h => h0 (by rw [h]; simp))
      have od : Odd d := Or.inl ⟨m * (2 * q + 1) + q, by rw [t2, hm', hq, Nat.add_mul, Nat.one_mul, Nat.mul_assoc]; omega⟩
      have hs : nO d.neg d.V d.e = d := nO_self od (by have := t1.1; omega) (by have := t1.2.1; omega)
      rw [mk_nO, hs]
      have hd0 : d.V ≠ 0 := by rw [t2]; exact h0
      have h1 := t1.1
      have h2 := t1.2.1
      unfold toldD
      rw [if_neg hd0, if_neg (by omega)]
  · by_cases h0 : a.V * b.V = 0
    · have h1 : d.V = 0 := t2.trans h0
      have h3 := (t1.2.2 h1).2
      rw [h1, h3, blen_nought]
      omega
    · rw [(t3 h0).2, t2]
      omega
/-- By a power of two. -/
theorem sp_scale {k : Nat} {d : Dy} (h : Sp k d) (hk : k ≤ 30000) (h0 : d.V ≠ 0) : Sp (k + 8) ⟨d.neg, d.V, d.e + -8⟩ ∧ dw d.neg d.V (d.e + -8) * 256 = dw d.neg d.V d.e := by
  have h1 := h.2.1
  have h2 := h.2.2
  have od : Odd d := by rw [← mk_is h.1]; exact nO_odd d.neg d.V d.e
  obtain ⟨m, hm⟩ := od.resolve_right (fun h => h0 (by rw [h]))
  have od' : Odd ⟨d.neg, d.V, d.e + -8⟩ := Or.inl ⟨m, hm⟩
  have pb := blen_pos h0
  have hs : nO d.neg d.V (d.e + -8) = ⟨d.neg, d.V, d.e + -8⟩ := nO_self od' (by show _ ≤ d.e + -8; omega) (by show d.e + -8 ≤ _; omega)
  refine ⟨⟨?_, by show _ ≤ d.e + -8; omega, by show (blen d.V : Int) + (d.e + -8) ≤ _; omega⟩, ?_⟩
  · rw [mk_nO, hs]
    unfold toldD
    rw [if_neg h0, if_neg (by show ¬ (d.e + -8 < _ ∨ _ < d.e + -8); omega)]
  · have e := dw_shift (V := d.V) (k := 8) (e := d.e + -8) (f := d.e) d.neg (by rw [held_id (by omega) (by omega), held_id (by omega) (by omega)]; omega)
    rw [e]
    have e3 : ∀ n, d.V * 2 ^ 8 * n = d.V * n * 256 := fun n => Nat.mul_right_comm _ _ _
    have e2 : sz (d.V * 2 ^ 8) (d.e + -8) = sz d.V (d.e + -8) * 256 := e3 _
    have e4 : ∀ V f, dw d.neg V f = if d.neg then -(sz V f : Int) else (sz V f : Int) := fun _ _ => rfl
    rw [e4, e4, e2, Int.natCast_mul]
    cases d.neg
    · simp
    · simp only [↓reduceIte]; omega
theorem sp_len {k : Nat} {d : Dy} (h : Sp k d) {xs : List Nat} (hw : Words xs) (hb : Bare xs) (hv : val xs = d.V) {L : Nat} (hL : 2 * k ≤ 64 * L) : xs.length ≤ L := by
  have h1 := h.2.1
  have h2 := h.2.2
  rw [← hv] at h2
  exact len_of_blen hw hb (b := 2 * k) (by omega) hL
theorem sp_near {g : Bool} {V : Nat} {e : Int} (hV : blen V ≤ 640) (h1 : -3000 ≤ e) (h2 : e ≤ 3000) : ∃ d, mk g V e = some d ∧ Sp 3640 d ∧ dw d.neg d.V d.e = dw g V e :=
  sp_mk (by omega) (by omega) (by omega) (fun _ => by omega)
theorem dw_plus (V : Nat) (e : Int) : dw false V e = (V : Int) * ((2 ^ sh e : Nat) : Int) := by
  show ((V * 2 ^ sh e : Nat) : Int) = _
  rw [Int.natCast_mul]
theorem dw_less1 (V : Nat) (e : Int) : dw true V e = -((V : Int) * ((2 ^ sh e : Nat) : Int)) := by
  show -((V * 2 ^ sh e : Nat) : Int) = _
  rw [Int.natCast_mul]
theorem dw_whole (u : Nat) : dw false u 0 = (u : Int) * (uK : Int) := by rw [uK_eq]; exact dw_plus u 0
theorem dw_wholeN (u : Nat) : dw true u 0 = -((u : Int) * (uK : Int)) := by rw [uK_eq]; exact dw_less1 u 0
/-- The four products' ends. -/
theorem ends_of {K a b c d p q r s : Int} (hK : 0 < K) (h1 : p * K = a * c) (h2 : q * K = a * d) (h3 : r * K = b * c) (h4 : s * K = b * d) :
    min (min p q) (min r s) * K = lo4 a b c d ∧ max (max p q) (max r s) * K = hi4 a b c d := by
  have mn : ∀ x y : Int, min x y * K = min (x * K) (y * K) := fun x y => by
    rcases Int.le_total x y with h | h
    · have := Int.mul_le_mul_of_nonneg_right h (Int.le_of_lt hK)
      rw [Int.min_eq_left h, Int.min_eq_left this]
    · have := Int.mul_le_mul_of_nonneg_right h (Int.le_of_lt hK)
      rw [Int.min_eq_right h, Int.min_eq_right this]
  have mx : ∀ x y : Int, max x y * K = max (x * K) (y * K) := fun x y => by
    rcases Int.le_total x y with h | h
    · have := Int.mul_le_mul_of_nonneg_right h (Int.le_of_lt hK)
      rw [Int.max_eq_right h, Int.max_eq_right this]
    · have := Int.mul_le_mul_of_nonneg_right h (Int.le_of_lt hK)
      rw [Int.max_eq_left h, Int.max_eq_left this]
  unfold lo4 hi4
  rw [mn, mn, mn, mx, mx, mx, h1, h2, h3, h4]
  exact ⟨rfl, rfl⟩
theorem le_of_K {K x y : Int} (hK : 0 < K) : x ≤ y ↔ x * K ≤ y * K := ⟨fun h => Int.mul_le_mul_of_nonneg_right h (Int.le_of_lt hK), fun h => Int.le_of_mul_le_mul_right h hK⟩
/-- A number of an interval, by 256ths of its width. -/
theorem inner_in {lo hi x : Int} {u : Nat} (h : lo ≤ hi) (hu : u ≤ 255) (hx : x * 256 = lo * 256 + (hi - lo) * (u : Int)) : lo ≤ x ∧ x ≤ hi := by
  have h1 : 0 ≤ (hi - lo) * (u : Int) := Int.mul_nonneg (by omega) (by omega)
  have h2 : (hi - lo) * (u : Int) ≤ (hi - lo) * 255 := Int.mul_le_mul_of_nonneg_left (by omega) (by omega)
  omega
theorem inner_up {lo hi x y : Int} {u v : Nat} (h : lo ≤ hi) (hu : u ≤ v) (hx : x * 256 = lo * 256 + (hi - lo) * (u : Int)) (hy : y * 256 = lo * 256 + (hi - lo) * (v : Int)) : x ≤ y := by
  have h2 : (hi - lo) * (u : Int) ≤ (hi - lo) * (v : Int) := Int.mul_le_mul_of_nonneg_left (by omega) (by omega)
  omega
end Go.Proofs.YtafgooiakmmfkaaDoor
