/- LgMath, LgUn, LgLog, LgDoc, LgRight, LgRefW, LgAt, LgNear, LgPart, LgSum, LgHeld, LgLogW, RtOf, LgAlive, LgLaw, LgTwo, LgHolds: joined. -/
import Derived.Test.YtijhdlkfihjbiaaGreatDoorK4
import Derived.Test.YtijhdlkfihjbiaaGreatDoorK2
import Derived.Test.YtijhdlkfihjbiaaGreatDoorK3
import Derived.Test.YtijhdlkfihjbiaaGreatDoorK1
import Derived.Test.YtijhdlkfihjbiaaGreatDoorK5
/- What layer 13 reckons: a number as a fraction near 1, times a power of two; sums of two logarithms; where they are. Numbers alone. -/
namespace Go.Proofs.YtijhdlkfihjbiaaGreatDoor

theorem rat_inv_pos {Z : Rat} (h : 0 < Z) : ∃ i : Rat, 0 < i ∧ i * Z = 1 := by
  have e : 1 / Z * Z = 1 := Rat.div_mul_cancel (Rat.ne_of_gt h)
  refine ⟨1 / Z, ?_, e⟩
  refine Classical.byContradiction fun h9 => ?_
  have h8 : 1 / Z ≤ 0 := by grind
  have := rmul_le h8 (Rat.le_of_lt h)
  grind
theorem rat_eq_of {a b c : Rat} (hc : 0 < c) (h : c * a = c * b) : a = b :=
  Rat.le_antisymm (rcancel (c := c) (by grind) hc) (rcancel (c := c) (by grind) hc)
/-- Both ends of ln 2. -/
theorem two_ends {s lo hi : Nat} (h : Ln2B s lo hi) {a b : Rat} (ha : a * ((2 ^ s : Nat) : Rat) = (lo : Rat)) (hb : b * ((2 ^ s : Nat) : Rat) = (hi : Rat)) : LnGe 2 a ∧ LnLe 2 b := by
  obtain ⟨r, hr⟩ : ∃ x : Rat, 3 * x = 1 := ⟨1 / 3, by grind⟩
  obtain ⟨⟨c, h1⟩, h2⟩ := h r hr
  have p0 := rnat_pos (Nat.two_pow_pos s)
  generalize ((2 ^ s : Nat) : Rat) = P at *
  have r0 : 0 ≤ r := by grind
  have r1 : 3 * r ≤ 1 := by grind
  have hq : (1 - r) * 2 = 1 + r := by grind
  constructor
  · refine LnGe.less (by grind) (ln_at_ge r0 r1 hq c) (rcancel (c := P) ?_ p0)
    grind
  · refine ln_at_le r0 r1 hq (fun M => rcancel (c := P) ?_ p0)
    have := h2 M
    grind

/-- A power of two. -/
noncomputable def tw (E : Int) : Rat := rat false 1 E
theorem tw_pos (E : Int) : 0 < tw E := rat_pos (by decide)
theorem tw_zero : tw 0 = 1 := by
  have := rat_whole 1
  have e : ((1 : Nat) : Rat) = 1 := by exact_mod_cast rfl
  rw [e] at this
  exact this
theorem tw_up {E F : Int} {k : Nat} (h1 : -1073741824 ≤ E) (h2 : F ≤ 1073741824) (h : F = E + k) : tw F = tw E * 2 ^ k :=
  rat_up 1 (by rw [held_id (by omega) (by omega), held_id (by omega) (by omega)]; exact h)
theorem tw_times (V : Nat) (e : Int) : rat false V e = (V : Rat) * tw e := by
  have a := rat_key false V e
  have b := rat_key false 1 e
  have u := ub_pos
  have h : dw false V e = (V : Int) * dw false 1 e := by
    show ((V * 2 ^ sh e : Nat) : Int) = (V : Int) * ((1 * 2 ^ sh e : Nat) : Int)
    rw [Nat.one_mul, Int.natCast_mul]
  have h' : ((dw false V e : Int) : Rat) = (V : Rat) * ((dw false 1 e : Int) : Rat) := by
    rw [h]
    exact_mod_cast rfl
  refine rat_eq_of u ?_
  have e1 : (ub : Rat) * rat false V e = rat false V e * ub := by grind
  have e2 : (ub : Rat) * ((V : Rat) * tw e) = (V : Rat) * (rat false 1 e * ub) := by unfold tw; grind
  rw [e1, a, e2, b]
  exact h'
theorem tw_ends {E : Int} (h1 : -1073741824 ≤ E) (h2 : E ≤ 1073741824) {t u : Rat} (ht : LnGe 2 t) (hu : LnLe 2 u) :
    LnGe (tw E) (if 0 ≤ E then (E : Rat) * t else (E : Rat) * u) ∧ LnLe (tw E) (if 0 ≤ E then (E : Rat) * u else (E : Rat) * t) := by
  by_cases h : 0 ≤ E
  · rw [if_pos h, if_pos h]
    obtain ⟨k, rfl⟩ := Int.eq_ofNat_of_zero_le h
    have e := tw_up (E := 0) (F := (k : Int)) (k := k) (by decide) h2 (by omega)
    rw [tw_zero] at e
    have e1 : (1 : Rat) * 2 ^ k = 2 ^ k := by grind
    have e2 : (((k : Nat) : Int) : Rat) = (k : Rat) := by exact_mod_cast rfl
    rw [e, e1, e2]
    exact ⟨LnGe.pow (by grind) ht k, LnLe.pow (by grind) hu k⟩
  · rw [if_neg h, if_neg h]
    obtain ⟨k, hk⟩ : ∃ k : Nat, -E = (k : Int) := ⟨(-E).toNat, by omega⟩
    have e := tw_up (E := E) (F := 0) (k := k) h1 (by decide) (by omega)
    rw [tw_zero] at e
    have e2 : (E : Rat) = -(k : Rat) := by
      have : E = -(k : Int) := by omega
      rw [this]
      exact_mod_cast rfl
    have p : 2 ^ k * tw E = 1 := by grind
    have w0 := Rat.le_of_lt (tw_pos E)
    have a1 := (LnLe.pow (by grind) hu k).inv w0 p
    have b1 := (LnGe.pow (by grind) ht k).inv w0 p
    have e3 : (E : Rat) * u = -((k : Rat) * u) := by rw [e2]; grind
    have e4 : (E : Rat) * t = -((k : Rat) * t) := by rw [e2]; grind
    rw [e3, e4]
    exact ⟨a1, b1⟩

end Go.Proofs.YtijhdlkfihjbiaaGreatDoor
/- Whole numbers of 2^-s as dyads: their sums, their order, how long they are. Numbers alone. -/
namespace Go.Proofs.YtijhdlkfihjbiaaGreatDoor

/-- 2^-s, in the units of a worth (never reckoned). -/
noncomputable def us (s : Nat) : Nat := Classical.choose (⟨2 ^ sh (-(s : Int)), rfl⟩ : ∃ k : Nat, k = 2 ^ sh (-(s : Int)))
theorem us_eq (s : Nat) : us s = 2 ^ sh (-(s : Int)) := Classical.choose_spec (⟨2 ^ sh (-(s : Int)), rfl⟩ : ∃ k : Nat, k = 2 ^ sh (-(s : Int)))
theorem us_pos (s : Nat) : 0 < us s := by rw [us_eq]; exact Nat.two_pow_pos _
theorem us_ub {s : Nat} (hs : s ≤ 9000) : us s * 2 ^ s = ub := by
  rw [us_eq, ub_eq, ← Nat.pow_add]
  congr 1
  have h1 := sh_held 0
  have h2 := sh_held (-(s : Int))
  rw [held_id (by omega) (by omega)] at h1 h2
  omega
/-- L parts of 2^-s. -/
def Un (s : Nat) (L : Int) (d : Dy) : Prop := Fine d ∧ (d.V = 0 ∨ -(s : Int) ≤ d.e) ∧ dw d.neg d.V d.e = L * (us s : Int)
theorem dw_us (g : Bool) (V s : Nat) : dw g V (-(s : Int)) = (if g then -(V : Int) else (V : Int)) * (us s : Int) := by
  rw [us_eq]
  cases g
  · show ((V * 2 ^ sh (-(s : Int)) : Nat) : Int) = (V : Int) * _
    rw [Int.natCast_mul]
  · show -((V * 2 ^ sh (-(s : Int)) : Nat) : Int) = -(V : Int) * _
    rw [Int.natCast_mul, Int.neg_mul]
theorem mk_low {g : Bool} {V : Nat} {e : Int} {d : Dy} (h : mk g V e = some d) (h1 : -1073741824 ≤ e) (h2 : e ≤ 1073741824) : d.V = 0 ∨ e ≤ d.e := by
  obtain ⟨_, k2, k3⟩ := toldD_fine h
  by_cases h0 : d.V = 0
  · exact Or.inl h0
  · have := (k3 (by rw [← k2]; exact h0)).2
    rw [held_id h1 h2] at this
    exact Or.inr (by omega)
theorem un_sz {s : Nat} {L : Int} {d : Dy} (h : Un s L d) : sz d.V d.e = L.natAbs * us s := by
  have h1 := congrArg Int.natAbs h.2.2
  rw [Int.natAbs_mul, Int.natAbs_natCast] at h1
  rw [← h1]
  unfold dw
  cases d.neg
  · exact (Int.natAbs_natCast _).symm
  · show _ = (-(sz d.V d.e : Int)).natAbs
    rw [Int.natAbs_neg]
    exact (Int.natAbs_natCast _).symm
theorem cmpI_mul {x y : Int} {p : Nat} (hp : 0 < p) : cmpI (x * (p : Int)) (y * (p : Int)) = cmpI x y := by
  have hp' : (0 : Int) < (p : Int) := by omega
  rcases Int.lt_trichotomy x y with h | h | h
  · rw [cmpI_lt h, cmpI_lt (Int.mul_lt_mul_of_pos_right h hp')]
  · rw [h, cmpI_eq rfl, cmpI_eq rfl]
  · rw [cmpI_gt h, cmpI_gt (Int.mul_lt_mul_of_pos_right h hp')]
theorem un_neg {s : Nat} {L : Int} {d b : Dy} (h : Un s L d) (hb : mk (!d.neg) d.V d.e = some b) : Un s (-L) b := by
  obtain ⟨k1, k2, k3, _⟩ := mk_fine hb
  refine ⟨k1, ?_, by rw [k2, dw_neg, h.2.2, Int.neg_mul]⟩
  rcases h.2.1 with h0 | h0
  · exact Or.inl (k3.2 h0)
  · rcases mk_low hb h.1.1 h.1.2.1 with h1 | h1
    · exact Or.inl h1
    · exact Or.inr (by omega)
theorem un_made {s : Nat} {L : Int} {d b : Dy} (h : Un s L d) (hb : mk d.neg d.V d.e = some b) : Un s L b := by
  obtain ⟨k1, k2, k3, _⟩ := mk_fine hb
  refine ⟨k1, ?_, by rw [k2, h.2.2]⟩
  rcases h.2.1 with h0 | h0
  · exact Or.inl (k3.2 h0)
  · rcases mk_low hb h.1.1 h.1.2.1 with h1 | h1
    · exact Or.inl h1
    · exact Or.inr (by omega)
theorem mk_some {g : Bool} {V : Nat} {e : Int} (h1 : -1073741824 ≤ e) (h2 : e ≤ 1073741824) (h : V ≠ 0 → (blen V : Int) + e ≤ 1073741824) : ∃ d, mk g V e = some d := by
  unfold mk toldD
  rw [held_id h1 h2]
  split
  · exact ⟨_, rfl⟩
  · rename_i h0
    have := low_le_blen V
    have := h fun hv => h0 (by rw [hv]; simp)
    rw [if_neg (by omega)]
    exact ⟨_, rfl⟩
/-- A dyad of one limb. -/
theorem un_one (s n : Nat) : dw false n (-(s : Int)) = (n : Int) * (us s : Int) := by rw [dw_us]; rfl
end Go.Proofs.YtijhdlkfihjbiaaGreatDoor
/- What Log tells, as whole numbers of 2^-s: an interval in which the logarithm is, how wide, how far. Numbers alone. -/
namespace Go.Proofs.YtijhdlkfihjbiaaGreatDoor

theorem parts_ex (s : Nat) (L : Int) : ∃ a : Rat, a * ((2 ^ s : Nat) : Rat) = (L : Rat) := by
  obtain ⟨i, i0, h⟩ := rat_inv_pos (rnat_pos (Nat.two_pow_pos s))
  refine ⟨(L : Rat) * i, ?_⟩
  have : (L : Rat) * i * ((2 ^ s : Nat) : Rat) = (L : Rat) * (i * ((2 ^ s : Nat) : Rat)) := by grind
  rw [this, h]
  grind
/-- What one end of atanh comes to is told by what goes in. -/
theorem atv_uniq {g : Bool} {X Y s a b : Nat} (h1 : AtV g X Y s a) (h2 : AtV g X Y s b) : a = b := by
  obtain ⟨c, _, c1, c2, ha⟩ := h1
  obtain ⟨d, _, d1, d2, hb⟩ := h2
  have e : c = d := by
    rcases Nat.lt_trichotomy c d with h | h | h
    · have := d2 c h; omega
    · exact h
    · have := c2 d h; omega
  subst e
  rw [ha, hb]
end Go.Proofs.YtijhdlkfihjbiaaGreatDoor
/- What Log tells against the document's own logarithm, 80 bits further: numbers alone. -/
namespace Go.Proofs.YtijhdlkfihjbiaaGreatDoor

end Go.Proofs.YtijhdlkfihjbiaaGreatDoor
/- The walk of planimeterref13.Right: of which numbers the document tells a logarithm (written by law_lright.py). -/
namespace Go.Proofs.YtijhdlkfihjbiaaGreatDoor
open Go.RowKit

theorem lfits_no (g : Bool) (A : Option Addr) (n c : Nat) (e0 : Int) (w : World) (h : e0 < -1073741824 ∨ 1073741824 < e0) :
    Calls Tryz.prog 54 #[.agg #[.bool g, .slice A n c, .int .i64 e0]] w fun e w' => e = .returned (.bool false) ∧ Below w.heap.size w w' := by
  have H1 := Lib.hid (below1 w (.cells #[.bool g, .slice A n c, .int .i64 e0] 28))
  rcases h with h | h
  · have b1 : decide (-1073741824 ≤ e0) = false := decide_eq_false (by omega)
    clear h
    go_enter Tryz.func54, Tryz.ntmps54
    go_wp2
    go_ret
    exact ⟨rfl, H1.out⟩
  · have b1 : decide (-1073741824 ≤ e0) = true := decide_eq_true (by omega)
    have b2 : decide (e0 ≤ 1073741824) = false := decide_eq_false (by omega)
    clear h
    go_enter Tryz.func54, Tryz.ntmps54
    go_wp2
    go_ret
    exact ⟨rfl, H1.out⟩

theorem lrbits (b : Nat) (A : Option Addr) (n c : Nat) (ds : List Nat) (w : World) (h : Dig w A n c ds) (hb : D.Bare ds) (hn : n ≤ 1000000) (hv : Hid (blen (D.val ds) = b)) :
    Calls Tryz.prog 26 #[.slice A n c] w fun e w' => e = .returned (.int .i64 (b : Int)) ∧ w = w' := by
  rw [← hv.out]; exact rbits_any A n c ds w h hb hn
/-- May its logarithm be asked? -/
def RightP (g : Bool) (V : Nat) (e : Int) : Prop := (-1073741824 ≤ e ∧ e ≤ 1073741824) ∧ g = false ∧ V ≠ 0 ∧ blen V ≤ 4000 ∧ -1048576 ≤ (blen V : Int) - 1 + e ∧ (blen V : Int) - 1 + e ≤ 1048576
instance (g : Bool) (V : Nat) (e : Int) : Decidable (RightP g V e) := by unfold RightP; infer_instance
/-- A number of the document in its box, its digits. -/
def HoldN3 (w : World) (p : Nat) (g : Bool) (A : Option Addr) (n c : Nat) (ds : List Nat) (e0 : Int) (u : World) : Prop :=
  Bd u p 28 g A n c e0 ∧ Dig u A n c ds ∧ Below w.heap.size w u
section
variable {w : World} {p : Nat} {g : Bool} {A : Option Addr} {n c : Nat} {ds : List Nat} {e0 : Int} {u u' : World}
theorem HoldN3.below (h : HoldN3 w p g A n c ds e0 u) (hb : Below u.heap.size u u') : HoldN3 w p g A n c ds e0 u' :=
  ⟨h.1.below hb, h.2.1.below hb, h.2.2.trans (hb.mono h.2.2.size)⟩
theorem HoldN3.dig (h : HoldN3 w p g A n c ds e0 u) : Dig u A n c ds := h.2.1
theorem HoldN3.all (h : HoldN3 w p g A n c ds e0 u) : Below w.heap.size w u := h.2.2
theorem HoldN3.start (hA : Dig w A n c ds) : HoldN3 w w.heap.size g A n c ds e0 (w.alloc (.cells #[.bool g, .slice A n c, .int .i64 e0] 28)) :=
  ⟨Bd.new _ _ _ _ _ _ _, hA.alloc _, below1 _ _⟩
end








end Go.Proofs.YtijhdlkfihjbiaaGreatDoor
/- The walks of planimeterref13.Two, Off and Log; of planimeterlaw13.of and minus (written by law_lref.py). -/
namespace Go.Proofs.YtijhdlkfihjbiaaGreatDoor
open Go.RowKit

theorem put_out {w u : World} {b : Nat} {g0 : Bool} {A0 : Option Addr} {n0 c0 : Nat} {e0 : Int} {o : Dy} {M : Nat} {A : Option Addr} {m c : Nat} {ds : List Nat} (hk : Bd u b 28 g0 A0 n0 c0 e0) (hb0 : w.heap.size ≤ b) (hS : Below w.heap.size w u) (hm : m ≤ M) (hl : Dig u A m c ds) (hb : D.Bare ds) (hv : D.val ds = o.V) :
    NTold w o M (.returned (.agg #[.bool o.neg, .slice A m c, .int .i64 o.e])) (World.put u b o.neg A m c o.e) :=
  ⟨A, m, c, ds, rfl, hm, hk.dig hl _ _ _ _ _, hb, hv, below_put hS hb0 _ _ _ _ _⟩
theorem dig_lt {w : World} {A : Option Addr} {n c k : Nat} {ds : List Nat} (h : Dig w A n c ds) (hn : n ≤ k) : D.val ds < 2 ^ (16 * k) := by
  have := D.val_lt h.words
  rw [h.len, D.pw_two] at this
  exact Nat.lt_of_lt_of_le this (Nat.pow_le_pow_right (by decide) (by omega))

set_option maxHeartbeats 1000000 in
theorem lof_l (g : Bool) (A : Option Addr) (n c : Nat) (xs : List Nat) (e0 : Int) (w : World) (hA : Lim w A n c xs) (hn : n ≤ 200) :
    Calls Tryz.prog 43 #[.agg #[.bool g, .slice A n c, .int .i64 e0]] w (NTold w (nO g (val xs) e0) (4 * n)) := by
  have a3 : Below w.heap.size w ((w.alloc (.cells #[.bool g, .slice A n c, .int .i64 e0] 32)).alloc (.cells #[.bool false, .slice none 0 0, .int .i64 0] 28)) := ((Below.refl _ _).alloc (Nat.le_refl _) _).alloc (by simp) _
  have b2 := Bd.new (w.alloc (.cells #[.bool g, .slice A n c, .int .i64 e0] 32)) 28 false none 0 0 0
  rw [World.size_alloc] at b2
  obtain ⟨o, ho⟩ : ∃ o, nO g (val xs) e0 = o := ⟨_, rfl⟩
  have h1 := rof_any g A n c xs e0 _ (hA.below a3) hn
  rw [ho] at h1 ⊢
  have H1 := Lib.hid h1
  have HB := Lib.hid b2
  have HS := Lib.hid a3
  obtain ⟨og, oV, oE⟩ := o
  clear a3 b2 h1 hA ho
  go_enter Tryz.func43, Tryz.ntmps43
  go_wp2_with fail
  refine H1.out.mono ?_
  rintro e w1 ⟨A1, m1, c1, ds, rfl, hm1, hl1, hb1, hv1, hB1⟩
  have k1 := HB.out.below hB1
  have Hfin := Lib.hid (put_out (w := w) (o := ⟨og, oV, oE⟩) k1 (by omega) (HS.out.trans (hB1.mono HS.out.size)) hm1 hl1 hb1 hv1)
  have u0 := k1.c0
  have u1 := k1.c1
  have u2 := k1.c2
  have zf := k1.fz
  clear H1 HB HS hl1 hb1 hv1 hB1 k1
  go_wp2
  exact bodyPost_ret (v := .agg #[.bool og, .slice A1 m1 c1, .int .i64 oE]) (by simp [results, Tryz.results43, go_sem, u0, u1, u2]) rfl Hfin.out

set_option maxHeartbeats 1000000 in
theorem lminus_l (g : Bool) (A : Option Addr) (n c : Nat) (e0 : Int) (w : World) :
    Calls Tryz.prog 44 #[.agg #[.bool g, .slice A n c, .int .i64 e0]] w fun e w' => e = .returned (.agg #[.bool (!g), .slice A n c, .int .i64 e0]) ∧ Below w.heap.size w w' := by
  have a3 : Below w.heap.size w ((w.alloc (.cells #[.bool (!g), .slice A n c, .int .i64 e0] 28)).alloc (.cells #[.bool (!g), .slice A n c, .int .i64 e0] 28)) := ((Below.refl _ _).alloc (Nat.le_refl _) _).alloc (by simp) _
  have Hfin := Lib.hid a3
  clear a3
  go_enter Tryz.func44, Tryz.ntmps44
  go_wp2
  exact bodyPost_ret (v := .agg #[.bool (!g), .slice A n c, .int .i64 e0]) (by simp [results, Tryz.results44, go_sem]) rfl ⟨rfl, Hfin.out⟩

set_option maxHeartbeats 1000000 in
theorem ltwo_l (s T : Nat) (w : World) (hs : s ≤ 700) (hT : Hid (dA (2 ^ s) 1 3 (s / 3 + 3) = T)) :
    Calls Tryz.prog 29 #[.int .i64 (s : Int)] w (DTells w (T * 2) 55) := by
  have HS := Lib.hid (Below.refl w.heap.size w)
  have H1 := Lib.hid (num_any 1 (by decide) w)
  have hs9 : (s : Int) ≤ 700 := by omega
  go_enter Tryz.func29, Tryz.ntmps29
  go_wp2_with fail
  refine H1.out.mono ?_
  rintro e w1 ⟨A1, m1, c1, d1, rfl, hm1, hl1, hb1, hv1, hB⟩
  replace HS := Lib.hid (HS.out.trans (hB.mono HS.out.size))
  have Ho : Hid (Dig w1 A1 m1 c1 d1 ∧ D.Bare d1 ∧ D.val d1 = 1) := ⟨hl1, hb1, hv1⟩
  clear hl1 hb1 hv1 hB H1
  have H2 := Lib.hid (num_any 3 (by decide) w1)
  go_wp2_with fail
  refine H2.out.mono ?_
  rintro e w2 ⟨A2, m2, c2, d2, rfl, hm2, hl2, hb2, hv2, hB⟩
  replace Ho : Hid (Dig w2 A1 m1 c1 d1 ∧ D.Bare d1 ∧ D.val d1 = 1) := ⟨Ho.out.1.below hB, Ho.out.2⟩
  replace HS := Lib.hid (HS.out.trans (hB.mono HS.out.size))
  have Ht : Hid (Dig w2 A2 m2 c2 d2 ∧ D.Bare d2 ∧ D.val d2 = 3) := ⟨hl2, hb2, hv2⟩
  clear hl2 hb2 hv2 hB H2
  have H3 := ratanh_l s A1 m1 c1 d1 A2 m2 c2 d2 w2 Ho.out.1 Ht.out.1 Ho.out.2.1 Ht.out.2.1 (by omega) (by omega) hs (by rw [Ht.out.2.2]; decide) (by rw [Ho.out.2.2, Ht.out.2.2]; decide)
  rw [Ho.out.2.2, Ht.out.2.2, hT.out] at H3
  replace H3 := Lib.hid H3
  clear Ho Ht
  go_wp2_with fail
  refine H3.out.mono ?_
  rintro e w3 ⟨A3, m3, c3, d3, rfl, hm3, hl3, hb3, hv3, hB⟩
  replace HS := Lib.hid (HS.out.trans (hB.mono HS.out.size))
  have HT3 : Hid (Dig w3 A3 m3 c3 d3 ∧ D.Bare d3 ∧ D.val d3 = T) := ⟨hl3, hb3, hv3⟩
  clear hl3 hb3 hv3 hB H3
  have H4 := Lib.hid (num_any 2 (by decide) w3)
  go_wp2_with fail
  refine H4.out.mono ?_
  rintro e w4 ⟨A4, m4, c4, d4, rfl, hm4, hl4, hb4, hv4, hB⟩
  replace HT3 : Hid (Dig w4 A3 m3 c3 d3 ∧ D.Bare d3 ∧ D.val d3 = T) := ⟨HT3.out.1.below hB, HT3.out.2⟩
  replace HS := Lib.hid (HS.out.trans (hB.mono HS.out.size))
  have H2n : Hid (Dig w4 A4 m4 c4 d4 ∧ D.Bare d4 ∧ D.val d4 = 2) := ⟨hl4, hb4, hv4⟩
  clear hl4 hb4 hv4 hB H4
  have H5 := rmul_any A3 m3 c3 d3 A4 m4 c4 d4 w4 HT3.out.1 H2n.out.1 (by omega) (by omega)
  rw [HT3.out.2.2, H2n.out.2.2] at H5
  replace H5 := Lib.hid H5
  clear HT3 H2n
  go_wp2_with fail
  refine H5.out.mono ?_
  rintro e w5 ⟨A5, m5, c5, d5, rfl, hm5, hl5, hb5, hv5, hB⟩
  replace HS := Lib.hid (HS.out.trans (hB.mono HS.out.size))
  have Hr : Hid (Dig w5 A5 m5 c5 d5 ∧ D.Bare d5 ∧ D.val d5 = T * 2) := ⟨hl5, hb5, hv5⟩
  clear hl5 hb5 hv5 hB H5
  have Hfin : Hid (DTells w (T * 2) 55 (.returned (.slice A5 m5 c5)) w5) := ⟨A5, m5, c5, d5, rfl, by omega, Hr.out.1, Hr.out.2.1, Hr.out.2.2, HS.out⟩
  clear HS Hr
  go_wp2
  go_ret
  exact Hfin.out






end Go.Proofs.YtijhdlkfihjbiaaGreatDoor
/- What series.Atanh and Ln2 tell, a little more than the laws of layer 12 ask: of a fraction that is 0 both are 0; Ln2 tells the same each time. -/
namespace Go.Proofs.YtijhdlkfihjbiaaGreatDoor
open Go.RowKit


set_option maxHeartbeats 2000000 in
theorem ln2_told (k : Nat) (w : World) (hT : Tab w) (hk1 : 8 ≤ k) (hk2 : k ≤ 9000) :
    Calls Tryz.prog 35 #[.int .i64 (k : Int)] w (TwoTold w fun _ lo _ hi r => r = 0 ∧ AtV false 1 3 (k + 1) lo ∧ AtV true 1 3 (k + 1) hi) := by
  have H1 := Lib.hid (sscale_l (k : Int) true w (by show _ = _; exact decide_eq_true ⟨by omega, by omega⟩))
  obtain ⟨k1, hk1'⟩ : ∃ k1, k + 1 = k1 := ⟨_, rfl⟩
  have ek1 : (k : Int) + 1 = (k1 : Int) := by omega
  have hk9 : k1 ≤ 9001 := by omega
  have HE : Hid (∀ g u A1 m1 c1 zs A2 m2 c2 us, Tab u → Lim u A1 m1 c1 zs → Lim u A2 m2 c2 us → val zs = 1 → val us = 3 → m1 ≤ 1 → m2 ≤ 1 → Calls Tryz.prog 71 #[.bool g, .slice A1 m1 c1, .slice A2 m2 c2, .int .i64 (k1 : Int)] u (EndTold u (AtV g 1 3 k1))) := fun g u A1 m1 c1 zs A2 m2 c2 us g1 g2 g3 g4 g5 g6 g7 => by
    have h := satanh_l g A1 m1 c1 zs A2 m2 c2 us k1 u g2 g3 (by omega) (by omega) g1 (by rw [g4, g5]; exact ⟨by decide, by decide, by decide, by decide⟩) hk9
    rw [g4, g5] at h
    exact h
  have HO1 := Lib.hid (of_any 1 (by decide) w)
  have HT := Lib.hid hT
  have HK := Lib.hid hk1'
  clear hT hk1 hk1'
  go_enter Tryz.func35, Tryz.ntmps35
  go_wp2_with fail
  refine H1.out.mono ?_
  rintro e w' ⟨rfl, rfl⟩
  go_wp2_with fail
  refine HO1.out.mono ?_
  rintro e w1 ⟨A1, m1, c1, zs, rfl, hm1, hl1, hb1, hv1, hB1⟩
  have HS := Lib.hid hB1
  have HO2 := Lib.hid (of_any 3 (by decide) w1)
  have HA : Hid (Lim w1 A1 m1 c1 zs ∧ val zs = 1) := ⟨hl1, hv1⟩
  clear hl1 hb1 hv1 hB1 HO1 H1
  go_wp2_with fail
  refine HO2.out.mono ?_
  rintro e w2 ⟨A2, m2, c2, us, rfl, hm2, hl2, hb2, hv2, hB2⟩
  replace HS := Lib.hid (HS.out.trans (hB2.mono HS.out.size))
  replace HA : Hid (Lim w2 A1 m1 c1 zs ∧ val zs = 1) := ⟨HA.out.1.below hB2, HA.out.2⟩
  have HB : Hid (Lim w2 A2 m2 c2 us ∧ val us = 3) := ⟨hl2, hv2⟩
  have H3 := Lib.hid (HE.out false w2 A1 m1 c1 zs A2 m2 c2 us (HT.out.below HS.out) HA.out.1 HB.out.1 HA.out.2 HB.out.2 hm1 hm2)
  clear hl2 hb2 hv2 hB2 HO2
  go_wp2_with fail
  refine H3.out.mono ?_
  rintro e w3 ⟨A3, m3, c3, ts, rfl, hm3, hl3, hB3, hq3⟩
  replace HS := Lib.hid (HS.out.trans (hB3.mono HS.out.size))
  have H4 := Lib.hid (HE.out true w3 A1 m1 c1 zs A2 m2 c2 us (HT.out.below HS.out) (HA.out.1.below hB3) (HB.out.1.below hB3) HA.out.2 HB.out.2 hm1 hm2)
  have HL : Hid (Lim w3 A3 m3 c3 ts ∧ AtV false 1 3 k1 (val ts)) := ⟨hl3, hq3⟩
  clear H3 hl3 hB3 hq3 HE HA HB HT
  go_wp2_with fail
  refine H4.out.mono ?_
  rintro e w4 ⟨A4, m4, c4, vs, rfl, hm4, hl4, hB4, hq4⟩
  have Hfin : Hid (TwoTold w (fun _ lo _ hi r => r = 0 ∧ AtV false 1 3 (k + 1) lo ∧ AtV true 1 3 (k + 1) hi) (.returned (.tuple #[.slice A3 m3 c3, .slice A4 m4 c4, .int .i64 0])) w4) :=
    ⟨A3, m3, c3, ts, A4, m4, c4, vs, 0, rfl, hm3, hm4, HL.out.1.below hB4, hl4, HS.out.trans (hB4.mono HS.out.size), rfl, by rw [HK.out]; exact HL.out.2, by rw [HK.out]; exact hq4⟩
  clear H4 HL HS HK hl4 hB4 hq4
  go_wp2
  go_ret3
  exact Hfin.out
end Go.Proofs.YtijhdlkfihjbiaaGreatDoor
/- The walks of logs.hasLog, nearest, apart and Near (written by law_lnear.py). -/
namespace Go.Proofs.YtijhdlkfihjbiaaGreatDoor
open Go.RowKit

set_option maxHeartbeats 1000000 in
/-- The top of 0. -/
theorem top_nought (g : Bool) (A : Option Addr) (n c : Nat) (xs : List Nat) (e0 : Int) (w : World) (hA : Lim w A n c xs) (hn : n ≤ 4294967296) (h0 : val xs = 0) :
    Calls Tryz.prog 63 #[.agg #[.bool g, .slice A n c, .int .i64 e0]] w fun e w' => e = .returned (.tuple #[.int .i64 0, .bool false]) ∧ Below w.heap.size w w' := by
  have HA := Lib.hid (hA.alloc (.cells #[.bool g, .slice A n c, .int .i64 e0] 32))
  have H1 := Lib.hid (below1 w (.cells #[.bool g, .slice A n c, .int .i64 e0] 32))
  have Hb : Hid (blen (val xs) = 0) := by show _ = _; rw [h0]; rfl
  clear hA h0
  go_enter Tryz.func63, Tryz.ntmps63
  go_wp2_with fail
  refine (bits_l 0 A n c xs _ HA.out (by omega) Hb).mono ?_
  rintro e w' ⟨rfl, rfl⟩
  go_wp2
  go_ret2
  exact ⟨rfl, H1.out⟩

/-- A dyad in its box, its list, the table. -/
def HoldG (w : World) (p : Nat) (g : Bool) (A : Option Addr) (n c : Nat) (xs : List Nat) (e0 : Int) (u : World) : Prop :=
  Bd u p 32 g A n c e0 ∧ Lim u A n c xs ∧ Tab u ∧ Below w.heap.size w u
section
variable {w : World} {p : Nat} {g : Bool} {A : Option Addr} {n c : Nat} {xs : List Nat} {e0 : Int} {u u' : World}
theorem HoldG.below (h : HoldG w p g A n c xs e0 u) (hb : Below u.heap.size u u') : HoldG w p g A n c xs e0 u' :=
  ⟨h.1.below hb, h.2.1.below hb, h.2.2.1.below hb, h.2.2.2.trans (hb.mono h.2.2.2.size)⟩
theorem HoldG.lim (h : HoldG w p g A n c xs e0 u) : Lim u A n c xs := h.2.1
theorem HoldG.tab (h : HoldG w p g A n c xs e0 u) : Tab u := h.2.2.1
theorem HoldG.all (h : HoldG w p g A n c xs e0 u) : Below w.heap.size w u := h.2.2.2
theorem HoldG.start (hA : Lim w A n c xs) (hT : Tab w) : HoldG w w.heap.size g A n c xs e0 (w.alloc (.cells #[.bool g, .slice A n c, .int .i64 e0] 32)) :=
  ⟨Bd.new _ _ _ _ _ _ _, hA.alloc _, hT.below (below1 _ _), below1 _ _⟩
end

/-- Is there a logarithm? -/
def HasP (g : Bool) (V : Nat) (e0 : Int) : Prop := g = false ∧ V ≠ 0 ∧ blen V ≤ 4000 ∧ -1048576 ≤ (blen V : Int) - 1 + e0 ∧ (blen V : Int) - 1 + e0 ≤ 1048576
instance (g : Bool) (V : Nat) (e0 : Int) : Decidable (HasP g V e0) := by unfold HasP; infer_instance








end Go.Proofs.YtijhdlkfihjbiaaGreatDoor
/- The walks of logs.ofTwos and ofFraction: so often ln 2, and a fraction's logarithm, as intervals. -/
namespace Go.Proofs.YtijhdlkfihjbiaaGreatDoor
open Go.RowKit

/-- An interval and an error. -/
def ITold (w : World) (P : Dy → Dy → Int → Nat → Nat → Prop) (e : Ending) (w' : World) : Prop :=
  ∃ g1 A1 m1 c1 zs e1 g2 A2 m2 c2 us e2 r, e = .returned (.tuple #[.agg #[.bool g1, .slice A1 m1 c1, .int .i64 e1, .bool g2, .slice A2 m2 c2, .int .i64 e2], .int .i64 r]) ∧ m1 ≤ 300 ∧ m2 ≤ 300 ∧ Lim w' A1 m1 c1 zs ∧ Lim w' A2 m2 c2 us ∧ Bare zs ∧ Bare us ∧ Below w.heap.size w w' ∧ P ⟨g1, val zs, e1⟩ ⟨g2, val us, e2⟩ r m1 m2
/-- The result's block, not yet written. -/
def HoldI (w u : World) : Prop := Ib u w.heap.size false none 0 0 0 false none 0 0 0 ∧ Tab u ∧ Below w.heap.size w u
section
variable {w u u' : World}
theorem HoldI.below (h : HoldI w u) (hb : Below u.heap.size u u') : HoldI w u' := ⟨h.1.below hb, h.2.1.below hb, h.2.2.trans (hb.mono h.2.2.size)⟩
theorem HoldI.tab (h : HoldI w u) : Tab u := h.2.1
theorem HoldI.all (h : HoldI w u) : Below w.heap.size w u := h.2.2
theorem HoldI.start (hT : Tab w) : HoldI w (w.alloc (.cells #[.bool false, .slice none 0 0, .int .i64 0, .bool false, .slice none 0 0, .int .i64 0] 34)) :=
  ⟨Ib.new _ _ _ _ _ _ _ _ _ _ _, hT.below (below1 _ _), below1 _ _⟩
theorem HoldI.out (h : HoldI w u) {P : Dy → Dy → Int → Nat → Nat → Prop} {g1 : Bool} {A1 : Option Addr} {m1 c1 : Nat} {zs : List Nat} {e1 : Int} {g2 : Bool} {A2 : Option Addr} {m2 c2 : Nat} {us : List Nat} {e2 r : Int}
    (hm1 : m1 ≤ 300) (hm2 : m2 ≤ 300) (h1 : Lim u A1 m1 c1 zs) (h2 : Lim u A2 m2 c2 us) (b1 : Bare zs) (b2 : Bare us) (hP : P ⟨g1, val zs, e1⟩ ⟨g2, val us, e2⟩ r m1 m2) :
    ITold w P (.returned (.tuple #[.agg #[.bool g1, .slice A1 m1 c1, .int .i64 e1, .bool g2, .slice A2 m2 c2, .int .i64 e2], .int .i64 r])) (World.put6 u w.heap.size g1 A1 m1 c1 e1 g2 A2 m2 c2 e2) :=
  ⟨g1, A1, m1, c1, zs, e1, g2, A2, m2, c2, us, e2, r, rfl, hm1, hm2, h.1.lim h1 _ _ _ _ _ _ _ _ _ _, h.1.lim h2 _ _ _ _ _ _ _ _ _ _, b1, b2, below_put6 h.2.2 (Nat.le_refl _) _ _ _ _ _ _ _ _ _ _, hP⟩
end

end Go.Proofs.YtijhdlkfihjbiaaGreatDoor
/- The walks of logs.sum, turn and isAtTurn. -/
namespace Go.Proofs.YtijhdlkfihjbiaaGreatDoor
open Go.RowKit

end Go.Proofs.YtijhdlkfihjbiaaGreatDoor
/- The walk of logs.held: no end beyond what the other way tells of the turn (written by law_lheld.py). -/
namespace Go.Proofs.YtijhdlkfihjbiaaGreatDoor
open Go.RowKit

/-- The upper end laid into an interval's block. -/
abbrev World.putH (w : World) (b : Nat) (g : Bool) (A : Option Addr) (n c : Nat) (e : Int) : World :=
  ((w.setCell ⟨b, 3, none⟩ (.bool g)).setCell ⟨b, 4, none⟩ (.slice A n c)).setCell ⟨b, 5, none⟩ (.int .i64 e)
theorem putH_heap (w : World) (b : Nat) (g : Bool) (A : Option Addr) (n c : Nat) (e : Int) (k : Nat) (hk : k ≠ b) : (World.putH w b g A n c e).heap[k]? = w.heap[k]? := by
  unfold World.putH
  rw [Below.heap_setCell _ _ _ _ hk, Below.heap_setCell _ _ _ _ hk, Below.heap_setCell _ _ _ _ hk]
theorem putH_size (w : World) (b : Nat) (g : Bool) (A : Option Addr) (n c : Nat) (e : Int) : (World.putH w b g A n c e).heap.size = w.heap.size := by
  simp [World.putH, World.setCell]
theorem putH_cell (w : World) (b : Nat) (g : Bool) (A : Option Addr) (n c : Nat) (e : Int) (p : Addr) (hp : p.block ≠ b) : (World.putH w b g A n c e).cell? p = w.cell? p :=
  World.cell?_of_block (w := w) (putH_heap w b g A n c e p.block hp)
theorem below_putH {B : Nat} {a w : World} (h : Below B a w) {b : Nat} (hb : B ≤ b) (g : Bool) (A : Option Addr) (n c : Nat) (e : Int) : Below B a (World.putH w b g A n c e) :=
  ((h.setCell (p := ⟨b, 3, none⟩) hb _).setCell (p := ⟨b, 4, none⟩) hb _).setCell (p := ⟨b, 5, none⟩) hb _
section
variable {w : World} {b : Nat} {g1 : Bool} {A1 : Option Addr} {n1 c1 : Nat} {e1 : Int} {g2 : Bool} {A2 : Option Addr} {n2 c2 : Nat} {e2 : Int}
theorem Ib.putL (h : Ib w b g1 A1 n1 c1 e1 g2 A2 n2 c2 e2) (g' : Bool) (A' : Option Addr) (n' c' : Nat) (e' : Int) : Ib (World.put w b g' A' n' c' e') b g' A' n' c' e' g2 A2 n2 c2 e2 := by
  unfold Ib at h ⊢
  unfold World.put
  simp [World.setCell, Array.getElem?_modify, h]
theorem Ib.putU (h : Ib w b g1 A1 n1 c1 e1 g2 A2 n2 c2 e2) (g' : Bool) (A' : Option Addr) (n' c' : Nat) (e' : Int) : Ib (World.putH w b g' A' n' c' e') b g1 A1 n1 c1 e1 g' A' n' c' e' := by
  unfold Ib at h ⊢
  unfold World.putH
  simp [World.setCell, Array.getElem?_modify, h]
theorem Ib.otherU (h : Ib w b g1 A1 n1 c1 e1 g2 A2 n2 c2 e2) {b' : Nat} (hb : b ≠ b') (g' : Bool) (A' : Option Addr) (n' c' : Nat) (e' : Int) : Ib (World.putH w b' g' A' n' c' e') b g1 A1 n1 c1 e1 g2 A2 n2 c2 e2 := by
  unfold Ib; rw [putH_heap _ _ _ _ _ _ _ _ hb]; exact h
theorem Ib.limL (h : Ib w b g1 A1 n1 c1 e1 g2 A2 n2 c2 e2) {A : Option Addr} {n c : Nat} {xs : List Nat} (hA : Lim w A n c xs) (g' : Bool) (A' : Option Addr) (n' c' : Nat) (e' : Int) : Lim (World.put w b g' A' n' c' e') A n c xs :=
  ⟨hA.1, hA.2.1, hA.2.2.1, fun hn => by
    obtain ⟨k, o, ek, hk, hc⟩ := hA.at_ hn
    have hne : k ≠ b := by
      rintro rfl
      have := h.not (hc 0 hn)
      cases this
    exact ⟨k, o, ek, by rw [put_size]; exact hk, fun j hj => by rw [put_cell _ _ _ _ _ _ _ _ hne]; exact hc j hj⟩⟩
theorem Ib.limU (h : Ib w b g1 A1 n1 c1 e1 g2 A2 n2 c2 e2) {A : Option Addr} {n c : Nat} {xs : List Nat} (hA : Lim w A n c xs) (g' : Bool) (A' : Option Addr) (n' c' : Nat) (e' : Int) : Lim (World.putH w b g' A' n' c' e') A n c xs :=
  ⟨hA.1, hA.2.1, hA.2.2.1, fun hn => by
    obtain ⟨k, o, ek, hk, hc⟩ := hA.at_ hn
    have hne : k ≠ b := by
      rintro rfl
      have := h.not (hc 0 hn)
      cases this
    exact ⟨k, o, ek, by rw [putH_size]; exact hk, fun j hj => by rw [putH_cell _ _ _ _ _ _ _ _ hne]; exact hc j hj⟩⟩
end

/-- The interval that came in, the result's block. -/
def HoldJ (w : World) (g1 : Bool) (A1 : Option Addr) (m1 c1 : Nat) (e1 : Int) (g2 : Bool) (A2 : Option Addr) (m2 c2 : Nat) (e2 : Int) (u : World) : Prop :=
  Ib u w.heap.size g1 A1 m1 c1 e1 g2 A2 m2 c2 e2 ∧ Ib u (w.heap.size + 1) false none 0 0 0 false none 0 0 0 ∧ Tab u ∧ Below w.heap.size w u
section
variable {w u u' : World} {g1 : Bool} {A1 : Option Addr} {m1 c1 : Nat} {e1 : Int} {g2 : Bool} {A2 : Option Addr} {m2 c2 : Nat} {e2 : Int}
theorem HoldJ.below (h : HoldJ w g1 A1 m1 c1 e1 g2 A2 m2 c2 e2 u) (hb : Below u.heap.size u u') : HoldJ w g1 A1 m1 c1 e1 g2 A2 m2 c2 e2 u' :=
  ⟨h.1.below hb, h.2.1.below hb, h.2.2.1.below hb, h.2.2.2.trans (hb.mono h.2.2.2.size)⟩
theorem HoldJ.tab (h : HoldJ w g1 A1 m1 c1 e1 g2 A2 m2 c2 e2 u) : Tab u := h.2.2.1
theorem HoldJ.all (h : HoldJ w g1 A1 m1 c1 e1 g2 A2 m2 c2 e2 u) : Below w.heap.size w u := h.2.2.2
theorem HoldJ.start (hT : Tab w) : HoldJ w g1 A1 m1 c1 e1 g2 A2 m2 c2 e2 ((w.alloc (.cells #[.bool g1, .slice A1 m1 c1, .int .i64 e1, .bool g2, .slice A2 m2 c2, .int .i64 e2] 34)).alloc (.cells #[.bool false, .slice none 0 0, .int .i64 0, .bool false, .slice none 0 0, .int .i64 0] 34)) := by
  have a := below1 w (.cells #[.bool g1, .slice A1 m1 c1, .int .i64 e1, .bool g2, .slice A2 m2 c2, .int .i64 e2] 34)
  have b := below1 (w.alloc (.cells #[.bool g1, .slice A1 m1 c1, .int .i64 e1, .bool g2, .slice A2 m2 c2, .int .i64 e2] 34)) (.cells #[.bool false, .slice none 0 0, .int .i64 0, .bool false, .slice none 0 0, .int .i64 0] 34)
  have n := Ib.new (w.alloc (.cells #[.bool g1, .slice A1 m1 c1, .int .i64 e1, .bool g2, .slice A2 m2 c2, .int .i64 e2] 34)) false none 0 0 0 false none 0 0 0
  rw [World.size_alloc] at n
  exact ⟨(Ib.new w g1 A1 m1 c1 e1 g2 A2 m2 c2 e2).below b, n, (hT.below a).below b, a.trans (b.mono a.size)⟩
end

end Go.Proofs.YtijhdlkfihjbiaaGreatDoor
/- The walk of logs.Log: its contract. -/
namespace Go.Proofs.YtijhdlkfihjbiaaGreatDoor
open Go.RowKit

/-- The result's block, behind another one. -/
def HoldL3 (w u : World) : Prop := Ib u (w.heap.size + 1) false none 0 0 0 false none 0 0 0 ∧ Tab u ∧ Below w.heap.size w u
section
variable {w u u' : World}
theorem HoldL3.below (h : HoldL3 w u) (hb : Below u.heap.size u u') : HoldL3 w u' := ⟨h.1.below hb, h.2.1.below hb, h.2.2.trans (hb.mono h.2.2.size)⟩
theorem HoldL3.tab (h : HoldL3 w u) : Tab u := h.2.1
theorem HoldL3.all (h : HoldL3 w u) : Below w.heap.size w u := h.2.2
theorem HoldL3.start (hT : Tab w) (g : Bool) (A : Option Addr) (n c : Nat) (e : Int) : HoldL3 w ((w.alloc (.cells #[.bool g, .slice A n c, .int .i64 e] 32)).alloc (.cells #[.bool false, .slice none 0 0, .int .i64 0, .bool false, .slice none 0 0, .int .i64 0] 34)) := by
  have a := below1 w (.cells #[.bool g, .slice A n c, .int .i64 e] 32)
  have b := below1 (w.alloc (.cells #[.bool g, .slice A n c, .int .i64 e] 32)) (.cells #[.bool false, .slice none 0 0, .int .i64 0, .bool false, .slice none 0 0, .int .i64 0] 34)
  have n := Ib.new (w.alloc (.cells #[.bool g, .slice A n c, .int .i64 e] 32)) false none 0 0 0 false none 0 0 0
  rw [World.size_alloc] at n
  exact ⟨n, (hT.below a).below b, a.trans (b.mono a.size)⟩
theorem HoldL3.out (h : HoldL3 w u) {P : Dy → Dy → Int → Nat → Nat → Prop} {g1 : Bool} {A1 : Option Addr} {m1 c1 : Nat} {zs : List Nat} {e1 : Int} {g2 : Bool} {A2 : Option Addr} {m2 c2 : Nat} {us : List Nat} {e2 r : Int}
    (hm1 : m1 ≤ 300) (hm2 : m2 ≤ 300) (h1 : Lim u A1 m1 c1 zs) (h2 : Lim u A2 m2 c2 us) (b1 : Bare zs) (b2 : Bare us) (hP : P ⟨g1, val zs, e1⟩ ⟨g2, val us, e2⟩ r m1 m2) :
    ITold w P (.returned (.tuple #[.agg #[.bool g1, .slice A1 m1 c1, .int .i64 e1, .bool g2, .slice A2 m2 c2, .int .i64 e2], .int .i64 r])) (World.put6 u (w.heap.size + 1) g1 A1 m1 c1 e1 g2 A2 m2 c2 e2) :=
  ⟨g1, A1, m1, c1, zs, e1, g2, A2, m2, c2, us, e2, r, rfl, hm1, hm2, h.1.lim h1 _ _ _ _ _ _ _ _ _ _, h.1.lim h2 _ _ _ _ _ _ _ _ _ _, b1, b2, below_put6 h.2.2 (Nat.le_succ _) _ _ _ _ _ _ _ _ _ _, hP⟩
end
end Go.Proofs.YtijhdlkfihjbiaaGreatDoor
/- The walk of dyad.Of from 0 on. -/
namespace Go.Proofs.YtijhdlkfihjbiaaGreatDoor
open Go.RowKit

theorem dsize_nat (n : Nat) (hn : n < 9223372036854775808) (w : World) : Calls Tryz.prog 49 #[.int .i64 (n : Int)] w fun e w' => e = .returned (.int .u64 (n : Int)) ∧ w = w' := by
  have b1 : decide ((n : Int) < 0) = false := decide_eq_false (by omega)
  go_enter Tryz.func49, Tryz.ntmps49
  go_wp2
  go_ret
  exact ⟨rfl, rfl⟩

set_option maxHeartbeats 2000000 in
theorem dof_nat (n : Nat) (hn : n < 9223372036854775808) (g : Bool) (V : Nat) (E : Int) (w : World) (hT : Tab w) (hd : mk false n 0 = some ⟨g, V, E⟩) : Calls Tryz.prog 16 #[.int .i64 (n : Int)] w (Tells1 w g V 1 E) := by
  have a3 := below1 w (.cells #[.bool false, .slice none 0 0, .int .i64 0] 32)
  have HT := Lib.hid (hT.below a3)
  have Hb := Lib.hid (Bd.new w 32 false none 0 0 0)
  have HS := Lib.hid a3
  have Hd := Lib.hid hd
  have b1 : decide ((n : Int) < 0) = false := decide_eq_false (by omega)
  clear a3 hT hd
  go_enter Tryz.func16, Tryz.ntmps16
  go_wp2_with fail
  refine (dsize_nat n hn _).mono ?_
  rintro e w' ⟨rfl, rfl⟩
  go_wp2_with fail
  refine (of_any n (by omega) _).mono ?_
  rintro e w1 ⟨A1, m1, c1, zs, rfl, hm1, hl1, hb1, hv1, hB1⟩
  have HM := Lib.hid (make_any false A1 m1 c1 zs 0 w1 hl1 (by omega) (HT.out.below hB1))
  rw [hv1, Hd.out] at HM
  have Hb1 := Lib.hid (Hb.out.below hB1)
  have HS1 := Lib.hid (HS.out.trans (hB1.mono HS.out.size))
  clear hl1 hb1 hv1 hB1 HT Hb HS Hd
  go_wp2_with fail
  refine HM.out.mono ?_
  rintro e w2 ⟨g2, A2, m2, c2, us, E2, r2, rfl, hm2, hl2, hb2, his, hB2⟩
  obtain ⟨rfl, rfl, hz, rfl⟩ := his
  have k2 := Hb1.out.below hB2
  have Hfin : Hid (Tells1 w g2 V 1 E2 (.returned (.agg #[.bool g2, .slice A2 m2 c2, .int .i64 E2])) (World.put (w2.alloc (.cells #[.bool g2, .slice A2 m2 c2, .int .i64 E2] 32)) w.heap.size g2 A2 m2 c2 E2)) :=
    ⟨A2, m2, c2, us, rfl, by omega, (k2.alloc _).lim (hl2.alloc _) _ _ _ _ _, hb2, hz, below_put ((HS1.out.trans (hB2.mono HS1.out.size)).alloc (HS1.out.trans (hB2.mono HS1.out.size)).size _) (Nat.le_refl _) _ _ _ _ _⟩
  have y0 := fun o => (k2.alloc o).c0
  have y1 := fun o => (k2.alloc o).c1
  have y2 := fun o => (k2.alloc o).c2
  have yf := fun o => (k2.alloc o).fz
  clear k2 hB2 hl2 hb2 HM Hb1 HS1 hz
  go_wp2
  exact bodyPost_ret (v := .agg #[.bool g2, .slice A2 m2 c2, .int .i64 E2]) (by simp [results, Tryz.results16, go_sem, y0, y1, y2]) rfl Hfin.out
end Go.Proofs.YtijhdlkfihjbiaaGreatDoor
/- The walk of planimeterlaw13.alive (written by law_lalive.py). -/
namespace Go.Proofs.YtijhdlkfihjbiaaGreatDoor
open Go.RowKit

theorem un_sg {s : Nat} {L : Int} {d : Dy} (h : Un s L d) : sgD d.neg d.V = cmpI L 0 := by
  have k := sgD_spec d.neg d.V d.e
  have w := h.2.2
  have u : (0 : Int) < (us s : Int) := by have := us_pos s; omega
  rcases Int.lt_trichotomy L 0 with h0 | h0 | h0
  · have : L * (us s : Int) < 0 := Int.mul_neg_of_neg_of_pos h0 u
    rw [cmpI_lt h0]
    omega
  · rw [h0, Int.zero_mul] at w
    rw [cmpI_eq h0]
    omega
  · have : 0 < L * (us s : Int) := Int.mul_pos h0 u
    rw [cmpI_gt h0]
    omega


end Go.Proofs.YtijhdlkfihjbiaaGreatDoor
/- What the laws of layer 13 say of logarithms: of a product, in order, of powers of two; numbers alone. And what their walks rest on. -/
namespace Go.Proofs.YtijhdlkfihjbiaaGreatDoor
open Go.RowKit

end Go.Proofs.YtijhdlkfihjbiaaGreatDoor
/- Words for dyads that are laid into new blocks, one or two, in whatever order the blocks came. -/
namespace Go.Proofs.YtijhdlkfihjbiaaGreatDoor
open Go.RowKit

/-- Digits of a value. -/
def Mq (w : World) (V : Nat) (A : Option Addr) (m c : Nat) (es : List Nat) : Prop := Lim w A m c es ∧ Bare es ∧ val es = V
theorem Mq.below {w w' : World} {V : Nat} {A : Option Addr} {m c : Nat} {es : List Nat} (h : Mq w V A m c es) (hb : Below w.heap.size w w') : Mq w' V A m c es := ⟨h.1.below hb, h.2⟩
theorem Mq.put {w : World} {V : Nat} {A : Option Addr} {m c : Nat} {es : List Nat} (h : Mq w V A m c es) {p t : Nat} {g0 : Bool} {A0 : Option Addr} {n0 c0 : Nat} {e0 : Int} (hb : Bd w p t g0 A0 n0 c0 e0) (g : Bool) (A' : Option Addr) (n' c' : Nat) (e : Int) : Mq (World.put w p g A' n' c' e) V A m c es := ⟨hb.lim h.1 _ _ _ _ _, h.2⟩
theorem below_2u (w : World) (o1 o2 : Obj) : Below w.heap.size w ((w.alloc o1).alloc o2) := ((Below.refl _ _).alloc (Nat.le_refl _) _).alloc (by simp) _

/-- New blocks, each with a number that is 0 yet; the newest first. -/
def HoldU (u0 : World) (bs : List Nat) (w : World) : Prop :=
  Below u0.heap.size u0 w ∧ (∀ p ∈ bs, Bd w p 32 false none 0 0 0 ∧ u0.heap.size ≤ p) ∧ bs.Pairwise (fun x y => y < x)
section
variable {u0 : World} {bs : List Nat} {w w' : World}
theorem HoldU.below (hh : HoldU u0 bs w) (hb : Below w.heap.size w w') : HoldU u0 bs w' :=
  ⟨hh.1.trans (hb.mono hh.1.size), fun p hp => ⟨(hh.2.1 p hp).1.below hb, (hh.2.1 p hp).2⟩, hh.2.2⟩
theorem HoldU.one (hh : HoldU u0 bs w) : HoldU u0 (w.heap.size :: bs) (w.alloc (.cells #[.bool false, .slice none 0 0, .int .i64 0] 32)) := by
  have h2 := hh.below (below1 w (.cells #[.bool false, .slice none 0 0, .int .i64 0] 32))
  refine ⟨h2.1, fun p hp => ?_, ?_⟩
  · rcases List.mem_cons.1 hp with rfl | hp
    · exact ⟨Bd.new w _ _ _ _ _ _, hh.1.size⟩
    · exact h2.2.1 p hp
  · exact List.pairwise_cons.2 ⟨fun p hp => (hh.2.1 p hp).1.lt, hh.2.2⟩
theorem HoldU.two (hh : HoldU u0 bs w) : HoldU u0 ((w.heap.size + 1) :: w.heap.size :: bs) ((w.alloc (.cells #[.bool false, .slice none 0 0, .int .i64 0] 32)).alloc (.cells #[.bool false, .slice none 0 0, .int .i64 0] 32)) := by
  have h2 := hh.one.one
  rw [World.size_alloc] at h2
  exact h2
theorem HoldU.start (u0 : World) : HoldU u0 [] u0 := ⟨Below.refl _ _, fun _ hp => absurd hp (List.not_mem_nil), List.Pairwise.nil⟩
theorem HoldU.old (hh : HoldU u0 bs w) : Below u0.heap.size u0 w := hh.1
theorem HoldU.first {X : Nat} (hh : HoldU u0 (X :: bs) w) : Bd w X 32 false none 0 0 0 := (hh.2.1 X (List.mem_cons.2 (Or.inl rfl))).1
theorem HoldU.second {X Y : Nat} (hh : HoldU u0 (Y :: X :: bs) w) : Bd w X 32 false none 0 0 0 ∧ X < Y :=
  ⟨(hh.2.1 X (List.mem_cons.2 (Or.inr (List.mem_cons.2 (Or.inl rfl))))).1, (List.pairwise_cons.1 hh.2.2).1 X (List.mem_cons.2 (Or.inl rfl))⟩
theorem HoldU.a1 (hh : HoldU u0 bs w) (o : Obj) : Below u0.heap.size u0 (w.alloc o) := hh.1.alloc hh.1.size o
theorem HoldU.a2 (hh : HoldU u0 bs w) (o1 o2 : Obj) : Below u0.heap.size u0 ((w.alloc o1).alloc o2) := (hh.1.alloc hh.1.size o1).alloc (hh.1.alloc hh.1.size o1).size o2
variable {X Y : Nat}
theorem HoldU.at1 (hh : HoldU u0 (X :: bs) w) (g : Bool) (A : Option Addr) (n c : Nat) (e : Int) : Below u0.heap.size u0 (World.put w X g A n c e) :=
  below_put hh.1 (hh.2.1 X (List.mem_cons.2 (Or.inl rfl))).2 _ _ _ _ _
theorem HoldU.at1a (hh : HoldU u0 (X :: bs) w) (g : Bool) (A : Option Addr) (n c : Nat) (e : Int) (o : Obj) : Below u0.heap.size u0 ((World.put w X g A n c e).alloc o) := (hh.at1 g A n c e).alloc (hh.at1 g A n c e).size o
theorem HoldU.at2 (hh : HoldU u0 (Y :: X :: bs) w) (g : Bool) (A : Option Addr) (n c : Nat) (e : Int) : Below u0.heap.size u0 (World.put w X g A n c e) :=
  below_put hh.1 (hh.2.1 X (List.mem_cons.2 (Or.inr (List.mem_cons.2 (Or.inl rfl))))).2 _ _ _ _ _
theorem HoldU.at12 (hh : HoldU u0 (Y :: X :: bs) w) (g : Bool) (A : Option Addr) (n c : Nat) (e : Int) (g' : Bool) (A' : Option Addr) (n' c' : Nat) (e' : Int) : Below u0.heap.size u0 (World.put (World.put w Y g A n c e) X g' A' n' c' e') :=
  below_put (hh.at1 g A n c e) (hh.2.1 X (List.mem_cons.2 (Or.inr (List.mem_cons.2 (Or.inl rfl))))).2 _ _ _ _ _
theorem HoldU.at21 (hh : HoldU u0 (Y :: X :: bs) w) (g : Bool) (A : Option Addr) (n c : Nat) (e : Int) (g' : Bool) (A' : Option Addr) (n' c' : Nat) (e' : Int) : Below u0.heap.size u0 (World.put (World.put w X g A n c e) Y g' A' n' c' e') :=
  below_put (hh.at2 g A n c e) (hh.2.1 Y (List.mem_cons.2 (Or.inl rfl))).2 _ _ _ _ _
end
/-- Two numbers in new blocks. -/
def RelU (u0 : World) (p : Nat) (g1 : Bool) (A1 : Option Addr) (m1 c1 : Nat) (E1 : Int) (V1 : Nat) (es1 : List Nat) (q : Nat) (g2 : Bool) (A2 : Option Addr) (m2 c2 : Nat) (E2 : Int) (V2 : Nat) (es2 : List Nat) (w : World) : Prop :=
  Below u0.heap.size u0 w ∧ Bd w p 32 g1 A1 m1 c1 E1 ∧ Mq w V1 A1 m1 c1 es1 ∧ Bd w q 32 g2 A2 m2 c2 E2 ∧ Mq w V2 A2 m2 c2 es2
section
variable {u0 : World} {g1 : Bool} {A1 : Option Addr} {m1 c1 : Nat} {E1 : Int} {V1 : Nat} {es1 : List Nat} {g2 : Bool} {A2 : Option Addr} {m2 c2 : Nat} {E2 : Int} {V2 : Nat} {es2 : List Nat} {w w' : World} {p q : Nat}
theorem RelU.swap (hh : RelU u0 p g1 A1 m1 c1 E1 V1 es1 q g2 A2 m2 c2 E2 V2 es2 w) : RelU u0 q g2 A2 m2 c2 E2 V2 es2 p g1 A1 m1 c1 E1 V1 es1 w :=
  ⟨hh.1, hh.2.2.2.1, hh.2.2.2.2, hh.2.1, hh.2.2.1⟩
theorem RelU.below (hh : RelU u0 p g1 A1 m1 c1 E1 V1 es1 q g2 A2 m2 c2 E2 V2 es2 w) (hb : Below w.heap.size w w') : RelU u0 p g1 A1 m1 c1 E1 V1 es1 q g2 A2 m2 c2 E2 V2 es2 w' :=
  ⟨hh.1.trans (hb.mono hh.1.size), hh.2.1.below hb, hh.2.2.1.below hb, hh.2.2.2.1.below hb, hh.2.2.2.2.below hb⟩
theorem RelU.six (hh : RelU u0 p g1 A1 m1 c1 E1 V1 es1 q g2 A2 m2 c2 E2 V2 es2 w) : Six w p g1 A1 m1 c1 E1 q g2 A2 m2 c2 E2 := hh.2.1.six hh.2.2.2.1
theorem RelU.old (hh : RelU u0 p g1 A1 m1 c1 E1 V1 es1 q g2 A2 m2 c2 E2 V2 es2 w) : Below u0.heap.size u0 w := hh.1
/-- Both blocks came last. -/
theorem RelU.new2 (hh : HoldU u0 [] w) (h1 : Mq w V1 A1 m1 c1 es1) (h2 : Mq w V2 A2 m2 c2 es2) :
    RelU u0 w.heap.size g1 A1 m1 c1 E1 V1 es1 (w.heap.size + 1) g2 A2 m2 c2 E2 V2 es2 ((w.alloc (.cells #[.bool g1, .slice A1 m1 c1, .int .i64 E1] 32)).alloc (.cells #[.bool g2, .slice A2 m2 c2, .int .i64 E2] 32)) := by
  have hb := below_2u w (.cells #[.bool g1, .slice A1 m1 c1, .int .i64 E1] 32) (.cells #[.bool g2, .slice A2 m2 c2, .int .i64 E2] 32)
  have b2 := Bd.new (w.alloc (.cells #[.bool g1, .slice A1 m1 c1, .int .i64 E1] 32)) 32 g2 A2 m2 c2 E2
  rw [World.size_alloc] at b2
  exact ⟨hh.1.trans (hb.mono hh.1.size), (Bd.new w _ _ _ _ _ _).alloc _, h1.below hb, b2, h2.below hb⟩
/-- One came ahead. -/
theorem RelU.new1 {X : Nat} (hh : HoldU u0 [X] w) (h1 : Mq w V1 A1 m1 c1 es1) (h2 : Mq w V2 A2 m2 c2 es2) :
    RelU u0 X g1 A1 m1 c1 E1 V1 es1 w.heap.size g2 A2 m2 c2 E2 V2 es2 ((World.put w X g1 A1 m1 c1 E1).alloc (.cells #[.bool g2, .slice A2 m2 c2, .int .i64 E2] 32)) := by
  obtain ⟨k1, k2⟩ := hh.2.1 X (List.mem_cons.2 (Or.inl rfl))
  have e1 := below_put hh.1 k2 g1 A1 m1 c1 E1
  have hb := below1 (World.put w X g1 A1 m1 c1 E1) (.cells #[.bool g2, .slice A2 m2 c2, .int .i64 E2] 32)
  have b2 := Bd.new (World.put w X g1 A1 m1 c1 E1) 32 g2 A2 m2 c2 E2
  rw [put_size] at b2
  exact ⟨e1.trans (hb.mono e1.size), (k1.put _ _ _ _ _).below hb, (h1.put k1 _ _ _ _ _).below hb, b2, (h2.put k1 _ _ _ _ _).below hb⟩
/-- Both came ahead. -/
theorem RelU.new0 {X Y : Nat} (hh : HoldU u0 [Y, X] w) (h1 : Mq w V1 A1 m1 c1 es1) (h2 : Mq w V2 A2 m2 c2 es2) :
    RelU u0 X g1 A1 m1 c1 E1 V1 es1 Y g2 A2 m2 c2 E2 V2 es2 (World.put (World.put w X g1 A1 m1 c1 E1) Y g2 A2 m2 c2 E2) ∧
    RelU u0 X g1 A1 m1 c1 E1 V1 es1 Y g2 A2 m2 c2 E2 V2 es2 (World.put (World.put w Y g2 A2 m2 c2 E2) X g1 A1 m1 c1 E1) := by
  obtain ⟨x1, x2⟩ := hh.2.1 X (List.mem_cons.2 (Or.inr (List.mem_cons.2 (Or.inl rfl))))
  obtain ⟨y1, y2⟩ := hh.2.1 Y (List.mem_cons.2 (Or.inl rfl))
  have hXY := (List.pairwise_cons.1 hh.2.2).1 X (List.mem_cons.2 (Or.inl rfl))
  constructor
  · have q1 := x1.put g1 A1 m1 c1 E1
    have q2 := y1.other (b' := X) (by omega) g1 A1 m1 c1 E1
    exact ⟨below_put (below_put hh.1 x2 _ _ _ _ _) y2 _ _ _ _ _, q1.other (by omega) _ _ _ _ _, (h1.put x1 _ _ _ _ _).put q2 _ _ _ _ _, q2.put _ _ _ _ _, (h2.put x1 _ _ _ _ _).put q2 _ _ _ _ _⟩
  · have q1 := y1.put g2 A2 m2 c2 E2
    have q2 := x1.other (b' := Y) (by omega) g2 A2 m2 c2 E2
    exact ⟨below_put (below_put hh.1 y2 _ _ _ _ _) x2 _ _ _ _ _, q2.put _ _ _ _ _, (h1.put y1 _ _ _ _ _).put q2 _ _ _ _ _, q1.other (by omega) _ _ _ _ _, (h2.put y1 _ _ _ _ _).put q2 _ _ _ _ _⟩
end

/-- One dyad in a new block. -/
def RelO (u0 : World) (p : Nat) (g : Bool) (A : Option Addr) (m c : Nat) (E : Int) (V : Nat) (es : List Nat) (w : World) : Prop :=
  Below u0.heap.size u0 w ∧ Bd w p 32 g A m c E ∧ Mq w V A m c es ∧ u0.heap.size ≤ p
section
variable {u0 : World} {g : Bool} {A : Option Addr} {m c : Nat} {E : Int} {V : Nat} {es : List Nat} {w : World}
theorem RelO.last (hh : HoldU u0 [] w) (h1 : Mq w V A m c es) : RelO u0 w.heap.size g A m c E V es (w.alloc (.cells #[.bool g, .slice A m c, .int .i64 E] 32)) :=
  ⟨hh.1.trans ((below1 w _).mono hh.1.size), Bd.new w _ _ _ _ _ _, h1.below (below1 w _), hh.1.size⟩
theorem RelO.ahead {X : Nat} (hh : HoldU u0 [X] w) (h1 : Mq w V A m c es) : RelO u0 X g A m c E V es (World.put w X g A m c E) :=
  ⟨hh.at1 _ _ _ _ _, hh.first.put _ _ _ _ _, h1.put hh.first _ _ _ _ _, (hh.2.1 X (List.mem_cons.2 (Or.inl rfl))).2⟩
end
/-- Three cells of an old block. -/
abbrev Lo3 (w : World) (p : Nat) (g : Bool) (A : Option Addr) (m c : Nat) (E : Int) : Prop := w.cell? ⟨p, 0, none⟩ = some (.bool g) ∧ w.cell? ⟨p, 1, none⟩ = some (.slice A m c) ∧ w.cell? ⟨p, 2, none⟩ = some (.int .i64 E)
abbrev All6 (w : World) (p : Nat) (g : Bool) (A : Option Addr) (m c : Nat) (E : Int) (g' : Bool) (A' : Option Addr) (m' c' : Nat) (E' : Int) : Prop := w.cell? ⟨p, 0, none⟩ = some (.bool g) ∧ w.cell? ⟨p, 1, none⟩ = some (.slice A m c) ∧ w.cell? ⟨p, 2, none⟩ = some (.int .i64 E) ∧ w.cell? ⟨p, 3, none⟩ = some (.bool g') ∧ w.cell? ⟨p, 4, none⟩ = some (.slice A' m' c') ∧ w.cell? ⟨p, 5, none⟩ = some (.int .i64 E')
section
variable {w u : World} {b : Nat} {g1 : Bool} {A1 : Option Addr} {m1 c1 : Nat} {e1 : Int} {g2 : Bool} {A2 : Option Addr} {m2 c2 : Nat} {e2 : Int}
theorem Ib.lo3 (h : Ib w b g1 A1 m1 c1 e1 g2 A2 m2 c2 e2) (hb : Below w.heap.size w u) : Lo3 u b g1 A1 m1 c1 e1 := ⟨(h.below hb).x0, (h.below hb).x1, (h.below hb).x2⟩
theorem Ib.all6 (h : Ib w b g1 A1 m1 c1 e1 g2 A2 m2 c2 e2) (hb : Below w.heap.size w u) : All6 u b g1 A1 m1 c1 e1 g2 A2 m2 c2 e2 := ⟨(h.below hb).x0, (h.below hb).x1, (h.below hb).x2, (h.below hb).x3, (h.below hb).x4, (h.below hb).x5⟩
end
end Go.Proofs.YtijhdlkfihjbiaaGreatDoor
/- The walks of planimeterlaw13.Holds and Thin (written by law_lholds.py). -/
namespace Go.Proofs.YtijhdlkfihjbiaaGreatDoor
open Go.RowKit

theorem nO_mk {g : Bool} {V : Nat} {e : Int} {b : Dy} (h : mk g V e = some b) : nO g V e = b := by
  rw [mk_nO] at h
  unfold toldD at h
  split at h
  · rename_i h0
    have hb := Option.some.inj h
    rcases nO_odd g V e with ⟨m, hm⟩ | hz
    · omega
    · rw [hz]; exact hb
  · split at h
    · cases h
    · exact Option.some.inj h
theorem cmpI_le {x y : Int} (h : x ≤ y) : cmpI x y ≤ 0 := by
  rcases Int.lt_trichotomy x y with h1 | h1 | h1
  · rw [cmpI_lt h1]; decide
  · rw [cmpI_eq h1]; decide
  · omega

/-- What Holds is walked over: three boxes. -/
def HoldT3 (w : World) (g1 : Bool) (A1 : Option Addr) (m1 c1 : Nat) (e1 : Int) (g2 : Bool) (A2 : Option Addr) (m2 c2 : Nat) (e2 : Int) (og : Bool) (Ao : Option Addr) (mo co : Nat) (oE : Int) (fg : Bool) (Af : Option Addr) (mf cf : Nat) (fE : Int) (u : World) : Prop :=
  Ib u w.heap.size g1 A1 m1 c1 e1 g2 A2 m2 c2 e2 ∧ Bd u (w.heap.size + 1) 28 og Ao mo co oE ∧ Bd u (w.heap.size + 1 + 1) 28 fg Af mf cf fE ∧ Below w.heap.size w u
section
variable {w u u' : World} {g1 : Bool} {A1 : Option Addr} {m1 c1 : Nat} {e1 : Int} {g2 : Bool} {A2 : Option Addr} {m2 c2 : Nat} {e2 : Int} {og : Bool} {Ao : Option Addr} {mo co : Nat} {oE : Int} {fg : Bool} {Af : Option Addr} {mf cf : Nat} {fE : Int}
theorem HoldT3.below (h : HoldT3 w g1 A1 m1 c1 e1 g2 A2 m2 c2 e2 og Ao mo co oE fg Af mf cf fE u) (hb : Below u.heap.size u u') : HoldT3 w g1 A1 m1 c1 e1 g2 A2 m2 c2 e2 og Ao mo co oE fg Af mf cf fE u' :=
  ⟨h.1.below hb, h.2.1.below hb, h.2.2.1.below hb, h.2.2.2.trans (hb.mono h.2.2.2.size)⟩
theorem HoldT3.old (h : HoldT3 w g1 A1 m1 c1 e1 g2 A2 m2 c2 e2 og Ao mo co oE fg Af mf cf fE u) : Below w.heap.size w u := h.2.2.2
theorem HoldT3.start : HoldT3 w g1 A1 m1 c1 e1 g2 A2 m2 c2 e2 og Ao mo co oE fg Af mf cf fE (((w.alloc (.cells #[.bool g1, .slice A1 m1 c1, .int .i64 e1, .bool g2, .slice A2 m2 c2, .int .i64 e2] 34)).alloc (.cells #[.bool og, .slice Ao mo co, .int .i64 oE] 28)).alloc (.cells #[.bool fg, .slice Af mf cf, .int .i64 fE] 28)) := by
  have a := below1 w (.cells #[.bool g1, .slice A1 m1 c1, .int .i64 e1, .bool g2, .slice A2 m2 c2, .int .i64 e2] 34)
  have b := below1 (w.alloc (.cells #[.bool g1, .slice A1 m1 c1, .int .i64 e1, .bool g2, .slice A2 m2 c2, .int .i64 e2] 34)) (.cells #[.bool og, .slice Ao mo co, .int .i64 oE] 28)
  have c := below1 ((w.alloc (.cells #[.bool g1, .slice A1 m1 c1, .int .i64 e1, .bool g2, .slice A2 m2 c2, .int .i64 e2] 34)).alloc (.cells #[.bool og, .slice Ao mo co, .int .i64 oE] 28)) (.cells #[.bool fg, .slice Af mf cf, .int .i64 fE] 28)
  have n2 := Bd.new (w.alloc (.cells #[.bool g1, .slice A1 m1 c1, .int .i64 e1, .bool g2, .slice A2 m2 c2, .int .i64 e2] 34)) 28 og Ao mo co oE
  have n3 := Bd.new ((w.alloc (.cells #[.bool g1, .slice A1 m1 c1, .int .i64 e1, .bool g2, .slice A2 m2 c2, .int .i64 e2] 34)).alloc (.cells #[.bool og, .slice Ao mo co, .int .i64 oE] 28)) 28 fg Af mf cf fE
  rw [World.size_alloc] at n2
  rw [World.size_alloc, World.size_alloc] at n3
  have ab := a.trans (b.mono a.size)
  exact ⟨((Ib.new w g1 A1 m1 c1 e1 g2 A2 m2 c2 e2).below b).below c, n2.below c, n3, ab.trans (c.mono ab.size)⟩
theorem HoldT3.cells (h : HoldT3 w g1 A1 m1 c1 e1 g2 A2 m2 c2 e2 og Ao mo co oE fg Af mf cf fE u) :
    u.cell? ⟨w.heap.size, 0, none⟩ = some (.bool g1) ∧ u.cell? ⟨w.heap.size, 1, none⟩ = some (.slice A1 m1 c1) ∧ u.cell? ⟨w.heap.size, 2, none⟩ = some (.int .i64 e1) ∧ u.cell? ⟨w.heap.size, 3, none⟩ = some (.bool g2) ∧ u.cell? ⟨w.heap.size, 4, none⟩ = some (.slice A2 m2 c2) ∧ u.cell? ⟨w.heap.size, 5, none⟩ = some (.int .i64 e2) ∧
    u.cell? ⟨w.heap.size + 1, 0, none⟩ = some (.bool og) ∧ u.cell? ⟨w.heap.size + 1, 1, none⟩ = some (.slice Ao mo co) ∧ u.cell? ⟨w.heap.size + 1, 2, none⟩ = some (.int .i64 oE) ∧
    u.cell? ⟨w.heap.size + 1 + 1, 0, none⟩ = some (.bool fg) ∧ u.cell? ⟨w.heap.size + 1 + 1, 1, none⟩ = some (.slice Af mf cf) ∧ u.cell? ⟨w.heap.size + 1 + 1, 2, none⟩ = some (.int .i64 fE) :=
  ⟨h.1.x0, h.1.x1, h.1.x2, h.1.x3, h.1.x4, h.1.x5, h.2.1.c0, h.2.1.c1, h.2.1.c2, h.2.2.1.c0, h.2.2.1.c1, h.2.2.1.c2⟩
end

end Go.Proofs.YtijhdlkfihjbiaaGreatDoor
