/- The walks of logs.ofTwos and ofFraction: so often ln 2, and a fraction's logarithm, as intervals. -/
import Derived.Test.YtijhdlkfihjbiaaDoorLgAt
import Derived.Test.YtijhdlkfihjbiaaDoorLgNear
namespace Go.Proofs.YtijhdlkfihjbiaaDoor
open Go.RowKit

/-- An interval and an error. -/
def ITold (w : World) (P : Dy → Dy → Int → Nat → Nat → Prop) (e : Ending) (w' : World) : Prop :=
  ∃ g1 A1 m1 c1 zs e1 g2 A2 m2 c2 us e2 r, e = .returned (.tuple #[.agg #[.bool g1, .slice A1 m1 c1, .int .i64 e1, .bool g2, .slice A2 m2 c2, .int .i64 e2], .int .i64 r]) ∧ m1 ≤ 300 ∧ m2 ≤ 300 ∧ Lim w' A1 m1 c1 zs ∧ Lim w' A2 m2 c2 us ∧ Bare zs ∧ Bare us ∧ Below w.heap.size w w' ∧ P ⟨g1, val zs, e1⟩ ⟨g2, val us, e2⟩ r m1 m2
/-- The result's block, not yet written. -/
def HoldI (w u : World) : Prop := Ib u w.heap.size false none 0 0 0 false none 0 0 0 ∧ Tab u ∧ Below w.heap.size w u
section
variable {w u u' : World}
theorem HoldI.below (h : HoldI w u) (hb : Below u.heap.size u u') : HoldI w u' := ⟨h.1.below hb, h.2.1.below hb, h.2.2.trans (hb.mono h.2.2.size)⟩
theorem HoldI.tab (h : HoldI w u) : Tab u := h.2.1
theorem HoldI.all (h : HoldI w u) : Below w.heap.size w u := h.2.2
theorem HoldI.start (hT : Tab w) : HoldI w (w.alloc (.cells #[.bool false, .slice none 0 0, .int .i64 0, .bool false, .slice none 0 0, .int .i64 0] 29)) :=
  ⟨Ib.new _ _ _ _ _ _ _ _ _ _ _, hT.below (below1 _ _), below1 _ _⟩
theorem HoldI.out (h : HoldI w u) {P : Dy → Dy → Int → Nat → Nat → Prop} {g1 : Bool} {A1 : Option Addr} {m1 c1 : Nat} {zs : List Nat} {e1 : Int} {g2 : Bool} {A2 : Option Addr} {m2 c2 : Nat} {us : List Nat} {e2 r : Int}
    (hm1 : m1 ≤ 300) (hm2 : m2 ≤ 300) (h1 : Lim u A1 m1 c1 zs) (h2 : Lim u A2 m2 c2 us) (b1 : Bare zs) (b2 : Bare us) (hP : P ⟨g1, val zs, e1⟩ ⟨g2, val us, e2⟩ r m1 m2) :
    ITold w P (.returned (.tuple #[.agg #[.bool g1, .slice A1 m1 c1, .int .i64 e1, .bool g2, .slice A2 m2 c2, .int .i64 e2], .int .i64 r])) (World.put6 u w.heap.size g1 A1 m1 c1 e1 g2 A2 m2 c2 e2) :=
  ⟨g1, A1, m1, c1, zs, e1, g2, A2, m2, c2, us, e2, r, rfl, hm1, hm2, h.1.lim h1 _ _ _ _ _ _ _ _ _ _, h.1.lim h2 _ _ _ _ _ _ _ _ _ _, b1, b2, below_put6 h.2.2 (Nat.le_refl _) _ _ _ _ _ _ _ _ _ _, hP⟩
theorem HoldI.no (h : HoldI w u) {P : Dy → Dy → Int → Nat → Nat → Prop} (hP : P ⟨false, 0, 0⟩ ⟨false, 0, 0⟩ 1 0 0) :
    ITold w P (.returned (.tuple #[.agg #[.bool false, .slice none 0 0, .int .i64 0, .bool false, .slice none 0 0, .int .i64 0], .int .i64 1])) (World.put6 u w.heap.size false none 0 0 0 false none 0 0 0) :=
  h.out (zs := []) (us := []) (by decide) (by decide) (Lim.nil _ _ _) (Lim.nil _ _ _) rfl rfl hP
end

/-- What ofTwos tells. -/
def TwosP (E s : Int) (d1 d2 : Dy) (r : Int) (m1 m2 : Nat) : Prop :=
  ((8 ≤ s ∧ s ≤ 9000) ∧ r = 0 ∧ ∃ l2 h2 : Nat, AtV false 1 3 (s.toNat + 1) l2 ∧ AtV true 1 3 (s.toNat + 1) h2 ∧ Un s.toNat (if 0 ≤ E then E * (l2 : Int) else E * (h2 : Int)) d1 ∧ Un s.toNat (if 0 ≤ E then E * (h2 : Int) else E * (l2 : Int)) d2) ∨
  (¬ (8 ≤ s ∧ s ≤ 9000) ∧ r = 1 ∧ m1 = 0 ∧ m2 = 0)
theorem twos_short {s l k : Nat} (hs : 8 ≤ s) (hs9 : s ≤ 9000) (hl : l ≤ 2 * 2 ^ s + 2) (hk : k ≤ 1048580) : blen (l * k) ≤ 64 * 145 := by
  have h := Nat.mul_le_mul hl hk
  have h8 : 2 ^ 8 ≤ 2 ^ s := Nat.pow_le_pow_right (by decide) hs
  have e : 2 ^ (s + 30) = 2 ^ s * 1073741824 := Nat.pow_add ..
  have := blen_le_iff.2 (show l * k < 2 ^ (s + 30) by rw [e]; generalize 2 ^ s = W at *; generalize l * k = Z at *; have : (2 : Nat) ^ 8 = 256 := rfl; omega)
  omega
theorem twos_un {E : Int} {g : Bool} {k l h s : Nat} {d : Dy} (hg : decide (E < 0) = g) (hk : max E (-E) = (k : Int)) (hs : s ≤ 9000) (hm : mk g (if g = true then h * k else l * k) (-(s : Int)) = some d) : Un s (if 0 ≤ E then E * (l : Int) else E * (h : Int)) d := by
  have u := un_mk hm hs
  cases g with
  | true =>
    have h0 : E < 0 := of_decide_eq_true hg
    rw [if_neg (by omega)]
    have e : E * (h : Int) = -((h * k : Nat) : Int) := by
      have : E = -(k : Int) := by omega
      rw [this, Int.natCast_mul, Int.neg_mul, Int.mul_comm]
    rw [e]
    exact u
  | false =>
    have h0 : ¬ E < 0 := of_decide_eq_false hg
    rw [if_pos (by omega)]
    have e : E * (l : Int) = ((l * k : Nat) : Int) := by
      have : E = (k : Int) := by omega
      rw [this, Int.natCast_mul, Int.mul_comm]
    rw [e]
    exact u
theorem val_pick (g : Bool) (xs ys : List Nat) : val (if g = true then ys else xs) = if g = true then val ys else val xs := by cases g <;> rfl

set_option maxHeartbeats 2000000 in
set_option maxRecDepth 20000 in
theorem twos_l (E s : Int) (w : World) (hT : Tab w) (hE1 : -1048580 ≤ E) (hE2 : E ≤ 1048580) (hs1 : -9223372036854775808 ≤ s) (hs2 : s ≤ 9223372036854775807) :
    Calls Tryd.prog 36 #[.int .i64 E, .int .i64 s] w (ITold w (TwosP E s)) := by
  have k0 := HoldI.start hT
  by_cases hs : 8 ≤ s ∧ s ≤ 9000
  case neg =>
    have H1 := Lib.hid (ln2_meets s _ k0.tab hs1 hs2)
    have K0 := Lib.hid k0
    have HN := Lib.hid hs
    clear hT k0 hs1 hs2 hs
    go_enter Tryd.func36, Tryd.ntmps36
    go_wp2_with fail
    refine H1.out.mono ?_
    rintro e w1 ⟨A1, m1, c1, zs, A2, m2, c2, us, r, rfl, hm1, hm2, hl1, hl2, hB1, hq⟩
    obtain rfl : r = 1 := by
      rcases hq with ⟨h, _⟩ | ⟨_, h, _⟩
      · exact absurd h HN.out
      · exact h
    have k1 := K0.out.below hB1
    have Hfin := Lib.hid (k1.no (P := TwosP E s) (Or.inr ⟨HN.out, rfl, rfl, rfl⟩))
    have zf := k1.1.fz
    have u0 := k1.1.x0
    have u1 := k1.1.x1
    have u2 := k1.1.x2
    have u3 := k1.1.x3
    have u4 := k1.1.x4
    have u5 := k1.1.x5
    clear H1 K0 HN hl1 hl2 hB1 hq k1
    go_wp2
    exact bodyPost_ret (v := .tuple #[.agg #[.bool false, .slice none 0 0, .int .i64 0, .bool false, .slice none 0 0, .int .i64 0], .int .i64 1]) (by simp [results, Tryd.results36, go_sem, u0, u1, u2, u3, u4, u5]) rfl Hfin.out
  case pos =>
    obtain ⟨k, rfl⟩ := Int.eq_ofNat_of_zero_le (show 0 ≤ s by omega)
    obtain ⟨x, hx⟩ : ∃ x : Nat, max E (-E) = (x : Int) := ⟨E.natAbs, by omega⟩
    obtain ⟨g, hg⟩ : ∃ g, decide (E < 0) = g := ⟨_, rfl⟩
    have hx9 : x ≤ 1048580 := by omega
    have hk8 : 8 ≤ k := by omega
    have hk9 : k ≤ 9000 := by omega
    have H1 := Lib.hid (ln2_told k _ k0.tab hk8 hk9)
    have K0 := Lib.hid k0
    have HG := Lib.hid hg
    have HX := Lib.hid hx
    have HK : Hid ((8 ≤ (k : Int) ∧ (k : Int) ≤ 9000) ∧ 8 ≤ k) := ⟨hs, hk8⟩
    have wn : IntKind.i64.wrap (-E) = -E := by rw [IntKind.wrap_i64]; omega
    clear hT k0 hs1 hs2 hs
    go_enter Tryd.func36, Tryd.ntmps36
    go_wp2_with fail
    refine H1.out.mono ?_
    rintro e w1 ⟨A1, m1, c1, zs, A2, m2, c2, us, r, rfl, hm1, hm2, hl1, hl2, hB1, rfl, v1, v2⟩
    replace K0 := Lib.hid (K0.out.below hB1)
    have HA : Hid (Lim w1 A1 m1 c1 zs) := hl1
    have HB : Hid (Lim w1 A2 m2 c2 us) := hl2
    have HV : Hid (AtV false 1 3 (k + 1) (val zs) ∧ AtV true 1 3 (k + 1) (val us)) := ⟨v1, v2⟩
    have H2 := Lib.hid (times_any A1 m1 c1 zs x w1 hl1 (by omega) (by omega) (by have := hl1.blen_le; omega))
    clear H1 hl1 hl2 hB1 v1 v2
    go_wp2_with fail
    refine H2.out.mono ?_
    rintro e w2 ⟨A3, m3, c3, ts, rfl, hm3, hl3, hb3, hv3, hB2⟩
    replace K0 := Lib.hid (K0.out.below hB2)
    replace HB := Lib.hid (HB.out.below hB2)
    have HL3 : Hid (Lim w2 A3 m3 c3 ts ∧ Bare ts ∧ val ts = val zs * x) := ⟨hl3, hb3, hv3⟩
    have H3 := Lib.hid (times_any A2 m2 c2 us x w2 HB.out (by omega) (by omega) (by have := HB.out.blen_le; omega))
    clear H2 hl3 hb3 hv3 hB2 HA
    go_wp2_with fail
    refine H3.out.mono ?_
    rintro e w3 ⟨A4, m4, c4, vs, rfl, hm4, hl4, hb4, hv4, hB3⟩
    replace K0 := Lib.hid (K0.out.below hB3)
    replace HL3 : Hid (Lim w3 A3 m3 c3 ts ∧ Bare ts ∧ val ts = val zs * x) := ⟨HL3.out.1.below hB3, HL3.out.2⟩
    have t2 := two_short HV.out.1 HV.out.2
    have h3 : m3 ≤ 145 := bare_le HL3.out.1 HL3.out.2.1 (by rw [HL3.out.2.2]; exact twos_short HK.out.2 hk9 (by omega) hx9)
    have h4 : m4 ≤ 145 := bare_le hl4 hb4 (by rw [hv4]; exact twos_short HK.out.2 hk9 (by omega) hx9)
    have t3 := (ln2_both HV.out.1 HV.out.2).2.1
    have H4 := Lib.hid (within_meets A3 m3 c3 ts A4 m4 c4 vs (k : Int) g w3 HL3.out.1 hl4 (by omega) (by omega) K0.out.tab (by omega) (by omega) (by rw [HL3.out.2.2, hv4]; exact Nat.mul_le_mul_right x t3))
    have HE : Hid (val ts = val zs * x ∧ val vs = val us * x) := ⟨HL3.out.2.2, hv4⟩
    clear H3 hl4 hb4 hv4 hB3 HB HL3 t2 t3
    go_wp2_with fail
    refine H4.out.mono ?_
    rintro e w4 ⟨g1, A5, m5, c5, ps, e1, g2, A6, m6, c6, qs, e2, rfl, hm5, hm6, hl5, hl6, hb5, hb6, hB4, hd1, hd2⟩
    rw [val_pick, HE.out.1, HE.out.2] at hd1 hd2
    have k4 := K0.out.below hB4
    have p1 := twos_un HG.out HX.out hk9 hd1
    have p2 := twos_un (l := val us) (h := val zs) HG.out HX.out hk9 (d := ⟨g2, val qs, e2⟩) (by rw [← hd2])
    have Hfin := Lib.hid (k4.out (P := TwosP E (k : Int)) (r := 0) hm5 hm6 hl5 hl6 hb5 hb6 (Or.inl ⟨HK.out.1, rfl, val zs, val us, HV.out.1, HV.out.2, p1, p2⟩))
    have zf := k4.1.fz
    have u0 := k4.1.x0
    have u1 := k4.1.x1
    have u2 := k4.1.x2
    have u3 := k4.1.x3
    have u4 := k4.1.x4
    have u5 := k4.1.x5
    clear H4 K0 HG HX HK HV HE hl5 hl6 hb5 hb6 hB4 hd1 hd2 k4 p1 p2 hg hx
    go_wp2
    exact bodyPost_ret (v := .tuple #[.agg #[.bool g1, .slice A5 m5 c5, .int .i64 e1, .bool g2, .slice A6 m6 c6, .int .i64 e2], .int .i64 0]) (by simp [results, Tryd.results36, go_sem, u0, u1, u2, u3, u4, u5]) rfl Hfin.out

/-- What ofFraction tells. -/
def FracP (X Y : Nat) (neg : Bool) (k : Nat) (d1 d2 : Dy) (r : Int) : Prop :=
  r = 0 ∧ ∃ lo hi : Nat, AtB X Y k lo hi ∧ lo ≤ hi ∧ hi ≤ lo + 2 ∧ (X = 0 → lo = 0 ∧ hi = 0) ∧ Un k (if neg then -(2 * (hi : Int)) else 2 * (lo : Int)) d1 ∧ Un k (if neg then -(2 * (lo : Int)) else 2 * (hi : Int)) d2
theorem frac_short {s l : Nat} (hs : 8 ≤ s) (hs9 : s ≤ 9000) (hl : l ≤ 2 ^ s + 2) : blen (l + l) ≤ 64 * 145 := by
  have h8 : 2 ^ 8 ≤ 2 ^ s := Nat.pow_le_pow_right (by decide) hs
  have e : 2 ^ (s + 30) = 2 ^ s * 1073741824 := Nat.pow_add ..
  have := blen_le_iff.2 (show l + l < 2 ^ (s + 30) by rw [e]; generalize 2 ^ s = W at *; have : (2 : Nat) ^ 8 = 256 := rfl; omega)
  omega
theorem frac_un {g : Bool} {l h s : Nat} {d : Dy} (hs : s ≤ 9000) (hm : mk g (if g = true then h + h else l + l) (-(s : Int)) = some d) : Un s (if g then -(2 * (h : Int)) else 2 * (l : Int)) d := by
  have u := un_mk hm hs
  cases g with
  | true =>
    have e : -(2 * (h : Int)) = -((h + h : Nat) : Int) := by omega
    show Un s (-(2 * (h : Int))) d
    rw [e]
    exact u
  | false =>
    have e : 2 * (l : Int) = ((l + l : Nat) : Int) := by omega
    show Un s (2 * (l : Int)) d
    rw [e]
    exact u

set_option maxHeartbeats 2000000 in
set_option maxRecDepth 20000 in
theorem frac_l (A : Option Addr) (n c : Nat) (xs : List Nat) (B : Option Addr) (m d : Nat) (ys : List Nat) (g : Bool) (k : Nat) (w : World) (hA : Lim w A n c xs) (hB : Lim w B m d ys) (hn : n ≤ 70) (hm : m ≤ 70) (hT : Tab w) (hk8 : 8 ≤ k) (hk9 : k ≤ 9000) (h3 : Third (val xs) (val ys)) :
    Calls Tryd.prog 37 #[.slice A n c, .slice B m d, .bool g, .int .i64 (k : Int)] w (ITold w fun d1 d2 r _ _ => FracP (val xs) (val ys) g k d1 d2 r) := by
  have k0 := HoldI.start hT
  have H1 := Lib.hid (atanh_told A n c xs B m d ys k _ (hA.alloc _) (hB.alloc _) hn hm k0.tab hk8 hk9 h3)
  have K0 := Lib.hid k0
  have H3 := Lib.hid h3
  have HK := Lib.hid hk8
  clear hT k0 hA hB h3
  go_enter Tryd.func37, Tryd.ntmps37
  go_wp2_with fail
  refine H1.out.mono ?_
  rintro e w1 ⟨A1, m1, c1, zs, A2, m2, c2, us, r, rfl, hm1, hm2, hl1, hl2, hB1, rfl, q1, q2, q3, q4⟩
  replace K0 := Lib.hid (K0.out.below hB1)
  have HB : Hid (Lim w1 A2 m2 c2 us) := hl2
  have HQ : Hid (AtB (val xs) (val ys) k (val zs) (val us) ∧ val zs ≤ val us ∧ val us ≤ val zs + 2 ∧ (val xs = 0 → val zs = 0 ∧ val us = 0)) := ⟨q1, q2, q3, q4⟩
  have H2 := Lib.hid (add_any A1 m1 c1 zs A1 m1 c1 zs w1 hl1 hl1 (by omega) (by omega))
  clear H1 hl1 hl2 hB1 q1 q2 q3 q4
  go_wp2_with fail
  refine H2.out.mono ?_
  rintro e w2 ⟨A3, m3, c3, ts, rfl, hm3, hl3, hb3, hv3, hB2⟩
  replace K0 := Lib.hid (K0.out.below hB2)
  replace HB := Lib.hid (HB.out.below hB2)
  have HL3 : Hid (Lim w2 A3 m3 c3 ts ∧ Bare ts ∧ val ts = val zs + val zs) := ⟨hl3, hb3, hv3⟩
  have H4 := Lib.hid (add_any A2 m2 c2 us A2 m2 c2 us w2 HB.out HB.out (by omega) (by omega))
  clear H2 hl3 hb3 hv3 hB2
  go_wp2_with fail
  refine H4.out.mono ?_
  rintro e w3 ⟨A4, m4, c4, vs, rfl, hm4, hl4, hb4, hv4, hB3⟩
  replace K0 := Lib.hid (K0.out.below hB3)
  replace HL3 : Hid (Lim w3 A3 m3 c3 ts ∧ Bare ts ∧ val ts = val zs + val zs) := ⟨HL3.out.1.below hB3, HL3.out.2⟩
  have t2 := at_short H3.out.2.2.1 H3.out.2.2.2 HQ.out.1
  have t3 := HQ.out.2
  have h3 : m3 ≤ 145 := bare_le HL3.out.1 HL3.out.2.1 (by rw [HL3.out.2.2]; exact frac_short HK.out hk9 (by omega))
  have h4 : m4 ≤ 145 := bare_le hl4 hb4 (by rw [hv4]; exact frac_short HK.out hk9 (by omega))
  have H5 := Lib.hid (within_meets A3 m3 c3 ts A4 m4 c4 vs (k : Int) g w3 HL3.out.1 hl4 (by omega) (by omega) K0.out.tab (by have := HK.out; omega) (by omega) (by rw [HL3.out.2.2, hv4]; omega))
  have HE : Hid (val ts = val zs + val zs ∧ val vs = val us + val us) := ⟨HL3.out.2.2, hv4⟩
  clear H4 hl4 hb4 hv4 hB3 HB HL3 t2 t3
  go_wp2_with fail
  refine H5.out.mono ?_
  rintro e w4 ⟨g1, A5, m5, c5, ps, e1, g2, A6, m6, c6, qs, e2, rfl, hm5, hm6, hl5, hl6, hb5, hb6, hB4, hd1, hd2⟩
  rw [val_pick, HE.out.1, HE.out.2] at hd1 hd2
  have k4 := K0.out.below hB4
  have p1 := frac_un hk9 hd1
  have p2 := frac_un (l := val us) (h := val zs) hk9 (d := ⟨g2, val qs, e2⟩) (by rw [← hd2])
  have Hfin := Lib.hid (k4.out (P := fun d1 d2 r _ _ => FracP (val xs) (val ys) g k d1 d2 r) (r := 0) hm5 hm6 hl5 hl6 hb5 hb6 ⟨rfl, val zs, val us, HQ.out.1, HQ.out.2.1, HQ.out.2.2.1, HQ.out.2.2.2, p1, p2⟩)
  have zf := k4.1.fz
  have u0 := k4.1.x0
  have u1 := k4.1.x1
  have u2 := k4.1.x2
  have u3 := k4.1.x3
  have u4 := k4.1.x4
  have u5 := k4.1.x5
  clear H5 K0 HK HQ HE H3 hl5 hl6 hb5 hb6 hB4 hd1 hd2 k4 p1 p2
  go_wp2
  exact bodyPost_ret (v := .tuple #[.agg #[.bool g1, .slice A5 m5 c5, .int .i64 e1, .bool g2, .slice A6 m6 c6, .int .i64 e2], .int .i64 0]) (by simp [results, Tryd.results37, go_sem, u0, u1, u2, u3, u4, u5]) rfl Hfin.out
end Go.Proofs.YtijhdlkfihjbiaaDoor
