/- What the laws of layer 13 say of logarithms: of a product, in order, of powers of two; numbers alone. And what their walks rest on. -/
import Derived.Test.YtijhdlkfihjbiaaDoorLgAlive
import Derived.Test.YtijhdlkfihjbiaaDoorK2
namespace Go.Proofs.YtijhdlkfihjbiaaDoor
open Go.RowKit

theorem log_ge {d : Dy} {s : Nat} {L H : Int} (hd : LogD d) (h : LogV d s L H) {a : Rat} (ha : a * ((2 ^ s : Nat) : Rat) = (L : Rat)) : LnGe (rat false d.V d.e) a := by
  obtain ⟨b, hb⟩ := parts_ex s H
  exact (log_ends hd h ha hb).1
theorem log_le {d : Dy} {s : Nat} {L H : Int} (hd : LogD d) (h : LogV d s L H) {b : Rat} (hb : b * ((2 ^ s : Nat) : Rat) = (H : Rat)) : LnLe (rat false d.V d.e) b := by
  obtain ⟨a, ha⟩ := parts_ex s L
  exact (log_ends hd h ha hb).2
theorem parts_add {s : Nat} {L M : Int} {a b c : Rat} (ha : a * ((2 ^ s : Nat) : Rat) = (L : Rat)) (hb : b * ((2 ^ s : Nat) : Rat) = (M : Rat)) (hc : c * ((2 ^ s : Nat) : Rat) = ((L + M : Int) : Rat)) : c = a + b := by
  refine rat_eq_of (rnat_pos (Nat.two_pow_pos s)) ?_
  have e : ((L + M : Int) : Rat) = (L : Rat) + (M : Rat) := by exact_mod_cast rfl
  rw [e] at hc
  grind
/-- Of a product. -/
theorem rules_sum {x y p : Dy} {s : Nat} {Lx Hx Ly Hy Lp Hp : Int} (dx : LogD x) (dy : LogD y) (dp : LogD p) (vx : LogV x s Lx Hx) (vy : LogV y s Ly Hy) (vp : LogV p s Lp Hp) (hp : rat false p.V p.e = rat false x.V x.e * rat false y.V y.e) : Lx + Ly ≤ Hp ∧ Lp ≤ Hx + Hy := by
  have x0 := log_pos dx
  have y0 := log_pos dy
  constructor
  · refine ends_le (s := s) (log_pos dp) Rat.le_refl (fun {c} hc => ?_) (fun hb => log_le dp vp hb)
    obtain ⟨a, ha⟩ := parts_ex s Lx
    obtain ⟨b, hb⟩ := parts_ex s Ly
    rw [parts_add ha hb hc, hp]
    exact LnGe.mul (Rat.le_of_lt x0) (Rat.le_of_lt y0) (log_ge dx vx ha) (log_ge dy vy hb)
  · refine ends_le (s := s) (log_pos dp) Rat.le_refl (fun hb => log_ge dp vp hb) (fun {c} hc => ?_)
    obtain ⟨a, ha⟩ := parts_ex s Hx
    obtain ⟨b, hb⟩ := parts_ex s Hy
    rw [parts_add ha hb hc, hp]
    exact LnLe.mul (Rat.le_of_lt x0) (Rat.le_of_lt y0) (log_le dx vx ha) (log_le dy vy hb)
/-- In order. -/
theorem rules_ord {x y : Dy} {s : Nat} {Lx Hx Ly Hy : Int} (dx : LogD x) (dy : LogD y) (vx : LogV x s Lx Hx) (vy : LogV y s Ly Hy) (h : rat false x.V x.e ≤ rat false y.V y.e) : Lx ≤ Hy :=
  ends_le (s := s) (log_pos dx) h (fun ha => log_ge dx vx ha) (fun hb => log_le dy vy hb)
theorem part_nought {s : Nat} {a : Rat} (h : a * ((2 ^ s : Nat) : Rat) = ((0 : Int) : Rat)) : a = 0 := by
  have z : ((0 : Int) : Rat) = 0 := by exact_mod_cast rfl
  rw [z] at h
  refine rat_eq_of (rnat_pos (Nat.two_pow_pos s)) ?_
  grind
/-- Above 1 and below. -/
theorem rules_up {x : Dy} {s : Nat} {Lx Hx : Int} (dx : LogD x) (vx : LogV x s Lx Hx) (h : 1 ≤ rat false x.V x.e) : 0 ≤ Hx :=
  ends_le (s := s) (D := 1) (by grind) h (fun ha => by rw [part_nought ha]; exact LnGe.one) (fun hb => log_le dx vx hb)
theorem rules_down {x : Dy} {s : Nat} {Lx Hx : Int} (dx : LogD x) (vx : LogV x s Lx Hx) (h : rat false x.V x.e ≤ 1) : Lx ≤ 0 :=
  ends_le (s := s) (T := 1) (log_pos dx) h (fun ha => log_ge dx vx ha) (fun hb => by rw [part_nought hb]; exact LnLe.one)

/-- A dyad above 0, made bare. -/
theorem logd_of {V : Nat} {e : Int} {d : Dy} (h : mk false V e = some d) (h0 : V ≠ 0) (hb : blen V ≤ 4000) (h1 : -1000000 ≤ e) (h2 : e ≤ 1000000) : LogD d ∧ rat false d.V d.e = rat false V e ∧ d.neg = false ∧ d.V ≤ V := by
  obtain ⟨k1, k2, k3, k4⟩ := mk_fine h
  obtain ⟨_, j2, j3⟩ := toldD_fine h
  have v0 : d.V ≠ 0 := fun h' => h0 (k3.1 h')
  obtain ⟨j4, j5⟩ := j3 (by rw [← j2]; exact v0)
  rw [held_id (by omega) (by omega)] at j5
  have hl := low_le_blen V
  have hb2 := blen_mono k4
  have hp := blen_pos v0
  refine ⟨⟨k1, j4, v0, by omega, by omega, by omega⟩, ?_, j4, k4⟩
  rw [j4] at k2
  exact Rat.le_antisymm (rat_le.2 (by omega)) (rat_le.2 (by omega))
/-- Two such and their product. -/
theorem prod_of {V U : Nat} {e f : Int} (hV : V ≠ 0) (hU : U ≠ 0) (h1 : V < 18446744073709551616) (h2 : U < 18446744073709551616) (e1 : -1000 ≤ e) (e2 : e ≤ 1000) (f1 : -1000 ≤ f) (f2 : f ≤ 1000) :
    ∃ x y p, mk false V e = some x ∧ mk false U f = some y ∧ mulO (mk false V e) (mk false U f) = some p ∧ LogD x ∧ LogD y ∧ rat false x.V x.e = rat false V e ∧ rat false y.V y.e = rat false U f ∧
      p.neg = false ∧ ∃ q, mk false p.V p.e = some q ∧ LogD q ∧ p.V ≠ 0 ∧ rat false q.V q.e = rat false x.V x.e * rat false y.V y.e := by
  have b1 : blen V ≤ 64 := blen_le_iff.2 h1
  have b2 : blen U ≤ 64 := blen_le_iff.2 h2
  obtain ⟨x, hx⟩ := mk_some (g := false) (V := V) (e := e) (by omega) (by omega) (fun _ => by omega)
  obtain ⟨y, hy⟩ := mk_some (g := false) (V := U) (e := f) (by omega) (by omega) (fun _ => by omega)
  obtain ⟨dx, rx, nx, lx⟩ := logd_of hx hV (by omega) (by omega) (by omega)
  obtain ⟨dy, ry, ny, ly⟩ := logd_of hy hU (by omega) (by omega) (by omega)
  have bx := blen_mono lx
  have bY := blen_mono ly
  have px := blen_pos dx.2.2.1
  have py := blen_pos dy.2.2.1
  have ex := mk_low hx (by omega) (by omega)
  have ey := mk_low hy (by omega) (by omega)
  obtain ⟨_, _, jx⟩ := toldD_fine hx
  obtain ⟨_, _, jy⟩ := toldD_fine hy
  have jx' := (jx (fun h => dx.2.2.1 (by rw [(toldD_fine hx).2.1]; exact h))).2
  have jy' := (jy (fun h => dy.2.2.1 (by rw [(toldD_fine hy).2.1]; exact h))).2
  rw [held_id (by omega) (by omega)] at jx' jy'
  have l1 := low_le_blen V
  have l2 := low_le_blen U
  have p0 : x.V * y.V ≠ 0 := Nat.mul_ne_zero dx.2.2.1 dy.2.2.1
  have pl : blen (x.V * y.V) ≤ 128 := by
    refine blen_le_iff.2 ?_
    have g1 : x.V < 18446744073709551616 := by omega
    have g2 : y.V < 18446744073709551616 := by omega
    have g3 : x.V * y.V < 18446744073709551616 * 18446744073709551616 := Nat.mul_lt_mul'' g1 g2
    exact Nat.lt_of_lt_of_le g3 (by decide)
  have hm : mulO (mk false V e) (mk false U f) = some ⟨false, x.V * y.V, x.e + y.e⟩ := by
    rw [hx, hy]
    show mulB x y = _
    unfold mulB
    rw [if_neg (by omega), nx, ny]
    unfold toldD
    rw [if_neg p0, if_neg (by omega)]
    rfl
  obtain ⟨q, hq⟩ := mk_some (g := false) (V := x.V * y.V) (e := x.e + y.e) (by omega) (by omega) (fun _ => by omega)
  obtain ⟨dq, rq, _, _⟩ := logd_of hq p0 (by omega) (by omega) (by omega)
  refine ⟨x, y, _, hx, hy, hm, dx, dy, rx, ry, rfl, q, hq, dq, p0, ?_⟩
  rw [rq]
  exact rat_mul (dw_mul false false (by rw [held_id (by omega) (by omega), held_id (by omega) (by omega), held_id (by omega) (by omega)]))
theorem rat_of_cmp {V U : Nat} {e f : Int} (h : cmpI (dw false V e) (dw false U f) ≤ 0) : rat false V e ≤ rat false U f := rat_cmp.1 h
theorem rat_of_cmp' {V U : Nat} {e f : Int} (h : 0 ≤ cmpI (dw false V e) (dw false U f)) : rat false U f ≤ rat false V e := by
  refine rat_cmp.1 ?_
  rw [cmpI_swap]
  omega
theorem rat_one : rat false 1 0 = 1 := tw_zero

/-- Powers of two. -/
theorem tw_two : tw 1 = 2 := by
  have e := tw_up (E := 0) (F := 1) (k := 1) (by decide) (by decide) (by decide)
  rw [tw_zero] at e
  have e2 : (2 : Rat) ^ 1 = 2 := by rw [Rat.pow_succ, Rat.pow_zero]; grind
  rw [e2] at e
  grind
theorem tw_turn {n : Int} (h1 : -1048576 ≤ n) (h2 : n ≤ 1048576) : tw n * tw (-n) = 1 := by
  rcases Int.le_total 0 n with h | h
  · obtain ⟨k, rfl⟩ := Int.eq_ofNat_of_zero_le h
    have e1 := tw_up (E := -(k : Int)) (F := 0) (k := k) (by omega) (by decide) (by omega)
    have e2 := tw_up (E := 0) (F := (k : Int)) (k := k) (by decide) (by omega) (by omega)
    rw [tw_zero] at e1 e2
    rw [e2]
    grind
  · obtain ⟨k, hk⟩ := Int.eq_ofNat_of_zero_le (show 0 ≤ -n by omega)
    have e1 := tw_up (E := n) (F := 0) (k := k) (by omega) (by decide) (by omega)
    have e2 := tw_up (E := 0) (F := -n) (k := k) (by decide) (by omega) (by omega)
    rw [tw_zero] at e1 e2
    rw [e2]
    grind
theorem pows_all {n : Int} {s : Nat} {Lp Hp Lq Hq Lt Ht : Int} (h1 : -2000 ≤ n) (h2 : n ≤ 2000) (vp : LogV ⟨false, 1, n⟩ s Lp Hp) (vq : LogV ⟨false, 1, -n⟩ s Lq Hq) (vt : LogV ⟨false, 1, 1⟩ s Lt Ht) :
    Lp ≤ (if 0 ≤ n then n * Ht else n * Lt) ∧ (if 0 ≤ n then n * Lt else n * Ht) ≤ Hp ∧ -Hq ≤ Hp ∧ Lp ≤ -Lq := by
  have dp := logd_one n (by omega) (by omega)
  have dq := logd_one (-n) (by omega) (by omega)
  have dt := logd_one 1 (by decide) (by decide)
  have t0 := tw_pos n
  have u0 := tw_pos (-n)
  have tt := tw_turn (n := n) (by omega) (by omega)
  obtain ⟨a, ha⟩ := parts_ex s Lt
  obtain ⟨b, hb⟩ := parts_ex s Ht
  have g1 : LnGe 2 a := by have := log_ge dt vt ha; rw [show rat false (1 : Nat) (1 : Int) = 2 from tw_two] at this; exact this
  have g2 : LnLe 2 b := by have := log_le dt vt hb; rw [show rat false (1 : Nat) (1 : Int) = 2 from tw_two] at this; exact this
  obtain ⟨w1, w2⟩ := tw_ends (E := n) (by omega) (by omega) g1 g2
  have same : ∀ {M : Int} {c d : Rat}, d * ((2 ^ s : Nat) : Rat) = (M : Rat) → c * ((2 ^ s : Nat) : Rat) = ((n * M : Int) : Rat) → c = (n : Rat) * d := fun {M c d} h1 h2 => by
    refine rat_eq_of (rnat_pos (Nat.two_pow_pos s)) ?_
    have e : ((n * M : Int) : Rat) = (n : Rat) * (M : Rat) := by exact_mod_cast rfl
    rw [e, ← h1] at h2
    grind
  have turn : ∀ {M : Int} {c d : Rat}, d * ((2 ^ s : Nat) : Rat) = (M : Rat) → c * ((2 ^ s : Nat) : Rat) = ((-M : Int) : Rat) → c = -d := fun {M c d} h1 h2 => by
    refine rat_eq_of (rnat_pos (Nat.two_pow_pos s)) ?_
    rw [Rat.intCast_neg, ← h1] at h2
    grind
  refine ⟨?_, ?_, ?_, ?_⟩
  · refine ends_le (s := s) (log_pos dp) Rat.le_refl (fun hc => log_ge dp vp hc) (fun {c} hc => ?_)
    by_cases h0 : 0 ≤ n
    · rw [if_pos h0] at hc w2
      rw [same hb hc]
      exact w2
    · rw [if_neg h0] at hc w2
      rw [same ha hc]
      exact w2
  · refine ends_le (s := s) (log_pos dp) Rat.le_refl (fun {c} hc => ?_) (fun hc => log_le dp vp hc)
    by_cases h0 : 0 ≤ n
    · rw [if_pos h0] at hc w1
      rw [same ha hc]
      exact w1
    · rw [if_neg h0] at hc w1
      rw [same hb hc]
      exact w1
  · refine ends_le (s := s) (log_pos dp) Rat.le_refl (fun {c} hc => ?_) (fun hc => log_le dp vp hc)
    obtain ⟨d, hd⟩ := parts_ex s Hq
    rw [turn hd hc]
    exact LnLe.inv (Rat.le_of_lt t0) (show tw (-n) * tw n = 1 by grind) (log_le dq vq hd)
  · refine ends_le (s := s) (log_pos dp) Rat.le_refl (fun hc => log_ge dp vp hc) (fun {c} hc => ?_)
    obtain ⟨d, hd⟩ := parts_ex s Lq
    rw [turn hd hc]
    exact LnGe.inv (Rat.le_of_lt t0) (show tw (-n) * tw n = 1 by grind) (log_ge dq vq hd)
end Go.Proofs.YtijhdlkfihjbiaaDoor
