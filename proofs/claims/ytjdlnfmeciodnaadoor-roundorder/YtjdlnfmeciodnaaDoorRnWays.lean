/- The walk of RoundOrder. -/
import Derived.Test.YtjdlnfmeciodnaaDoorRnLaw
namespace Go.Proofs.YtjdlnfmeciodnaaDoor
open Go.RowKit

theorem toR_lt {g : Bool} {V : Nat} {e : Int} {more : Bool} {dir : Int} {x f : Nat} {E : Int} (h : toR g V e more dir = (x, f, E)) : x < 18446744073709551616 ∧ (E = 0 ∨ E = 1) := by
  unfold toR at h
  cases hc : chk (mk g V e) more dir with
  | none => rw [hc] at h; simp only [Prod.mk.injEq] at h; omega
  | some d =>
    rw [hc] at h
    simp only at h
    split at h
    · simp only [Prod.mk.injEq] at h; omega
    · rename_i h0
      simp only [Prod.mk.injEq] at h
      have hf : Fine d := by
        unfold chk at hc
        split at hc
        · split at hc
          · cases hc
          · rename_i d' hd'
            split at hc
            · cases hc
            · obtain rfl := Option.some.inj hc
              exact (mk_fine hd').1
        · cases hc
      obtain ⟨Y, F, hY, r1, _⟩ := rnd_mir d.neg (V := d.V) (e := d.e) more dir h0 hf.1 hf.2.1
      rw [r1] at h
      have h1 : sgn d.neg Y = x := h.1
      unfold sgn at h1
      split at h1 <;> omega
theorem far_eq (r : Nat) (hr : r ≤ 3) : toR true (val [1]) 2000 false (r : Int) = ((overO true (r : Int)).1, 5, 0) := by
  have hv : val [1] = 1 := by decide
  have hl : low 1 = 0 := low_eq (l := 0) (m := 0) (by decide)
  have hm : mk true 1 2000 = some ⟨true, 1, 2000⟩ := by unfold mk; rw [hl]; rfl
  have h := toR_some (more := false) (dir := (r : Int)) (by omega) hm (by decide)
  simp only at h
  have hr2 : rndO true 1 2000 false (r : Int) = overO true (r : Int) := by
    unfold rndO; rw [if_pos (by decide)]
  rw [hv, h, hr2]
  rfl
theorem small_eq (r : Nat) (hr : r ≤ 3) : toR false (val [1]) (-2000) false (r : Int) = (sgn false (awy false (r : Int) false false true).toNat, 3, 0) := by
  have hv : val [1] = 1 := by decide
  have hl : low 1 = 0 := low_eq (l := 0) (m := 0) (by decide)
  have hm : mk false 1 (-2000) = some ⟨false, 1, -2000⟩ := by unfold mk; rw [hl]; rfl
  have h := toR_some (more := false) (dir := (r : Int)) (by omega) hm (by decide)
  simp only at h
  have hr2 : rndO false 1 (-2000) false (r : Int) = (sgn false (awy false (r : Int) false false true).toNat, 3) := by
    have h4 : r = 0 ∨ r = 1 ∨ r = 2 ∨ r = 3 := by omega
    rcases h4 with rfl | rfl | rfl | rfl <;> decide +kernel
  rw [hv, h, hr2]

/-- What To tells of Minus. -/
def mTo (g : Bool) (V : Nat) (e : Int) (M : Int) : Nat × Nat × Int :=
  match mk (!g) V e with
  | some b => toR b.neg b.V b.e false M
  | none => toR (!g) V e false M
theorem minus_to (M : Int) (g : Bool) (A : Option Addr) (n c : Nat) (xs : List Nat) (e1 : Int) (w : World) (hA : Lim w A n c xs) (hn : n ≤ 1000000) (hT : Tab w) :
    Calls Tryd.prog 11 #[.agg #[.bool g, .slice A n c, .int .i64 e1]] w fun e w' => ∃ (g' : Bool) (A' : Option Addr) (m' c' : Nat) (zs : List Nat) (E' : Int), e = .returned (.agg #[.bool g', .slice A' m' c', .int .i64 E']) ∧ m' ≤ n ∧ Lim w' A' m' c' zs ∧ toR g' (val zs) E' false M = mTo g (val xs) e1 M ∧ Below w.heap.size w w' := by
  unfold mTo
  cases hm : mk (!g) (val xs) e1 with
  | some b =>
    refine (minus_any b g A n c xs e1 w hA hn hT hm).mono ?_
    rintro e w' ⟨A', m', c', zs, rfl, h1, h2, _, h4, h5⟩
    exact ⟨_, A', m', c', zs, _, rfl, h1, h2, by rw [h4], h5⟩
  | none =>
    refine (minus_no g A n c xs e1 w hA hn hT hm).mono ?_
    rintro e w' ⟨A', c', rfl, h2, h5⟩
    exact ⟨_, A', n, c', xs, _, rfl, Nat.le_refl _, h2, rfl, h5⟩

/-- Both arguments in their boxes. -/
def HeldR (w0 : World) (b1 : Nat) (g : Bool) (A : Option Addr) (n c : Nat) (xs : List Nat) (e1 : Int) (b2 : Nat) (k : Bool) (B : Option Addr) (m d : Nat) (ys : List Nat) (e2 : Int) (w : World) : Prop :=
  Bd w b1 24 g A n c e1 ∧ Bd w b2 24 k B m d e2 ∧ Lim w A n c xs ∧ Lim w B m d ys ∧ Tab w ∧ Below w0.heap.size w0 w
theorem HeldR.below {w0 : World} {b1 : Nat} {g : Bool} {A : Option Addr} {n c : Nat} {xs : List Nat} {e1 : Int} {b2 : Nat} {k : Bool} {B : Option Addr} {m d : Nat} {ys : List Nat} {e2 : Int} {w w' : World}
    (h : HeldR w0 b1 g A n c xs e1 b2 k B m d ys e2 w) (hb : Below w.heap.size w w') : HeldR w0 b1 g A n c xs e1 b2 k B m d ys e2 w' := by
  obtain ⟨h1, h2, h3, h4, h5, h6⟩ := h
  exact ⟨h1.below hb, h2.below hb, h3.below hb, h4.below hb, h5.below hb, h6.trans (hb.mono h6.size)⟩
theorem HeldR.start (w : World) (g : Bool) (A : Option Addr) (n c : Nat) (xs : List Nat) (e1 : Int) (k : Bool) (B : Option Addr) (m d : Nat) (ys : List Nat) (e2 : Int) (hA : Lim w A n c xs) (hB : Lim w B m d ys) (hT : Tab w) :
    HeldR w w.heap.size g A n c xs e1 (w.heap.size + 1) k B m d ys e2 ((w.alloc (.cells #[.bool g, .slice A n c, .int .i64 e1] 24)).alloc (.cells #[.bool k, .slice B m d, .int .i64 e2] 24)) := by
  have a3 : Below w.heap.size w ((w.alloc (.cells #[.bool g, .slice A n c, .int .i64 e1] 24)).alloc (.cells #[.bool k, .slice B m d, .int .i64 e2] 24)) := ((Below.refl _ _).alloc (Nat.le_refl _) _).alloc (by simp) _
  have b1 := (Bd.new w 24 g A n c e1).alloc (.cells #[.bool k, .slice B m d, .int .i64 e2] 24)
  have b2 := Bd.new (w.alloc (.cells #[.bool g, .slice A n c, .int .i64 e1] 24)) 24 k B m d e2
  rw [World.size_alloc] at b2
  exact ⟨b1, b2, hA.below a3, hB.below a3, hT.below a3, a3⟩

set_option maxRecDepth 20000 in
set_option maxHeartbeats 1000000 in
theorem rorder_long (g : Bool) (A : Option Addr) (n c : Nat) (xs : List Nat) (e1 : Int) (k : Bool) (B : Option Addr) (m d : Nat) (ys : List Nat) (e2 : Int) (dir b : Int) (w : World) (hT : Tab w) (hA : Lim w A n c xs) (hB : Lim w B m d ys) (h : 40 < n ∨ (n ≤ 40 ∧ 40 < m)) :
    Calls Tryd.prog 4 #[.agg #[.bool g, .slice A n c, .int .i64 e1], .agg #[.bool k, .slice B m d, .int .i64 e2], .int .u8 dir, .int .u64 b] w fun e w' => e = .returned (.bool true) ∧ Below w.heap.size w w' := by
  have H0 := Lib.hid (HeldR.start w g A n c xs e1 k B m d ys e2 hA hB hT)
  have H1 := Lib.hid (ralive_any _ H0.out.2.2.2.2.1)
  clear hA hB hT
  rcases h with h | ⟨h, h'⟩
  all_goals (
    first
      | (have q1 : decide ((40 : Int) < (n : Int)) = true := decide_eq_true (by omega); clear h)
      | (have q1 : decide ((40 : Int) < (n : Int)) = false := decide_eq_false (by omega); have q1' : decide (40 < n) = false := decide_eq_false (by omega); have q2 : decide ((40 : Int) < (m : Int)) = true := decide_eq_true (by omega); clear h h')
    go_enter Tryd.func4, Tryd.ntmps4
    go_wp2_with fail
    refine H1.out.mono ?_
    rintro e w1 ⟨rfl, hb⟩
    have k1 := H0.out.below hb
    have x1 := k1.1.c1
    have y1 := k1.2.1.c1
    have Hfin := Lib.hid k1.2.2.2.2.2
    clear k1 hb H1 H0
    go_wp2
    go_ret
    exact ⟨rfl, Hfin.out⟩)
end Go.Proofs.YtjdlnfmeciodnaaDoor
