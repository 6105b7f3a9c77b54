/- The walks of ratio.size, within, short and above. -/
import Derived.Test.YteflihpnhgicfaaDoorRtMath
import Derived.Test.YteflihpnhgicfaaDoorK2
namespace Go.Proofs.YteflihpnhgicfaaDoor
open Go.RowKit

theorem rsize_l (n : Int) (a : Nat) (w : World) (h1 : -9223372036854775808 ≤ n) (h2 : n ≤ 9223372036854775807) (ha : Hid (n.natAbs = a)) :
    Calls Tryd.prog 54 #[.int .i64 n] w fun e w' => e = .returned (.int .u64 (a : Int)) ∧ w = w' := by
  have ha' := ha.out
  clear ha
  by_cases hn : n < 0
  · have b1 : decide (n < 0) = true := decide_eq_true hn
    obtain ⟨q, hq⟩ : ∃ q : Nat, -(n + 1) = (q : Int) := ⟨(-(n + 1)).toNat, by omega⟩
    have hq2 : q < 9223372036854775808 := by omega
    have e3 : (q : Int) + 1 = (a : Int) := by omega
    have ha3 : a < 18446744073709551616 := by omega
    clear ha'
    go_enter Tryd.func54, Tryd.ntmps54
    go_wp2
    go_ret
    exact ⟨rfl, rfl⟩
  · have b1 : decide (n < 0) = false := decide_eq_false hn
    obtain rfl : n = (a : Int) := by omega
    clear ha' hn
    go_enter Tryd.func54, Tryd.ntmps54
    go_wp2
    go_ret
    exact ⟨rfl, rfl⟩

theorem within_l (v : Bool) (n t : Nat) (w : World) (ht : t < 18446744073709551616) (hv : Hid (decide (n * t ≤ 60000) = v)) :
    Calls Tryd.prog 55 #[.int .u64 (n : Int), .int .u64 (t : Int)] w fun e w' => e = .returned (.bool v) ∧ w = w' := by
  have hv' := hv.out
  clear hv
  by_cases h0 : t = 0
  · subst h0
    obtain rfl : v = true := by rw [← hv', Nat.mul_zero]; rfl
    clear hv'
    go_enter Tryd.func55, Tryd.ntmps55
    go_wp2
    go_ret
    exact ⟨rfl, rfl⟩
  · have b0 : ((t : Int) == 0) = false := beq_eq_false_iff_ne.2 (by omega)
    obtain ⟨q, hq⟩ : ∃ q, 60000 / t = q := ⟨_, rfl⟩
    have e1 : (60000 : Int) / (t : Int) = (q : Int) := by rw [← hq]; exact (Int.natCast_ediv 60000 t).symm
    have hq2 : q ≤ 60000 := by rw [← hq]; exact Nat.div_le_self _ _
    have ht0 : (t : Int) ≠ 0 := by omega
    have b1 : Hid (decide (n ≤ q) = v) := by
      show _ = _
      rw [← hv']
      refine decide_eq_decide.2 ?_
      rw [← hq]
      exact Nat.le_div_iff_mul_le (by omega)
    clear hv' hq
    go_enter Tryd.func55, Tryd.ntmps55
    go_wp2
    go_ret
    exact ⟨congrArg (fun v => Ending.returned (.bool v)) b1.out, rfl⟩

/-- A power is short enough. -/
def fitB (V : Nat) (e m : Int) : Bool := decide (blen V * m.natAbs ≤ 60000) && decide (e.natAbs * m.natAbs ≤ 60000)

set_option maxHeartbeats 1000000 in
theorem short_l (v : Bool) (g : Bool) (A : Option Addr) (n c : Nat) (xs : List Nat) (e0 m : Int) (w : World) (hA : Lim w A n c xs) (hn : n ≤ 4294967296) (he1 : -1073741824 ≤ e0) (he2 : e0 ≤ 1073741824) (h1 : -9223372036854775808 ≤ m) (h2 : m ≤ 9223372036854775807) (hv : Hid (fitB (val xs) e0 m = v)) :
    Calls Tryd.prog 30 #[.agg #[.bool g, .slice A n c, .int .i64 e0], .int .i64 m] w fun e w' => e = .returned (.bool v) ∧ Below w.heap.size w w' := by
  obtain ⟨b, hb⟩ : ∃ b, blen (val xs) = b := ⟨_, rfl⟩
  obtain ⟨t, ht⟩ : ∃ t, m.natAbs = t := ⟨_, rfl⟩
  obtain ⟨z, hz⟩ : ∃ z, e0.natAbs = z := ⟨_, rfl⟩
  have hv' := hv.out
  rw [fitB, hb, ht, hz] at hv'
  have hbl := hA.blen_le
  rw [hb] at hbl
  have hb9 : b < 9223372036854775808 := by omega
  have hbb : (b : Int).natAbs = b := Int.natAbs_natCast b
  have ht9 : t < 18446744073709551616 := by omega
  have hz9 : z < 18446744073709551616 := by omega
  have a1 := below1 w (.cells #[.bool g, .slice A n c, .int .i64 e0] 30)
  have HS := Lib.hid a1
  have Hb := Lib.hid (bits_l b A n c xs _ (hA.below a1) (by omega) hb)
  have H1 : Hid (∀ u, Calls Tryd.prog 54 #[.int .i64 m] u fun e w' => e = .returned (.int .u64 (t : Int)) ∧ u = w') := fun u => rsize_l m t u h1 h2 ht
  have H2 : Hid (∀ u, Calls Tryd.prog 54 #[.int .i64 (b : Int)] u fun e w' => e = .returned (.int .u64 (b : Int)) ∧ u = w') := fun u => rsize_l b b u (by omega) (by omega) hbb
  have H3 : Hid (∀ u, Calls Tryd.prog 54 #[.int .i64 e0] u fun e w' => e = .returned (.int .u64 (z : Int)) ∧ u = w') := fun u => rsize_l e0 z u (by omega) (by omega) hz
  obtain ⟨v1, hv1⟩ : ∃ v1, decide (b * t ≤ 60000) = v1 := ⟨_, rfl⟩
  obtain ⟨v2, hv2⟩ : ∃ v2, decide (z * t ≤ 60000) = v2 := ⟨_, rfl⟩
  have H4 : Hid (∀ u, Calls Tryd.prog 55 #[.int .u64 (b : Int), .int .u64 (t : Int)] u fun e w' => e = .returned (.bool v1) ∧ u = w') := fun u => within_l v1 b t u (by omega) hv1
  have H5 : Hid (∀ u, Calls Tryd.prog 55 #[.int .u64 (z : Int), .int .u64 (t : Int)] u fun e w' => e = .returned (.bool v2) ∧ u = w') := fun u => within_l v2 z t u (by omega) hv2
  rw [hv1, hv2] at hv'
  clear hv hv1 hv2 hA hbl hbb a1 hb ht hz he1 he2 h1 h2
  cases v1 with
  | false =>
    obtain rfl : false = v := hv'
    go_enter Tryd.func30, Tryd.ntmps30
    go_wp2_with fail
    refine (H1.out _).mono ?_
    rintro e w' ⟨rfl, rfl⟩
    go_wp2_with fail
    refine Hb.out.mono ?_
    rintro e w' ⟨rfl, rfl⟩
    go_wp2_with fail
    refine (H2.out _).mono ?_
    rintro e w' ⟨rfl, rfl⟩
    go_wp2_with fail
    refine (H4.out _).mono ?_
    rintro e w' ⟨rfl, rfl⟩
    go_wp2
    go_ret
    exact ⟨rfl, HS.out⟩
  | true =>
    obtain rfl : v2 = v := hv'
    go_enter Tryd.func30, Tryd.ntmps30
    go_wp2_with fail
    refine (H1.out _).mono ?_
    rintro e w' ⟨rfl, rfl⟩
    go_wp2_with fail
    refine Hb.out.mono ?_
    rintro e w' ⟨rfl, rfl⟩
    go_wp2_with fail
    refine (H2.out _).mono ?_
    rintro e w' ⟨rfl, rfl⟩
    go_wp2_with fail
    refine (H4.out _).mono ?_
    rintro e w' ⟨rfl, rfl⟩
    go_wp2_with fail
    refine (H3.out _).mono ?_
    rintro e w' ⟨rfl, rfl⟩
    go_wp2_with fail
    refine (H5.out _).mono ?_
    rintro e w' ⟨rfl, rfl⟩
    go_wp2
    go_ret
    exact ⟨rfl, HS.out⟩

/-- What above tells of what Bare tells. -/
def IsAb (o : Option Dy) (g : Bool) (V : Nat) (E : Int) (b : Bool) : Prop :=
  match o with
  | none => b = false
  | some d => b = decide (0 < sgD d.neg d.V) ∧ g = d.neg ∧ V = d.V ∧ E = d.e
def Above (w : World) (o : Option Dy) (L : Nat) (e : Ending) (w' : World) : Prop :=
  ∃ g A m c zs E b, e = .returned (.tuple #[.agg #[.bool g, .slice A m c, .int .i64 E], .bool b]) ∧ m ≤ L ∧ Lim w' A m c zs ∧ Bare zs ∧ IsAb o g (val zs) E b ∧ Below w.heap.size w w'

/-- While above is walked: the result's block, the bare one's. -/
def HoldA (w : World) (gr : Bool) (Ar : Option Addr) (nr cr : Nat) (er : Int) (p : Nat) (g : Bool) (A : Option Addr) (n c : Nat) (xs : List Nat) (e0 : Int) (u : World) : Prop :=
  Bd u (w.heap.size + 1) 30 gr Ar nr cr er ∧ Bd u p 30 g A n c e0 ∧ Lim u A n c xs ∧ w.heap.size + 1 < p ∧ Below w.heap.size w u
section
variable {w : World} {gr : Bool} {Ar : Option Addr} {nr cr : Nat} {er : Int} {p : Nat} {g : Bool} {A : Option Addr} {n c : Nat} {xs : List Nat} {e0 : Int} {u u' : World}
theorem HoldA.below (h : HoldA w gr Ar nr cr er p g A n c xs e0 u) (hb : Below u.heap.size u u') : HoldA w gr Ar nr cr er p g A n c xs e0 u' :=
  ⟨h.1.below hb, h.2.1.below hb, h.2.2.1.below hb, h.2.2.2.1, h.2.2.2.2.trans (hb.mono h.2.2.2.2.size)⟩
theorem HoldA.cells (h : HoldA w gr Ar nr cr er p g A n c xs e0 u) : u.cell? ⟨p, 0, none⟩ = some (.bool g) ∧ u.cell? ⟨p, 1, none⟩ = some (.slice A n c) ∧ u.cell? ⟨p, 2, none⟩ = some (.int .i64 e0) := ⟨h.2.1.c0, h.2.1.c1, h.2.1.c2⟩
theorem HoldA.put (h : HoldA w gr Ar nr cr er p g A n c xs e0 u) (g' : Bool) (A' : Option Addr) (n' c' : Nat) (e' : Int) : HoldA w g' A' n' c' e' p g A n c xs e0 (World.put u (w.heap.size + 1) g' A' n' c' e') :=
  ⟨h.1.put _ _ _ _ _, h.2.1.other (by have := h.2.2.2.1; omega) _ _ _ _ _, h.1.lim h.2.2.1 _ _ _ _ _, h.2.2.2.1, below_put h.2.2.2.2 (by omega) _ _ _ _ _⟩
theorem HoldA.r0 (h : HoldA w gr Ar nr cr er p g A n c xs e0 u) : u.cell? ⟨w.heap.size + 1, 0, none⟩ = some (.bool gr) := h.1.c0
theorem HoldA.r1 (h : HoldA w gr Ar nr cr er p g A n c xs e0 u) : u.cell? ⟨w.heap.size + 1, 1, none⟩ = some (.slice Ar nr cr) := h.1.c1
theorem HoldA.r2 (h : HoldA w gr Ar nr cr er p g A n c xs e0 u) : u.cell? ⟨w.heap.size + 1, 2, none⟩ = some (.int .i64 er) := h.1.c2
theorem HoldA.rf (h : HoldA w gr Ar nr cr er p g A n c xs e0 u) (o : Nat) : u.frozen? ⟨w.heap.size + 1, o, none⟩ = false := h.1.fz o
theorem HoldA.lim (h : HoldA w gr Ar nr cr er p g A n c xs e0 u) : Lim u A n c xs := h.2.2.1
theorem HoldA.old (h : HoldA w gr Ar nr cr er p g A n c xs e0 u) : Below w.heap.size w u := h.2.2.2.2
end
end Go.Proofs.YteflihpnhgicfaaDoor
