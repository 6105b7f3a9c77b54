/- The walks of the law's size, bits and fits. -/
import Derived.Test.YteflihpnhgicfaaDoorK3
import Derived.Test.YteflihpnhgicfaaDoorRtPow
namespace Go.Proofs.YteflihpnhgicfaaDoor
open Go.RowKit

/-- A size, up to 100000. -/
def lsz (n : Int) : Nat := if 100000 < n.natAbs then 100000 else n.natAbs
theorem lsz_le (n : Int) : lsz n ≤ 100000 := by unfold lsz; split <;> omega
theorem lsz_fit (a : Nat) (m : Int) : a * lsz m ≤ 60000 ↔ a * m.natAbs ≤ 60000 := by
  unfold lsz
  split
  · rename_i h
    rcases Nat.eq_zero_or_pos a with h0 | h0
    · subst h0; simp
    · have h1 : 100000 ≤ a * 100000 := by omega
      have h2 : m.natAbs ≤ a * m.natAbs := Nat.le_mul_of_pos_left _ h0
      constructor
      · intro h3; omega
      · intro h3; omega
  · exact Iff.rfl
theorem lsz_fit2 (e m : Int) : lsz e * lsz m ≤ 60000 ↔ e.natAbs * m.natAbs ≤ 60000 := by
  rw [lsz_fit, Nat.mul_comm, lsz_fit, Nat.mul_comm]

theorem lsize_l (n : Int) (a : Nat) (w : World) (ha : Hid (lsz n = a)) :
    Calls Tryd.prog 19 #[.int .i64 n] w fun e w' => e = .returned (.int .i64 (a : Int)) ∧ w = w' := by
  have ha' := ha.out
  unfold lsz at ha'
  clear ha
  by_cases h1 : n < -100000
  · have b1 : decide (n < -100000) = true := decide_eq_true h1
    rw [if_pos (by omega)] at ha'
    subst ha'
    clear h1
    go_enter Tryd.func19, Tryd.ntmps19
    go_wp2
    go_ret
    exact ⟨rfl, rfl⟩
  · have b1 : decide (n < -100000) = false := decide_eq_false h1
    by_cases h2 : 100000 < n
    · have b2 : decide (100000 < n) = true := decide_eq_true h2
      rw [if_pos (by omega)] at ha'
      subst ha'
      clear h1 h2
      go_enter Tryd.func19, Tryd.ntmps19
      go_wp2
      go_ret
      exact ⟨rfl, rfl⟩
    · have b2 : decide (100000 < n) = false := decide_eq_false h2
      rw [if_neg (by omega)] at ha'
      by_cases h3 : n < 0
      · have b3 : decide (n < 0) = true := decide_eq_true h3
        have e1 : -n = (a : Int) := by omega
        have ha9 : a ≤ 100000 := by omega
        clear h1 h2 h3 ha'
        go_enter Tryd.func19, Tryd.ntmps19
        go_wp2
        go_ret
        exact ⟨rfl, rfl⟩
      · have b3 : decide (n < 0) = false := decide_eq_false h3
        obtain rfl : n = (a : Int) := by omega
        clear h1 h2 h3 ha'
        go_enter Tryd.func19, Tryd.ntmps19
        go_wp2
        go_ret
        exact ⟨rfl, rfl⟩

/-- A number of the document in a block b. -/
def HoldL (w : World) (b : Nat) (g : Bool) (A : Option Addr) (n c : Nat) (ds : List Nat) (e0 : Int) (u : World) : Prop :=
  Bd u b 28 g A n c e0 ∧ Dig u A n c ds ∧ Below w.heap.size w u
section
variable {w : World} {b : Nat} {g : Bool} {A : Option Addr} {n c : Nat} {ds : List Nat} {e0 : Int} {u u' : World}
theorem HoldL.below (h : HoldL w b g A n c ds e0 u) (hb : Below u.heap.size u u') : HoldL w b g A n c ds e0 u' := ⟨h.1.below hb, h.2.1.below hb, h.2.2.trans (hb.mono h.2.2.size)⟩
theorem HoldL.three (h : HoldL w b g A n c ds e0 u) : u.cell? ⟨b, 0, none⟩ = some (.bool g) ∧ u.cell? ⟨b, 1, none⟩ = some (.slice A n c) ∧ u.cell? ⟨b, 2, none⟩ = some (.int .i64 e0) := ⟨h.1.c0, h.1.c1, h.1.c2⟩
theorem HoldL.dig (h : HoldL w b g A n c ds e0 u) : Dig u A n c ds := h.2.1
theorem HoldL.old (h : HoldL w b g A n c ds e0 u) : Below w.heap.size w u := h.2.2
theorem HoldL.start (w : World) (g : Bool) (A : Option Addr) (n c : Nat) (ds : List Nat) (e0 : Int) (h : Dig w A n c ds) : HoldL w w.heap.size g A n c ds e0 (w.alloc (.cells #[.bool g, .slice A n c, .int .i64 e0] 28)) :=
  ⟨Bd.new w _ _ _ _ _ _, h.alloc _, below1 _ _⟩
end

set_option maxHeartbeats 1000000 in
set_option maxRecDepth 20000 in
theorem lbits_l (B : Nat) (g : Bool) (A : Option Addr) (n c : Nat) (ds : List Nat) (e0 : Int) (w : World) (hA : Dig w A n c ds) (hb : D.Bare ds) (hn : n ≤ 1000000) (h1 : -4294967296 ≤ e0) (h2 : e0 ≤ 4294967296) (hB : Hid (blen (D.val ds) = B)) :
    Calls Tryd.prog 13 #[.agg #[.bool g, .slice A n c, .int .i64 e0]] w fun e w' => e = .returned (.int .i64 (B : Int)) ∧ Below w.heap.size w w' := by
  have hz := dnil_iff hA hb
  have hB' := hB.out
  by_cases h0 : n = 0
  · subst h0
    have : D.val ds = 0 := hz.1 rfl
    rw [this] at hB'
    obtain rfl : 0 = B := hB'
    have H1 := Lib.hid (below1 w (.cells #[.bool g, .slice A 0 c, .int .i64 e0] 28))
    clear hA hb hz hB this
    go_enter Tryd.func13, Tryd.ntmps13
    go_wp2
    go_ret
    exact ⟨rfl, H1.out⟩
  · have c1 : ((n : Int) == 0) = false := beq_no (by omega)
    have hlt := D.val_lt hA.words
    rw [hA.len, D.pw_two] at hlt
    have hbl : blen (D.val ds) ≤ 16 * n := blen_le_iff.2 hlt
    rw [hB'] at hbl
    have K0 := Lib.hid ((HoldL.start w g A n c ds e0 hA).below (below_drew _))
    obtain ⟨t, ht⟩ : ∃ t, (B : Int) - 1 + e0 = t := ⟨_, rfl⟩
    have HT : Hid (∀ u, HoldL w w.heap.size g A n c ds e0 u → Calls Tryd.prog 32 #[.agg #[.bool g, .slice A n c, .int .i64 e0]] u fun e w' => e = .returned (.int .i64 t) ∧ Below u.heap.size u w') := fun u hu =>
      rtop_l t g A n c ds e0 u hu.dig hb hn h1 h2 (by show rtop _ _ = _; unfold rtop; rw [hB']; exact ht)
    have e1 : t - e0 + 1 = (B : Int) := by omega
    have hw1 : IntKind.i64.wrap (t - e0) = t - e0 := by rw [IntKind.wrap_i64]; omega
    have hw2 : IntKind.i64.wrap (B : Int) = (B : Int) := by rw [IntKind.wrap_i64]; omega
    clear hA hb hz hB hB' hlt ht
    go_enter Tryd.func13, Tryd.ntmps13
    go_wp2_with fail
    go_region_held3 (fun w' => w'.cell? ⟨w.heap.size, 0, none⟩ = some (.bool g) ∧ w'.cell? ⟨w.heap.size, 1, none⟩ = some (.slice A n c) ∧ w'.cell? ⟨w.heap.size, 2, none⟩ = some (.int .i64 e0))
      (first | (with_reducible exact K0.out.three) | (with_reducible exact K1.out.three))
      (first | (go_at_call 32; (with_reducible refine (HT.out _ K0.out).mono ?_); rintro e w1 ⟨rfl, hB1⟩; have K1 := Lib.hid (K0.out.below hB1); clear hB1))
    all_goals (
      have Hfin := Lib.hid K1.out.old
      clear K0 K1 HT
      go_wp2_with fail
      go_ret
      exact ⟨rfl, Hfin.out⟩)

/-- What the law's fits tells. -/
def lawfit (V : Nat) (e m : Int) : Bool := decide (-1073741824 ≤ e ∧ e ≤ 1073741824) && (decide (blen V * lsz m ≤ 60000) && decide (lsz e * lsz m ≤ 60000))
theorem lawfit_O (g : Bool) (V : Nat) (e m : Int) : lawfit (nO g V e).V (nO g V e).e m = fitO (mk g V e) m := by
  rw [mk_nO]
  obtain ⟨d, hd⟩ : ∃ d, nO g V e = d := ⟨_, rfl⟩
  have ho := nO_odd g V e
  rw [hd] at ho ⊢
  unfold lawfit
  rw [show decide (blen d.V * lsz m ≤ 60000) = decide (blen d.V * m.natAbs ≤ 60000) from decide_eq_decide.2 (lsz_fit _ _), show decide (lsz d.e * lsz m ≤ 60000) = decide (d.e.natAbs * m.natAbs ≤ 60000) from decide_eq_decide.2 (lsz_fit2 _ _)]
  unfold toldD
  rcases ho with ⟨k, hk⟩ | ho
  · rw [if_neg (by omega)]
    by_cases h : d.e < -1073741824 ∨ 1073741824 < d.e
    · rw [if_pos h, decide_eq_false (by omega)]; rfl
    · rw [if_neg h, decide_eq_true (by omega)]; rfl
  · subst ho; rfl
theorem fits_nay (g : Bool) (A : Option Addr) (n c : Nat) (e0 : Int) (w : World) (h : ¬ (-1073741824 ≤ e0 ∧ e0 ≤ 1073741824)) :
    Calls Tryd.prog 12 #[.agg #[.bool g, .slice A n c, .int .i64 e0]] w fun e w' => e = .returned (.bool false) ∧ Below w.heap.size w w' := by
  have H1 := Lib.hid (below1 w (.cells #[.bool g, .slice A n c, .int .i64 e0] 28))
  by_cases h2 : -1073741824 ≤ e0
  · have b1 : decide (-1073741824 ≤ e0) = true := decide_eq_true (by omega)
    have b2 : decide (e0 ≤ 1073741824) = false := decide_eq_false (by omega)
    clear h h2
    go_enter Tryd.func12, Tryd.ntmps12
    go_wp2
    go_ret
    exact ⟨rfl, H1.out⟩
  · have b1 : decide (-1073741824 ≤ e0) = false := decide_eq_false (by omega)
    clear h h2
    go_enter Tryd.func12, Tryd.ntmps12
    go_wp2
    go_ret
    exact ⟨rfl, H1.out⟩
theorem fits_b (v : Bool) (g : Bool) (A : Option Addr) (n c : Nat) (e0 : Int) (w : World) (hv : Hid (decide (-1073741824 ≤ e0 ∧ e0 ≤ 1073741824) = v)) :
    Calls Tryd.prog 12 #[.agg #[.bool g, .slice A n c, .int .i64 e0]] w fun e w' => e = .returned (.bool v) ∧ Below w.heap.size w w' := by
  have hv' := hv.out
  by_cases h : -1073741824 ≤ e0 ∧ e0 ≤ 1073741824
  · rw [decide_eq_true h] at hv'
    subst hv'
    exact fits_yes g A n c e0 w h.1 h.2
  · rw [decide_eq_false h] at hv'
    subst hv'
    exact fits_nay g A n c e0 w h

set_option maxHeartbeats 2000000 in
theorem lfits_l (v : Bool) (g : Bool) (A : Option Addr) (n c : Nat) (ds : List Nat) (e0 m : Int) (w : World) (hA : Dig w A n c ds) (hb : D.Bare ds) (hn : n ≤ 100000) (h1 : -4294967296 ≤ e0) (h2 : e0 ≤ 4294967296) (hv : Hid (lawfit (D.val ds) e0 m = v)) :
    Calls Tryd.prog 11 #[.agg #[.bool g, .slice A n c, .int .i64 e0], .int .i64 m] w fun e w' => e = .returned (.bool v) ∧ Below w.heap.size w w' := by
  have K0 := Lib.hid (HoldL.start w g A n c ds e0 hA)
  have hlt := D.val_lt hA.words
  rw [hA.len, D.pw_two] at hlt
  have hbl : blen (D.val ds) ≤ 16 * n := blen_le_iff.2 hlt
  obtain ⟨B, hB⟩ : ∃ B, blen (D.val ds) = B := ⟨_, rfl⟩
  obtain ⟨s, hs⟩ : ∃ s, lsz m = s := ⟨_, rfl⟩
  obtain ⟨z, hz⟩ : ∃ z, lsz e0 = z := ⟨_, rfl⟩
  have hs9 := lsz_le m
  have hz9 := lsz_le e0
  have hv' := hv.out
  unfold lawfit at hv'
  rw [hB, hs, hz] at hv'
  rw [hB] at hbl
  rw [hs] at hs9
  rw [hz] at hz9
  obtain ⟨f1, hf1⟩ : ∃ f, decide (-1073741824 ≤ e0 ∧ e0 ≤ 1073741824) = f := ⟨_, rfl⟩
  rw [hf1] at hv'
  have H1 : Hid (∀ u, Calls Tryd.prog 12 #[.agg #[.bool g, .slice A n c, .int .i64 e0]] u fun e w' => e = .returned (.bool f1) ∧ Below u.heap.size u w') := fun u => fits_b f1 g A n c e0 u hf1
  have H2 : Hid (∀ u, HoldL w w.heap.size g A n c ds e0 u → Calls Tryd.prog 13 #[.agg #[.bool g, .slice A n c, .int .i64 e0]] u fun e w' => e = .returned (.int .i64 (B : Int)) ∧ Below u.heap.size u w') := fun u hu => lbits_l B g A n c ds e0 u hu.dig hb (by omega) h1 h2 hB
  have H3 : Hid (∀ u, Calls Tryd.prog 19 #[.int .i64 m] u fun e w' => e = .returned (.int .i64 (s : Int)) ∧ u = w') := fun u => lsize_l m s u hs
  have H4 : Hid (∀ u, Calls Tryd.prog 19 #[.int .i64 e0] u fun e w' => e = .returned (.int .i64 (z : Int)) ∧ u = w') := fun u => lsize_l e0 z u hz
  obtain ⟨Bs, hBs⟩ : ∃ q, B * s = q := ⟨_, rfl⟩
  obtain ⟨zs, hzs⟩ : ∃ q, z * s = q := ⟨_, rfl⟩
  have e1 : (B : Int) * (s : Int) = (Bs : Int) := by rw [← hBs]; exact (Int.natCast_mul _ _).symm
  have e2 : (z : Int) * (s : Int) = (zs : Int) := by rw [← hzs]; exact (Int.natCast_mul _ _).symm
  have hBs9 : Bs ≤ 1600000 * 100000 := by rw [← hBs]; exact Nat.mul_le_mul (by omega) hs9
  have hzs9 : zs ≤ 100000 * 100000 := by rw [← hzs]; exact Nat.mul_le_mul hz9 hs9
  rw [hBs, hzs] at hv'
  clear hA hb hlt hv hbl hB hs hz hf1 hBs hzs h1 h2
  cases f1 with
  | false =>
    obtain rfl : false = v := hv'
    go_enter Tryd.func11, Tryd.ntmps11
    go_wp2_with fail
    refine (H1.out _).mono ?_
    rintro e w1 ⟨rfl, hB1⟩
    have Hfin := Lib.hid (K0.out.below hB1).old
    clear hB1 K0 H1 H2 H3 H4
    go_wp2
    go_ret
    exact ⟨rfl, Hfin.out⟩
  | true =>
    rw [Bool.true_and] at hv'
    by_cases q1 : Bs ≤ 60000
    · rw [decide_eq_true q1, Bool.true_and] at hv'
      have b1 : decide ((Bs : Int) ≤ 60000) = true := decide_eq_true (by omega)
      have HV : Hid (decide ((zs : Int) ≤ 60000) = v) := by show _ = _; rw [← hv']; exact decide_eq_decide.2 (by omega)
      clear hv' q1
      go_enter Tryd.func11, Tryd.ntmps11
      go_wp2_with fail
      refine (H1.out _).mono ?_
      rintro e w1 ⟨rfl, hB1⟩
      replace K0 := Lib.hid (K0.out.below hB1)
      have x0 := K0.out.1.c0
      have x1 := K0.out.1.c1
      have x2 := K0.out.1.c2
      clear hB1 H1
      go_wp2_with fail
      refine (H2.out _ K0.out).mono ?_
      rintro e w2 ⟨rfl, hB2⟩
      replace K0 := Lib.hid (K0.out.below hB2)
      clear x0 x1 x2 hB2 H2
      have x2 := K0.out.1.c2
      go_wp2_with fail
      refine (H3.out _).mono ?_
      rintro e w' ⟨rfl, rfl⟩
      go_wp2_with fail
      refine (H4.out _).mono ?_
      rintro e w' ⟨rfl, rfl⟩
      go_wp2_with fail
      refine (H3.out _).mono ?_
      rintro e w' ⟨rfl, rfl⟩
      have Hfin := Lib.hid K0.out.old
      clear K0 H3 H4 x2
      go_wp2
      go_ret
      exact ⟨congrArg (fun v => Ending.returned (.bool v)) HV.out, Hfin.out⟩
    · rw [decide_eq_false q1, Bool.false_and] at hv'
      subst hv'
      have b1 : decide ((Bs : Int) ≤ 60000) = false := decide_eq_false (by omega)
      clear q1
      go_enter Tryd.func11, Tryd.ntmps11
      go_wp2_with fail
      refine (H1.out _).mono ?_
      rintro e w1 ⟨rfl, hB1⟩
      replace K0 := Lib.hid (K0.out.below hB1)
      have x0 := K0.out.1.c0
      have x1 := K0.out.1.c1
      have x2 := K0.out.1.c2
      clear hB1 H1
      go_wp2_with fail
      refine (H2.out _ K0.out).mono ?_
      rintro e w2 ⟨rfl, hB2⟩
      replace K0 := Lib.hid (K0.out.below hB2)
      clear x0 x1 x2 hB2 H2
      go_wp2_with fail
      refine (H3.out _).mono ?_
      rintro e w' ⟨rfl, rfl⟩
      have Hfin := Lib.hid K0.out.old
      clear K0 H3 H4
      go_wp2
      go_ret
      exact ⟨rfl, Hfin.out⟩
end Go.Proofs.YteflihpnhgicfaaDoor
