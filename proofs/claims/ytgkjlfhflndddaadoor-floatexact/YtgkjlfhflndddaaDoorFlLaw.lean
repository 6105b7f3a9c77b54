/- The walk of planimeterlaw06.FloatExact. -/
import Derived.Test.YtgkjlfhflndddaaDoorFlNum
import Derived.BigQuiet
namespace Go.Proofs.YtgkjlfhflndddaaDoor
open Go.RowKit

/-- While the law looks: the document's number in its block. -/
def HoldN (w0 : World) (p : Nat) (g : Bool) (A : Option Addr) (m c : Nat) (es : List Nat) (E : Int) (w : World) : Prop := Bd w p 37 g A m c E ∧ Dig w A m c es ∧ Below w0.heap.size w0 w
theorem HoldN.below {w0 : World} {p : Nat} {g : Bool} {A : Option Addr} {m c : Nat} {es : List Nat} {E : Int} {w w' : World} (h : HoldN w0 p g A m c es E w) (hb : Below w.heap.size w w') : HoldN w0 p g A m c es E w' :=
  ⟨h.1.below hb, h.2.1.below hb, h.2.2.trans (hb.mono h.2.2.size)⟩
abbrev CellsN (w0 : World) (p : Nat) (g : Bool) (A : Option Addr) (m c : Nat) (es : List Nat) (E : Int) (w' : World) : Prop :=
  w'.cell? ⟨p, 0, none⟩ = some (.bool g) ∧ w'.cell? ⟨p, 1, none⟩ = some (.slice A m c) ∧ w'.cell? ⟨p, 2, none⟩ = some (.int .i64 E) ∧ Hid (HoldN w0 p g A m c es E w')
theorem HoldN.cells {w0 : World} {p : Nat} {g : Bool} {A : Option Addr} {m c : Nat} {es : List Nat} {E : Int} {w : World} (h : HoldN w0 p g A m c es E w) : CellsN w0 p g A m c es E w := ⟨h.1.c0, h.1.c1, h.1.c2, h⟩

theorem fexact_long (g : Bool) (A : Option Addr) (n c : Nat) (xs : List Nat) (e0 : Int) (near : Nat) (w : World) (hT : Tab w) (hA : Lim w A n c xs) (hn : 20 < n) :
    Calls Tryd.prog 4 #[.agg #[.bool g, .slice A n c, .int .i64 e0], .int .u64 (near : Int)] w fun e w' => e = .returned (.bool true) ∧ Below w.heap.size w w' := by
  have a1 := below1 w (.cells #[.bool g, .slice A n c, .int .i64 e0] 39)
  have HT := Lib.hid (hT.below a1)
  have Hb := Lib.hid (Bd.new w 39 g A n c e0)
  have HA := Lib.hid (hA.below a1)
  have HS := Lib.hid a1
  clear a1 hT hA
  go_enter Tryd.func4, Tryd.ntmps4
  go_wp2_with fail
  refine (falive_any _ HT.out).mono ?_
  rintro e w1 ⟨rfl, hb1⟩
  have HT1 := Lib.hid (HT.out.below hb1)
  have Hb1 := Lib.hid (Hb.out.below hb1)
  have HA1 := Lib.hid (HA.out.below hb1)
  have HS1 := Lib.hid (HS.out.trans (hb1.mono HS.out.size))
  have x0 := Hb1.out.c0
  have x1 := Hb1.out.c1
  have x2 := Hb1.out.c2
  clear HT Hb HA HS hb1
  have c1 : decide ((20 : Int) < (n : Int)) = true := decide_eq_true (by omega)
  go_wp2
  go_ret
  exact ⟨rfl, HS1.out⟩


set_option maxHeartbeats 1000000 in
theorem fexact_ok (g : Bool) (A : Option Addr) (n c : Nat) (xs : List Nat) (e0 : Int) (near : Nat) (w : World) (hT : Tab w) (hA : Lim w A n c xs) (hn : n ≤ 20) (dg : Bool) (dV : Nat) (dE : Int) (X : Nat) (ok : Bool) (Hd : Hid (nO g (val xs) e0 = ⟨dg, dV, dE⟩)) (Hx : Hid (exD ⟨dg, dV, dE⟩ = (X, ok))) (hok : ok = true) (hX : X < 18446744073709551616) (k : Nat) (Hk : Hid (fkd X = k)) (hk : k ≤ 2) (HO : Hid (fO X = ⟨dg, dV, dE⟩)) :
    Calls Tryd.prog 4 #[.agg #[.bool g, .slice A n c, .int .i64 e0], .int .u64 (near : Int)] w fun e w' => e = .returned (.bool true) ∧ Below w.heap.size w w' := by
  subst hok
  have k1 : decide ((k : Int) ≤ 2) = true := decide_eq_true (by omega)
  have Hw : Hid (∀ w, Calls Tryd.prog 15 #[.int .u64 (X : Int)] w (NTold w ⟨dg, dV, dE⟩ 4)) := fun w => by rw [← HO.out]; exact worth_any X hX w
  have Hvv : Hid (∀ a b : Nat, a = dV → b = dV → Dy.mk dg a dE = Dy.mk dg b dE) := fun a b ha hb => by rw [ha, hb]
  clear HO
  have a1 := below1 w (.cells #[.bool g, .slice A n c, .int .i64 e0] 39)
  have HT := Lib.hid (hT.below a1)
  have Hb := Lib.hid (Bd.new w 39 g A n c e0)
  have HA := Lib.hid (hA.below a1)
  have HS := Lib.hid a1
  clear a1 hT hA
  go_enter Tryd.func4, Tryd.ntmps4
  go_wp2_with fail
  refine (falive_any _ HT.out).mono ?_
  rintro e w1 ⟨rfl, hb1⟩
  have HT1 := Lib.hid (HT.out.below hb1)
  have Hb1 := Lib.hid (Hb.out.below hb1)
  have HA1 := Lib.hid (HA.out.below hb1)
  have HS1 := Lib.hid (HS.out.trans (hb1.mono HS.out.size))
  have x0 := Hb1.out.c0
  have x1 := Hb1.out.c1
  have x2 := Hb1.out.c2
  clear HT Hb HA HS hb1
  have c1 : decide ((20 : Int) < (n : Int)) = false := decide_eq_false (by omega)
  have H1 := rof_any g A n c xs e0 w1 HA1.out (by omega)
  rw [Hd.out] at H1
  have H1 := Lib.hid H1
  go_wp2_with fail
  refine H1.out.mono ?_
  rintro e w2 ⟨A2, m2, c2, es, rfl, hm2, hl2, hd2, hv2, hB2⟩
  have a1 := hB2.trans ((below1 w2 (.cells #[.bool dg, .slice A2 m2 c2, .int .i64 dE] 37)).mono hB2.size)
  have Hh : Hid (HoldN w w2.heap.size dg A2 m2 c2 es dE (w2.alloc (.cells #[.bool dg, .slice A2 m2 c2, .int .i64 dE] 37))) := ⟨Bd.new w2 37 dg A2 m2 c2 dE, hl2.alloc _, HS1.out.trans (a1.mono HS1.out.size)⟩
  have HV2 : Hid (D.Bare es ∧ D.val es = dV) := ⟨hd2, hv2⟩
  have HA2 := Lib.hid (HA1.out.below a1)
  have HT2 := Lib.hid (HT1.out.below a1)
  have Hb2 := Hb1.out.below a1
  have y0 := Hb2.c0
  have y1 := Hb2.c1
  have y2 := Hb2.c2
  have H3 := Lib.hid (exact_l X true g A n c xs e0 _ HA2.out (by omega) HT2.out (by rw [Hd.out]; exact Hx))
  have hm9 : m2 ≤ 80 := by omega
  clear hB2 hl2 hd2 hv2 H1 a1 HA1 HT1 Hb1 Hb2 HS1 x0 x1 x2 HA2 HT2 Hd Hx
  go_wp2_with fail
  refine H3.out.mono ?_
  rintro e w3 ⟨rfl, hb3⟩
  have Hh3 := Lib.hid (Hh.out.below hb3)
  have Hh4 := Lib.hid ((Hh.out.below hb3).below (below_drew _))
  clear Hh hb3 H3 y0 y1 y2
  go_wp2_with fail
  go_region_held3 (fun w' => w'.cell? ⟨w2.heap.size, 0, none⟩ = some (.bool dg) ∧ w'.cell? ⟨w2.heap.size, 1, none⟩ = some (.slice A2 m2 c2) ∧ w'.cell? ⟨w2.heap.size, 2, none⟩ = some (.int .i64 dE) ∧ Hid (HoldN w w2.heap.size dg A2 m2 c2 es dE w')) (first | (with_reducible exact Hh4.out.cells) | (with_reducible exact K5.out) | (with_reducible exact K6.out)) (first | (go_at_call 8; (with_reducible refine (rkind_l k X hX _ Hk).mono ?_); rintro e w' ⟨rfl, rfl⟩) | (go_at_call 15; (with_reducible refine (Hw.out _).mono ?_); rintro e w5 ⟨A5, m5, c5, fs, rfl, hm5, hl5, hd5, hv5, hB5⟩; have h5 := Hh4.out.below hB5; have K5 := Lib.hid h5.cells; have H6 := Lib.hid (rsame_l true dg A5 m5 c5 fs dE dg A2 m2 c2 es dE w5 hl5 h5.2.1 hd5 HV2.out.1 (by omega) (by omega) (⟨fun _ => Hvv.out _ _ hv5 HV2.out.2, fun _ => rfl⟩)); have h5 := Lib.hid h5; clear hl5 hd5 hv5 hB5) | (go_at_call 21; (with_reducible refine H6.out.mono ?_); rintro e w6 ⟨rfl, hB6⟩; have h6 := h5.out.below hB6; have K6 := Lib.hid h6.cells; have h6 := Lib.hid h6; clear hB6))
  all_goals (
    have Hfin := Lib.hid h6.out.2.2
    clear Hh4 Hh3 K5 K6 h5 h6 H6
    go_wp2
    go_ret
    exact ⟨rfl, Hfin.out⟩)


set_option maxHeartbeats 1000000 in
theorem fexact_no (g : Bool) (A : Option Addr) (n c : Nat) (xs : List Nat) (e0 : Int) (near : Nat) (w : World) (hT : Tab w) (hA : Lim w A n c xs) (hn : n ≤ 20) (dg : Bool) (dV : Nat) (dE : Int) (X : Nat) (ok : Bool) (Hd : Hid (nO g (val xs) e0 = ⟨dg, dV, dE⟩)) (Hx : Hid (exD ⟨dg, dV, dE⟩ = (X, ok))) (hok : ok = false) (hX : X = 0) (hnear : near < 18446744073709551616) (k : Nat) (Hk : Hid (fkd near = k)) (hk : k ≤ 2) (ng : Bool) (nV : Nat) (nE : Int) (HO : Hid (fO near = ⟨ng, nV, nE⟩)) (hne : Hid (Dy.mk ng nV nE ≠ Dy.mk dg dV dE)) :
    Calls Tryd.prog 4 #[.agg #[.bool g, .slice A n c, .int .i64 e0], .int .u64 (near : Int)] w fun e w' => e = .returned (.bool true) ∧ Below w.heap.size w w' := by
  subst hok
  subst hX
  have k1 : decide ((2 : Int) < (k : Int)) = false := decide_eq_false (by omega)
  have Hw : Hid (∀ w, Calls Tryd.prog 15 #[.int .u64 (near : Int)] w (NTold w ⟨ng, nV, nE⟩ 4)) := fun w => by rw [← HO.out]; exact worth_any near hnear w
  have Hvv : Hid (∀ a b : Nat, a = nV → b = dV → (false = true ↔ Dy.mk ng a nE = Dy.mk dg b dE)) := fun a b ha hb => ⟨fun h => (by cases h), fun h => absurd (by rw [← ha, ← hb]; exact h) hne.out⟩
  clear HO hne
  have a1 := below1 w (.cells #[.bool g, .slice A n c, .int .i64 e0] 39)
  have HT := Lib.hid (hT.below a1)
  have Hb := Lib.hid (Bd.new w 39 g A n c e0)
  have HA := Lib.hid (hA.below a1)
  have HS := Lib.hid a1
  clear a1 hT hA
  go_enter Tryd.func4, Tryd.ntmps4
  go_wp2_with fail
  refine (falive_any _ HT.out).mono ?_
  rintro e w1 ⟨rfl, hb1⟩
  have HT1 := Lib.hid (HT.out.below hb1)
  have Hb1 := Lib.hid (Hb.out.below hb1)
  have HA1 := Lib.hid (HA.out.below hb1)
  have HS1 := Lib.hid (HS.out.trans (hb1.mono HS.out.size))
  have x0 := Hb1.out.c0
  have x1 := Hb1.out.c1
  have x2 := Hb1.out.c2
  clear HT Hb HA HS hb1
  have c1 : decide ((20 : Int) < (n : Int)) = false := decide_eq_false (by omega)
  have H1 := rof_any g A n c xs e0 w1 HA1.out (by omega)
  rw [Hd.out] at H1
  have H1 := Lib.hid H1
  go_wp2_with fail
  refine H1.out.mono ?_
  rintro e w2 ⟨A2, m2, c2, es, rfl, hm2, hl2, hd2, hv2, hB2⟩
  have a1 := hB2.trans ((below1 w2 (.cells #[.bool dg, .slice A2 m2 c2, .int .i64 dE] 37)).mono hB2.size)
  have Hh : Hid (HoldN w w2.heap.size dg A2 m2 c2 es dE (w2.alloc (.cells #[.bool dg, .slice A2 m2 c2, .int .i64 dE] 37))) := ⟨Bd.new w2 37 dg A2 m2 c2 dE, hl2.alloc _, HS1.out.trans (a1.mono HS1.out.size)⟩
  have HV2 : Hid (D.Bare es ∧ D.val es = dV) := ⟨hd2, hv2⟩
  have HA2 := Lib.hid (HA1.out.below a1)
  have HT2 := Lib.hid (HT1.out.below a1)
  have Hb2 := Hb1.out.below a1
  have y0 := Hb2.c0
  have y1 := Hb2.c1
  have y2 := Hb2.c2
  have H3 := Lib.hid (exact_l 0 false g A n c xs e0 _ HA2.out (by omega) HT2.out (by rw [Hd.out]; exact Hx))
  have hm9 : m2 ≤ 80 := by omega
  clear hB2 hl2 hd2 hv2 H1 a1 HA1 HT1 Hb1 Hb2 HS1 x0 x1 x2 HA2 HT2 Hd Hx
  go_wp2_with fail
  refine H3.out.mono ?_
  rintro e w3 ⟨rfl, hb3⟩
  have Hh3 := Lib.hid (Hh.out.below hb3)
  have Hh4 := Lib.hid ((Hh.out.below hb3).below (below_drew _))
  clear Hh hb3 H3 y0 y1 y2
  go_wp2_with fail
  go_region_held3 (fun w' => w'.cell? ⟨w2.heap.size, 0, none⟩ = some (.bool dg) ∧ w'.cell? ⟨w2.heap.size, 1, none⟩ = some (.slice A2 m2 c2) ∧ w'.cell? ⟨w2.heap.size, 2, none⟩ = some (.int .i64 dE) ∧ Hid (HoldN w w2.heap.size dg A2 m2 c2 es dE w')) (first | (with_reducible exact Hh4.out.cells) | (with_reducible exact K5.out) | (with_reducible exact K6.out)) (first | (go_at_call 8; (with_reducible refine (rkind_l k near hnear _ Hk).mono ?_); rintro e w' ⟨rfl, rfl⟩) | (go_at_call 15; (with_reducible refine (Hw.out _).mono ?_); rintro e w5 ⟨A5, m5, c5, fs, rfl, hm5, hl5, hd5, hv5, hB5⟩; have h5 := Hh4.out.below hB5; have K5 := Lib.hid h5.cells; have H6 := Lib.hid (rsame_l false ng A5 m5 c5 fs nE dg A2 m2 c2 es dE w5 hl5 h5.2.1 hd5 HV2.out.1 (by omega) (by omega) (Hvv.out _ _ hv5 HV2.out.2)); have h5 := Lib.hid h5; clear hl5 hd5 hv5 hB5) | (go_at_call 21; (with_reducible refine H6.out.mono ?_); rintro e w6 ⟨rfl, hB6⟩; have h6 := h5.out.below hB6; have K6 := Lib.hid h6.cells; have h6 := Lib.hid h6; clear hB6))
  all_goals (
    have Hfin := Lib.hid h6.out.2.2
    clear Hh4 Hh3 K5 K6 h5 h6 H6
    go_wp2
    go_ret
    exact ⟨rfl, Hfin.out⟩)


set_option maxHeartbeats 1000000 in
theorem fexact_inf (g : Bool) (A : Option Addr) (n c : Nat) (xs : List Nat) (e0 : Int) (near : Nat) (w : World) (hT : Tab w) (hA : Lim w A n c xs) (hn : n ≤ 20) (dg : Bool) (dV : Nat) (dE : Int) (X : Nat) (ok : Bool) (Hd : Hid (nO g (val xs) e0 = ⟨dg, dV, dE⟩)) (Hx : Hid (exD ⟨dg, dV, dE⟩ = (X, ok))) (hok : ok = false) (hX : X = 0) (hnear : near < 18446744073709551616) (k : Nat) (Hk : Hid (fkd near = k)) (hk : ¬ k ≤ 2) :
    Calls Tryd.prog 4 #[.agg #[.bool g, .slice A n c, .int .i64 e0], .int .u64 (near : Int)] w fun e w' => e = .returned (.bool true) ∧ Below w.heap.size w w' := by
  subst hok
  subst hX
  have k1 : decide ((2 : Int) < (k : Int)) = true := decide_eq_true (by omega)
  have a1 := below1 w (.cells #[.bool g, .slice A n c, .int .i64 e0] 39)
  have HT := Lib.hid (hT.below a1)
  have Hb := Lib.hid (Bd.new w 39 g A n c e0)
  have HA := Lib.hid (hA.below a1)
  have HS := Lib.hid a1
  clear a1 hT hA
  go_enter Tryd.func4, Tryd.ntmps4
  go_wp2_with fail
  refine (falive_any _ HT.out).mono ?_
  rintro e w1 ⟨rfl, hb1⟩
  have HT1 := Lib.hid (HT.out.below hb1)
  have Hb1 := Lib.hid (Hb.out.below hb1)
  have HA1 := Lib.hid (HA.out.below hb1)
  have HS1 := Lib.hid (HS.out.trans (hb1.mono HS.out.size))
  have x0 := Hb1.out.c0
  have x1 := Hb1.out.c1
  have x2 := Hb1.out.c2
  clear HT Hb HA HS hb1
  have c1 : decide ((20 : Int) < (n : Int)) = false := decide_eq_false (by omega)
  have H1 := rof_any g A n c xs e0 w1 HA1.out (by omega)
  rw [Hd.out] at H1
  have H1 := Lib.hid H1
  go_wp2_with fail
  refine H1.out.mono ?_
  rintro e w2 ⟨A2, m2, c2, es, rfl, hm2, hl2, hd2, hv2, hB2⟩
  have a1 := hB2.trans ((below1 w2 (.cells #[.bool dg, .slice A2 m2 c2, .int .i64 dE] 37)).mono hB2.size)
  have Hh : Hid (HoldN w w2.heap.size dg A2 m2 c2 es dE (w2.alloc (.cells #[.bool dg, .slice A2 m2 c2, .int .i64 dE] 37))) := ⟨Bd.new w2 37 dg A2 m2 c2 dE, hl2.alloc _, HS1.out.trans (a1.mono HS1.out.size)⟩
  have HV2 : Hid (D.Bare es ∧ D.val es = dV) := ⟨hd2, hv2⟩
  have HA2 := Lib.hid (HA1.out.below a1)
  have HT2 := Lib.hid (HT1.out.below a1)
  have Hb2 := Hb1.out.below a1
  have y0 := Hb2.c0
  have y1 := Hb2.c1
  have y2 := Hb2.c2
  have H3 := Lib.hid (exact_l 0 false g A n c xs e0 _ HA2.out (by omega) HT2.out (by rw [Hd.out]; exact Hx))
  have hm9 : m2 ≤ 80 := by omega
  clear hB2 hl2 hd2 hv2 H1 a1 HA1 HT1 Hb1 Hb2 HS1 x0 x1 x2 HA2 HT2 Hd Hx
  go_wp2_with fail
  refine H3.out.mono ?_
  rintro e w3 ⟨rfl, hb3⟩
  have Hh3 := Lib.hid (Hh.out.below hb3)
  have Hh4 := Lib.hid ((Hh.out.below hb3).below (below_drew _))
  clear Hh hb3 H3 y0 y1 y2
  go_wp2_with fail
  refine wp_region_noPanic ?_
  refine wp_region_held_drew (S := (fun w' => w'.cell? ⟨w2.heap.size, 0, none⟩ = some (.bool dg) ∧ w'.cell? ⟨w2.heap.size, 1, none⟩ = some (.slice A2 m2 c2) ∧ w'.cell? ⟨w2.heap.size, 2, none⟩ = some (.int .i64 dE) ∧ Hid (HoldN w w2.heap.size dg A2 m2 c2 es dE w'))) (by kernel_rfl) Hh4.out.cells (fun hHeld => ?_)
  refine wpAnyH_take (i := 0) (v := ?_) rfl (by kernel_rfl) (by kernel_rfl) (by kernel_rfl) (fun _ _ _ h => h) (Or.inl ⟨by rfl, ?_⟩) hHeld ?_
  rotate_left
  · intro w' hSw
    (try dsimp only at hSw)
    go_simp
    all_goals (with_reducible rfl)
  simp only [List.getElem_toArray, List.getElem_cons_zero, Act.put, List.setIfInBounds_toArray, List.set_cons_zero, List.set_cons_succ]
  refine wpAnyH_take (i := 1) (v := ?_) rfl (by kernel_rfl) (by kernel_rfl) (by kernel_rfl) (fun _ _ _ h => h) (Or.inl ⟨by rfl, ?_⟩) hHeld ?_
  rotate_left
  · intro w' hSw
    (try dsimp only at hSw)
    go_simp
    all_goals (with_reducible rfl)
  simp only [List.getElem_toArray, List.getElem_cons_succ, List.getElem_cons_zero, Act.put, List.setIfInBounds_toArray, List.set_cons_zero, List.set_cons_succ]
  refine wpAnyH_take (i := 2) (v := ?_) rfl (by kernel_rfl) (by kernel_rfl) (by kernel_rfl) (fun _ _ _ h => h) (Or.inl ⟨by rfl, ?_⟩) hHeld ?_
  rotate_left
  · intro w' hSw
    (try dsimp only at hSw)
    go_simp
    all_goals (with_reducible rfl)
  simp only [List.getElem_toArray, List.getElem_cons_succ, List.getElem_cons_zero, Act.put, List.setIfInBounds_toArray, List.set_cons_zero, List.set_cons_succ]
  refine wpAnyH_take (i := 3) (v := ?_) rfl (by kernel_rfl) (by kernel_rfl) (by kernel_rfl) (fun _ _ _ h => h) (Or.inl ⟨by rfl, ?_⟩) hHeld ?_
  rotate_left
  · intro w' hSw
    (try dsimp only at hSw)
    go_simp
    all_goals (with_reducible rfl)
  simp only [List.getElem_toArray, List.getElem_cons_succ, List.getElem_cons_zero, Act.put, List.setIfInBounds_toArray, List.set_cons_zero, List.set_cons_succ]
  refine wpAnyH_ready (rs := [4]) (by kernel_rfl) (by simp) ?_
  refine AllReadyH.cons rfl (fun K' hK' => ?_) AllReadyH.nil
  go_simp
  refine (rkind_l k near hnear _ Hk).mono ?_
  rintro e w' ⟨rfl, rfl⟩
  refine hK'.out _ _ ?_ (fun hHeld => ?_)
  · exact Hh4.out.cells
  clear hK' K'
  refine wpAnyH_take (i := 5) (v := ?_) rfl (by kernel_rfl) (by kernel_rfl) (by kernel_rfl) (fun _ _ _ h => h) (Or.inl ⟨by rfl, ?_⟩) hHeld ?_
  rotate_left
  · intro w' hSw
    (try dsimp only at hSw)
    go_simp
    all_goals (with_reducible rfl)
  simp only [List.getElem_toArray, List.getElem_cons_succ, List.getElem_cons_zero, Act.put, List.setIfInBounds_toArray, List.set_cons_zero, List.set_cons_succ]
  refine wpAnyH_take (i := 6) (v := ?_) rfl (by kernel_rfl) (by kernel_rfl) (by kernel_rfl) (fun _ _ _ h => h) (Or.inl ⟨by rfl, ?_⟩) hHeld ?_
  rotate_left
  · intro w' hSw
    (try dsimp only at hSw)
    go_simp
    all_goals (with_reducible rfl)
  simp only [List.getElem_toArray, List.getElem_cons_succ, List.getElem_cons_zero, Act.put, List.setIfInBounds_toArray, List.set_cons_zero, List.set_cons_succ]
  refine wpAnyH_take (i := 7) (v := undef) rfl (by kernel_rfl) (by kernel_rfl) (by kernel_rfl) (fun _ _ _ h => h) (Or.inr ⟨by rfl, rfl⟩) hHeld ?_
  simp only [List.getElem_toArray, List.getElem_cons_succ, List.getElem_cons_zero, Act.put, List.setIfInBounds_toArray, List.set_cons_zero, List.set_cons_succ]
  refine wpAnyH_take (i := 8) (v := undef) rfl (by kernel_rfl) (by kernel_rfl) (by kernel_rfl) (fun _ _ _ h => h) (Or.inr ⟨by rfl, rfl⟩) hHeld ?_
  simp only [List.getElem_toArray, List.getElem_cons_succ, List.getElem_cons_zero, Act.put, List.setIfInBounds_toArray, List.set_cons_zero, List.set_cons_succ]
  refine wpAnyH_take (i := 9) (v := undef) rfl (by kernel_rfl) (by kernel_rfl) (by kernel_rfl) (fun _ _ _ h => h) (Or.inr ⟨by rfl, rfl⟩) hHeld ?_
  simp only [List.getElem_toArray, List.getElem_cons_succ, List.getElem_cons_zero, Act.put, List.setIfInBounds_toArray, List.set_cons_zero, List.set_cons_succ]
  refine wpAnyH_take (i := 10) (v := undef) rfl (by kernel_rfl) (by kernel_rfl) (by kernel_rfl) (fun _ _ _ h => h) (Or.inr ⟨by rfl, rfl⟩) hHeld ?_
  simp only [List.getElem_toArray, List.getElem_cons_succ, List.getElem_cons_zero, Act.put, List.setIfInBounds_toArray, List.set_cons_zero, List.set_cons_succ]
  refine wpAnyH_take (i := 11) (v := undef) rfl (by kernel_rfl) (by kernel_rfl) (by kernel_rfl) (fun _ _ _ h => h) (Or.inr ⟨by rfl, rfl⟩) hHeld ?_
  simp only [List.getElem_toArray, List.getElem_cons_succ, List.getElem_cons_zero, Act.put, List.setIfInBounds_toArray, List.set_cons_zero, List.set_cons_succ]
  refine wpAnyH_take (i := 12) (v := ?_) rfl (by kernel_rfl) (by kernel_rfl) (by kernel_rfl) (fun _ _ _ h => h) (Or.inl ⟨by rfl, ?_⟩) hHeld ?_
  rotate_left
  · intro w' hSw
    (try dsimp only at hSw)
    go_simp
    all_goals (with_reducible rfl)
  simp only [List.getElem_toArray, List.getElem_cons_succ, List.getElem_cons_zero, Act.put, List.setIfInBounds_toArray, List.set_cons_zero, List.set_cons_succ]
  refine wpAnyH_take (i := 13) (v := ?_) rfl (by kernel_rfl) (by kernel_rfl) (by kernel_rfl) (fun _ _ _ h => h) (Or.inl ⟨by rfl, ?_⟩) hHeld ?_
  rotate_left
  · intro w' hSw
    (try dsimp only at hSw)
    go_simp
    all_goals (with_reducible rfl)
  simp only [List.getElem_toArray, List.getElem_cons_succ, List.getElem_cons_zero, Act.put, List.setIfInBounds_toArray, List.set_cons_zero, List.set_cons_succ]
  refine wpAnyH_take (i := 14) (v := ?_) rfl (by kernel_rfl) (by kernel_rfl) (by kernel_rfl) (fun _ _ _ h => h) (Or.inl ⟨by rfl, ?_⟩) hHeld ?_
  rotate_left
  · intro w' hSw
    (try dsimp only at hSw)
    go_simp
    all_goals (with_reducible rfl)
  simp only [List.getElem_toArray, List.getElem_cons_succ, List.getElem_cons_zero, Act.put, List.setIfInBounds_toArray, List.set_cons_zero, List.set_cons_succ]
  refine wpAnyH_done (by kernel_rfl) ?_ _
  refine NoPanic.normal ?_
  have Hfin := Lib.hid Hh4.out.2.2
  clear Hh3 Hh4 hHeld
  go_wp2
  go_ret
  exact ⟨rfl, Hfin.out⟩

theorem walk_floatExact (g : Bool) (A : Option Addr) (n c : Nat) (xs : List Nat) (e0 : Int) (near0 : Int) (w : World) (hT : Tab w) (hA : Lim w A n c xs) (h0 : 0 ≤ near0) (h1 : near0 ≤ 18446744073709551615) :
    Calls Tryd.prog 4 #[.agg #[.bool g, .slice A n c, .int .i64 e0], .int .u64 near0] w fun e w' => e = .returned (.bool true) ∧ Below w.heap.size w w' := by
  obtain ⟨near, rfl⟩ := Int.eq_ofNat_of_zero_le h0
  have hnear : near < 18446744073709551616 := by omega
  by_cases hn : 20 < n
  · exact fexact_long g A n c xs e0 near w hT hA hn
  · obtain ⟨⟨dg, dV, dE⟩, hd⟩ : ∃ d, nO g (val xs) e0 = d := ⟨_, rfl⟩
    obtain ⟨⟨X, ok⟩, hx⟩ : ∃ p, exD ⟨dg, dV, dE⟩ = p := ⟨_, rfl⟩
    have hodd : Odd ⟨dg, dV, dE⟩ := by rw [← hd]; exact nO_odd _ _ _
    cases ok with
    | true =>
      obtain ⟨f1, f2, f3⟩ := exD_yes hodd hx
      exact fexact_ok g A n c xs e0 near w hT hA (by omega) dg dV dE X true hd hx rfl f1 _ rfl ((fkd_fin X).2 f2) f3
    | false =>
      have hX : X = 0 := by
        rcases exD_cases ⟨dg, dV, dE⟩ with ⟨_, q⟩ | ⟨_, _, q⟩ | ⟨_, _, _, _, q⟩
        · rw [q] at hx; cases hx
        · rw [q] at hx; exact (congrArg Prod.fst hx).symm
        · rw [q] at hx; cases congrArg Prod.snd hx
      by_cases hf : Fnt near
      · obtain ⟨⟨ng, nV, nE⟩, hO⟩ : ∃ d, fO near = d := ⟨_, rfl⟩
        refine fexact_no g A n c xs e0 near w hT hA (by omega) dg dV dE X false hd hx rfl hX hnear _ rfl ((fkd_fin near).2 hf) ng nV nE hO ?_
        intro he
        have q := exD_back hnear hf
        rw [hO, he, hx] at q
        cases congrArg Prod.snd q
      · exact fexact_inf g A n c xs e0 near w hT hA (by omega) dg dV dE X false hd hx rfl hX hnear _ rfl (fun h => hf ((fkd_fin near).1 h))
end Go.Proofs.YtgkjlfhflndddaaDoor
