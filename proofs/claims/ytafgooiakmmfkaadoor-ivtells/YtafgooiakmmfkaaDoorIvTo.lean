/- The walk of planimeterref05.To of long numbers that aren't 0 (written by mk_ivto.py). -/
import Derived.Test.YtafgooiakmmfkaaDoorK2
namespace Go.Proofs.YtafgooiakmmfkaaDoor
open Go.RowKit

/-- Behind the first region: the same number in a block p. -/
def RelB (w : World) (g : Bool) (V : Nat) (E : Int) (p : Nat) (A5 : Option Addr) (m5 c5 : Nat) (es : List Nat) (u : World) : Prop :=
  Bd u p 31 g A5 m5 c5 E ∧ Bd u (w.heap.size + 1) 24 false none 0 0 0 ∧ Dig u A5 m5 c5 es ∧ D.Bare es ∧ D.val es = V ∧ m5 ≤ 800 ∧ w.heap.size + 1 < p ∧ Below w.heap.size w u
theorem RelB.below {w : World} {g : Bool} {V : Nat} {E : Int} {p : Nat} {A5 : Option Addr} {m5 c5 : Nat} {es : List Nat} {u u' : World} (h : RelB w g V E p A5 m5 c5 es u) (hb : Below u.heap.size u u') : RelB w g V E p A5 m5 c5 es u' := by
  obtain ⟨h1, h2, h3, h4, h5, h6, h7, h8⟩ := h
  exact ⟨h1.below hb, h2.below hb, h3.below hb, h4, h5, h6, h7, h8.trans (hb.mono h8.size)⟩
theorem RelBg.of {w : World} {g : Bool} {V : Nat} {E : Int} {A : Option Addr} {m c : Nat} {ds : List Nat} {u : World} (dg : Bool) (dE : Int) (h : HoldT w g A m c ds E u) {p : Nat} (hp : w.heap.size + 1 < p) {g0 : Bool} {A0 : Option Addr} {n0 c0 : Nat} {e0 : Int} (hB : Bd u p 31 g0 A0 n0 c0 e0) {A5 : Option Addr} {m5 c5 : Nat} {es : List Nat} (hl : Dig u A5 m5 c5 es) (hd : D.Bare es) (hv : D.val es = V) (hm : m5 ≤ 800) : RelB w dg V dE p A5 m5 c5 es (World.put u p dg A5 m5 c5 dE) :=
  ⟨hB.put _ _ _ _ _, h.2.1.other (by omega) _ _ _ _ _, hB.dig hl _ _ _ _ _, hd, hv, hm, hp, below_put h.2.2.2 (by omega) _ _ _ _ _⟩

set_option maxHeartbeats 4000000 in
theorem rto_big (g : Bool) (V : Nat) (E : Int) (dg : Bool) (dV : Nat) (dE : Int) (A : Option Addr) (m c : Nat) (ds : List Nat) (w : World) (hA : Dig w A m c ds) (hd : D.Bare ds) (hv : D.val ds = V) (hm : m ≤ 640) (hN : nO g V E = ⟨dg, dV, dE⟩) (hE1 : -1073741824 ≤ dE) (hE2 : dE ≤ 1073741824) :
    Calls Tryd.prog 19 #[.agg #[.bool g, .slice A m c, .int .i64 E]] w (TTold w ⟨dg, dV, dE⟩ 201) := by
  have a3 : Below w.heap.size w ((w.alloc (.cells #[.bool g, .slice A m c, .int .i64 E] 31)).alloc (.cells #[.bool false, .slice none 0 0, .int .i64 0] 24)) := ((Below.refl _ _).alloc (Nat.le_refl _) _).alloc (by simp) _
  have b1 := (Bd.new w 31 g A m c E).alloc (.cells #[.bool false, .slice none 0 0, .int .i64 0] 24)
  have b2 := Bd.new (w.alloc (.cells #[.bool g, .slice A m c, .int .i64 E] 31)) 24 false none 0 0 0
  rw [World.size_alloc] at b2
  have h0 : HoldT w g A m c ds E ((w.alloc (.cells #[.bool g, .slice A m c, .int .i64 E] 31)).alloc (.cells #[.bool false, .slice none 0 0, .int .i64 0] 24)) := ⟨b1, b2, hA.below a3, a3⟩
  have F0 := Lib.hid (h0.below (below_drew _))
  have F0c := Lib.hid F0.out.cells
  have F1 := Lib.hid ((h0.below (below1 _ (.cells #[.bool false, .slice none 0 0, .int .i64 0] 31))).below (below_drew _))
  have F1c := Lib.hid F1.out.cells
  have z1 := Bd.new ((w.alloc (.cells #[.bool g, .slice A m c, .int .i64 E] 31)).alloc (.cells #[.bool false, .slice none 0 0, .int .i64 0] 24)) 31 false none 0 0 0
  rw [World.size_alloc, World.size_alloc] at z1
  have Z1 := Lib.hid z1.drew
  have HL : Hid (∀ u, HoldT w g A m c ds E u → Calls Tryd.prog 42 #[.slice A m c] u (Tells u V ((m + 3) / 4))) := fun u hu => by
    have := limbs_t A m c ds u hu.2.2.1 hd (by omega)
    rw [hv] at this
    exact this
  have HO : Hid (∀ u A1 m1 c1 zs, Lim u A1 m1 c1 zs → val zs = V → m1 ≤ 170 → Calls Tryd.prog 9 #[.agg #[.bool g, .slice A1 m1 c1, .int .i64 E]] u (NTold u ⟨dg, dV, dE⟩ (4 * m1))) := fun u A1 m1 c1 zs h1 h2 h3 => by
    have := rof_any g A1 m1 c1 zs E u h1 (by omega)
    rw [h2, hN] at this
    exact this
  have HZ : Hid (dV = 0 → dg = false ∧ dE = 0) := fun h => by
    by_cases hV : V = 0
    · rw [hV, nO_zero] at hN
      obtain ⟨r1, _, r3⟩ := Dy.mk.inj hN
      exact ⟨r1.symm, r3.symm⟩
    · have h1 := nO_odd g V E
      rw [hN] at h1
      rcases h1 with ⟨q, hq⟩ | h1
      · simp only at hq; omega
      · obtain ⟨r1, _, r3⟩ := Dy.mk.inj h1; exact ⟨r1, r3⟩
  clear a3 b1 b2 hA h0 z1 hN hd hv
  go_enter Tryd.func19, Tryd.ntmps19
  go_wp2_with fail
  go_cut [4] from 5 (fun s4 wx => ∃ (p m5 c5 : Nat) (A5 : Option Addr) (es : List Nat), s4 = .pointer (some ⟨p, 0, none⟩) ∧ Hid (RelB w dg dV dE p A5 m5 c5 es wx))
  case first =>
    go_region_held3 (fun w' => w'.cell? ⟨w.heap.size, 0, none⟩ = some (.bool g) ∧ w'.cell? ⟨w.heap.size, 1, none⟩ = some (.slice A m c) ∧ w'.cell? ⟨w.heap.size, 2, none⟩ = some (.int .i64 E))
      (first | (with_reducible exact F0c.out) | (with_reducible exact F1c.out) | (with_reducible exact K1.out) | (with_reducible exact K1a.out _) | (with_reducible exact K2.out) | (with_reducible exact K2a.out _) | (with_reducible exact K2b.out))
      (first
        | (go_at_call 42; (with_reducible refine (HL.out _ F0.out).mono ?_); rintro e w1 ⟨A1, m1, c1, zs, rfl, hm1, hl1, hb1, hv1, hB1⟩; have h1 := F0.out.below hB1; have K1 := Lib.hid h1.cells; have K1a : Hid (∀ o, CellsT w g A m c E (w1.alloc o)) := fun o => (h1.below (below1 _ o)).cells; have h1 := Lib.hid h1; have L1 : Hid (Lim w1 A1 m1 c1 zs ∧ val zs = V) := ⟨hl1, hv1⟩; clear hl1 hb1 hv1 hB1)
        | (go_at_call 42; (with_reducible refine (HL.out _ F1.out).mono ?_); rintro e w1 ⟨A1, m1, c1, zs, rfl, hm1, hl1, hb1, hv1, hB1⟩; have g1 := F1.out.below hB1; have K1 := Lib.hid g1.cells; have G1 := Lib.hid (Z1.out.below hB1); have g1 := Lib.hid g1; have M1 : Hid (Lim w1 A1 m1 c1 zs ∧ val zs = V) := ⟨hl1, hv1⟩; clear hl1 hb1 hv1 hB1)
        | (go_at_call 9; (with_reducible refine (HO.out w1 A1 m1 c1 zs L1.out.1 L1.out.2 (by omega)).mono ?_); rintro e w2 ⟨A2, m2, c2, es, rfl, hm2, hl2, hd2, hv2, hB2⟩; have h2 := h1.out.below hB2; have K2 := Lib.hid h2.cells; have K2a : Hid (∀ o, CellsT w g A m c E (w2.alloc o)) := fun o => (h2.below (below1 _ o)).cells; have hsz : w.heap.size + 1 < w2.heap.size := h2.2.1.lt; have q2 := h2.below (below1 _ (.cells #[.bool false, .slice none 0 0, .int .i64 0] 31)); have z2 := Bd.new w2 31 false none 0 0 0; have u0 := z2.c0; have u1 := z2.c1; have u2 := z2.c2; have uf := z2.fz; have K2b := Lib.hid (q2.put hsz z2 dg A2 m2 c2 dE).cells; have Fin0 : Hid (RelB w dg dV dE w2.heap.size A2 m2 c2 es (w2.alloc (.cells #[.bool dg, .slice A2 m2 c2, .int .i64 dE] 31))) := ⟨Bd.new w2 _ _ _ _ _ _, h2.2.1.alloc _, hl2.alloc _, hd2, hv2, by omega, hsz, h2.2.2.2.trans ((below1 w2 _).mono h2.2.2.2.size)⟩; clear q2 z2 hl2 hd2 hv2 hB2 h2)
        | (go_at_call 9; (with_reducible refine (HO.out (w1.alloc (.cells #[.bool false, .slice none 0 0, .int .i64 0] 31)) A1 m1 c1 zs (L1.out.1.alloc _) L1.out.2 (by omega)).mono ?_); rintro e w2 ⟨A2, m2, c2, es, rfl, hm2, hl2, hd2, hv2, hB2⟩; have h2 := (h1.out.below (below1 _ (.cells #[.bool false, .slice none 0 0, .int .i64 0] 31))).below hB2; have K2 := Lib.hid h2.cells; have hsz : w.heap.size + 1 < w1.heap.size := h1.out.2.1.lt; have z2 := (Bd.new w1 31 false none 0 0 0).below hB2; have u0 := z2.c0; have u1 := z2.c1; have u2 := z2.c2; have uf := z2.fz; have K2b := Lib.hid (h2.put hsz z2 dg A2 m2 c2 dE).cells; have Fin1 := Lib.hid (RelBg.of dg dE h2 hsz z2 hl2 hd2 hv2 (by omega)); clear z2 hl2 hd2 hv2 hB2 h2)
        | (go_at_call 9; (with_reducible refine (HO.out w1 A1 m1 c1 zs M1.out.1 M1.out.2 (by omega)).mono ?_); rintro e w2 ⟨A2, m2, c2, es, rfl, hm2, hl2, hd2, hv2, hB2⟩; have h2 := g1.out.below hB2; have K2 := Lib.hid h2.cells; have hsz : w.heap.size + 1 < w.heap.size + 1 + 1 := Nat.lt_succ_self _; have z2 := G1.out.below hB2; have u0 := z2.c0; have u1 := z2.c1; have u2 := z2.c2; have uf := z2.fz; have K2b := Lib.hid (h2.put hsz z2 dg A2 m2 c2 dE).cells; have Fin1 := Lib.hid (RelBg.of dg dE h2 hsz z2 hl2 hd2 hv2 (by omega)); clear z2 hl2 hd2 hv2 hB2 h2))
    all_goals (go_wp2_with fail)
    all_goals go_meet
    all_goals (refine ⟨_, m2, c2, A2, es, rfl, ?_⟩)
    all_goals (first | (with_reducible exact Fin1) | (with_reducible exact Fin0))
  case rest =>
    obtain ⟨wA, rfl⟩ : ∃ wA, wA = wc := ⟨_, rfl⟩
    obtain ⟨p, m5, c5, A5, es, rfl, HR⟩ := hcut
    have x0 := HR.out.1.c0
    have x1 := HR.out.1.c1
    have x2 := HR.out.1.c2
    clear F0 F0c F1 F1c Z1 HL HO
    go_wp2_with fail
    refine (fits_yes dg A5 m5 c5 dE wA hE1 hE2).mono ?_
    rintro e w2 ⟨rfl, hB2⟩
    have HR2 := Lib.hid (HR.out.below hB2)
    have y0 := HR2.out.1.c0
    have y1 := HR2.out.1.c1
    have y2 := HR2.out.1.c2
    have z0 := HR2.out.2.1.c0
    have z1 := HR2.out.2.1.c1
    have z2 := HR2.out.2.1.c2
    have zf := HR2.out.2.1.fz
    have hV5 := HR2.out.2.2.2.2.1
    have hL5 := HR2.out.2.2.1.len
    have hm5 := HR2.out.2.2.2.2.2.1
    clear HR hB2 x0 x1 x2
    by_cases hV0 : dV = 0
    case pos =>
      obtain ⟨hz1, hz2⟩ := HZ.out hV0
      subst hz1 hz2
      obtain rfl : m5 = 0 := by
        have h5 : D.tl es = 0 := D.tl_zero_iff.2 (hV5.trans hV0)
        rw [HR2.out.2.2.2.1] at h5
        omega
      have Hfin : Hid (TTold w ⟨false, dV, 0⟩ 201 (.returned (.tuple #[.agg #[.bool false, .slice none 0 0, .int .i64 0], .int .i64 0])) (World.put w2 (w.heap.size + 1) false none 0 0 0)) :=
        ⟨none, 0, 0, [], rfl, Nat.zero_le _, Lim.nil _ _ _, rfl, hV0.symm, below_put HR2.out.2.2.2.2.2.2.2 (Nat.le_succ _) _ _ _ _ _⟩
      clear HR2 hV5 hL5 hV0 HZ
      go_wp2
      exact bodyPost_ret (v := .tuple #[.agg #[.bool false, .slice none 0 0, .int .i64 0], .int .i64 0]) (by simp [results, Tryd.results19, go_sem, z0, z1, z2]) rfl Hfin.out
    clear HZ
    have hm0 : m5 ≠ 0 := by
      intro h
      apply hV0
      rw [← hV5]
      rw [h] at hL5
      rw [List.eq_nil_of_length_eq_zero hL5]; rfl
    have c0 : ((m5 : Int) == 0) = false := beq_no (by omega)
    have h9 := HR2.out.below (below_drew _)
    have H9 := limbs_t A5 m5 c5 es _ h9.2.2.1 h9.2.2.2.1 (by omega)
    rw [hV5] at H9
    have H9 := Lib.hid H9
    have K0 := Lib.hid (And.intro h9.1.c0 (And.intro h9.1.c1 h9.1.c2))
    have h9 := Lib.hid h9
    clear hV5 hL5 hV0 hm0
    go_wp2_with fail
    go_region_held3 (fun w' => w'.cell? ⟨p, 0, none⟩ = some (.bool dg) ∧ w'.cell? ⟨p, 1, none⟩ = some (.slice A5 m5 c5) ∧ w'.cell? ⟨p, 2, none⟩ = some (.int .i64 dE))
      (first | (with_reducible exact K0.out) | (with_reducible exact K1.out) | (with_reducible exact K2.out))
      (first | (go_at_call 42; (with_reducible refine H9.out.mono ?_); rintro e w3 ⟨A6, m6, c6, zs, rfl, hm6, hl6, hb6, hv6, hB6⟩; have h3 := h9.out.below hB6; have K1 := Lib.hid (And.intro h3.1.c0 (And.intro h3.1.c1 h3.1.c2)); have q3 := h3.1.other (b' := w.heap.size + 1) (by have := h3.2.2.2.2.2.2.1; omega) dg A6 m6 c6 dE; have K2 := Lib.hid (And.intro q3.c0 (And.intro q3.c1 q3.c2)); have u0 := h3.2.1.c0; have u1 := h3.2.1.c1; have u2 := h3.2.1.c2; have uf := h3.2.1.fz; have Hfin : Hid (TTold w ⟨dg, dV, dE⟩ 201 (.returned (.tuple #[.agg #[.bool dg, .slice A6 m6 c6, .int .i64 dE], .int .i64 0])) (World.put w3 (w.heap.size + 1) dg A6 m6 c6 dE)) := ⟨A6, m6, c6, zs, rfl, by omega, h3.2.1.lim hl6 _ _ _ _ _, hb6, hv6, below_put h3.2.2.2.2.2.2.2 (Nat.le_succ _) _ _ _ _ _⟩; clear q3 h3 hl6 hb6 hv6 hB6))
    all_goals (
      clear K0 K1 K2 h9 H9 HR2 y0 y1 y2 z0 z1 z2 zf
      go_wp2_with fail
      exact bodyPost_ret (v := .tuple #[.agg #[.bool dg, .slice A6 m6 c6, .int .i64 dE], .int .i64 0]) (by simp [results, Tryd.results19, go_sem, u0, u1, u2]) rfl Hfin.out)

end Go.Proofs.YtafgooiakmmfkaaDoor
