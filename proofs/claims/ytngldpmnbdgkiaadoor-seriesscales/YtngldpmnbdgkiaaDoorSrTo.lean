/- The document's To of layer 5 of any number, 0 among them. -/
import Derived.Test.YtngldpmnbdgkiaaDoorK3
import Derived.Test.YtngldpmnbdgkiaaDoorK1
import Derived.Deep.Cut
namespace Go.Proofs.YtngldpmnbdgkiaaDoor
open Go.RowKit

set_option maxHeartbeats 4000000 in
theorem rto_nil (g : Bool) (V : Nat) (E : Int) (A : Option Addr) (m c : Nat) (ds : List Nat) (w : World) (hA : Dig w A m c ds) (hd : D.Bare ds) (hv : D.val ds = V) (hm : m ≤ 197) (hN : nO g V E = ⟨false, 0, 0⟩) :
    Calls Tryd.prog 27 #[.agg #[.bool g, .slice A m c, .int .i64 E]] w (TTold w ⟨false, 0, 0⟩ 50) := by
  have a3 : Below w.heap.size w ((w.alloc (.cells #[.bool g, .slice A m c, .int .i64 E] 51)).alloc (.cells #[.bool false, .slice none 0 0, .int .i64 0] 52)) := ((Below.refl _ _).alloc (Nat.le_refl _) _).alloc (by simp) _
  have b1 := (Bd.new w 51 g A m c E).alloc (.cells #[.bool false, .slice none 0 0, .int .i64 0] 52)
  have b2 := Bd.new (w.alloc (.cells #[.bool g, .slice A m c, .int .i64 E] 51)) 52 false none 0 0 0
  rw [World.size_alloc] at b2
  have h0 : HoldT w g A m c ds E ((w.alloc (.cells #[.bool g, .slice A m c, .int .i64 E] 51)).alloc (.cells #[.bool false, .slice none 0 0, .int .i64 0] 52)) := ⟨b1, b2, hA.below a3, a3⟩
  have F0 := Lib.hid (h0.below (below_drew _))
  have F0c := Lib.hid F0.out.cells
  have F1 := Lib.hid ((h0.below (below1 _ (.cells #[.bool false, .slice none 0 0, .int .i64 0] 51))).below (below_drew _))
  have F1c := Lib.hid F1.out.cells
  have z1 := Bd.new ((w.alloc (.cells #[.bool g, .slice A m c, .int .i64 E] 51)).alloc (.cells #[.bool false, .slice none 0 0, .int .i64 0] 52)) 51 false none 0 0 0
  rw [World.size_alloc, World.size_alloc] at z1
  have Z1 := Lib.hid z1.drew
  have HL : Hid (∀ u, HoldT w g A m c ds E u → Calls Tryd.prog 48 #[.slice A m c] u (Tells u V ((m + 3) / 4))) := fun u hu => by
    have := limbs_t A m c ds u hu.2.2.1 hd (by omega)
    rw [hv] at this
    exact this
  have HO : Hid (∀ u A1 m1 c1 zs, Lim u A1 m1 c1 zs → val zs = V → m1 ≤ 50 → Calls Tryd.prog 47 #[.agg #[.bool g, .slice A1 m1 c1, .int .i64 E]] u (NTold u ⟨false, 0, 0⟩ (4 * m1))) := fun u A1 m1 c1 zs h1 h2 h3 => by
    have := rof_any g A1 m1 c1 zs E u h1 (by omega)
    rw [h2, hN] at this
    exact this
  clear a3 b1 b2 hA h0 z1 hN hd hv
  go_enter Tryd.func27, Tryd.ntmps27
  go_wp2_with fail
  go_cut [4] from 5 (fun s4 wx => ∃ (p m5 c5 : Nat) (A5 : Option Addr) (es : List Nat), s4 = .pointer (some ⟨p, 0, none⟩) ∧ Hid (RelT w false 0 0 p A5 m5 c5 es wx))
  case first =>
    go_region_held3 (fun w' => w'.cell? ⟨w.heap.size, 0, none⟩ = some (.bool g) ∧ w'.cell? ⟨w.heap.size, 1, none⟩ = some (.slice A m c) ∧ w'.cell? ⟨w.heap.size, 2, none⟩ = some (.int .i64 E))
      (first | (with_reducible exact F0c.out) | (with_reducible exact F1c.out) | (with_reducible exact K1.out) | (with_reducible exact K1a.out _) | (with_reducible exact K2.out) | (with_reducible exact K2a.out _) | (with_reducible exact K2b.out))
      (first
        | (go_at_call 48; (with_reducible refine (HL.out _ F0.out).mono ?_); rintro e w1 ⟨A1, m1, c1, zs, rfl, hm1, hl1, hb1, hv1, hB1⟩; have h1 := F0.out.below hB1; have K1 := Lib.hid h1.cells; have K1a : Hid (∀ o, CellsT w g A m c E (w1.alloc o)) := fun o => (h1.below (below1 _ o)).cells; have h1 := Lib.hid h1; have L1 : Hid (Lim w1 A1 m1 c1 zs ∧ val zs = V) := ⟨hl1, hv1⟩; clear hl1 hb1 hv1 hB1)
        | (go_at_call 48; (with_reducible refine (HL.out _ F1.out).mono ?_); rintro e w1 ⟨A1, m1, c1, zs, rfl, hm1, hl1, hb1, hv1, hB1⟩; have g1 := F1.out.below hB1; have K1 := Lib.hid g1.cells; have G1 := Lib.hid (Z1.out.below hB1); have g1 := Lib.hid g1; have M1 : Hid (Lim w1 A1 m1 c1 zs ∧ val zs = V) := ⟨hl1, hv1⟩; clear hl1 hb1 hv1 hB1)
        | (go_at_call 47; (with_reducible refine (HO.out w1 A1 m1 c1 zs L1.out.1 L1.out.2 (by omega)).mono ?_); rintro e w2 ⟨A2, m2, c2, es, rfl, hm2, hl2, hd2, hv2, hB2⟩; have h2 := h1.out.below hB2; have K2 := Lib.hid h2.cells; have K2a : Hid (∀ o, CellsT w g A m c E (w2.alloc o)) := fun o => (h2.below (below1 _ o)).cells; have hsz : w.heap.size + 1 < w2.heap.size := h2.2.1.lt; have q2 := h2.below (below1 _ (.cells #[.bool false, .slice none 0 0, .int .i64 0] 51)); have z2 := Bd.new w2 51 false none 0 0 0; have u0 := z2.c0; have u1 := z2.c1; have u2 := z2.c2; have uf := z2.fz; have K2b := Lib.hid (q2.put hsz z2 false A2 m2 c2 0).cells; have Fin0 : Hid (RelT w false 0 0 w2.heap.size A2 m2 c2 es (w2.alloc (.cells #[.bool false, .slice A2 m2 c2, .int .i64 0] 51))) := ⟨Bd.new w2 _ _ _ _ _ _, h2.2.1.alloc _, hl2.alloc _, hd2, hv2, by omega, hsz, h2.2.2.2.trans ((below1 w2 _).mono h2.2.2.2.size)⟩; clear q2 z2 hl2 hd2 hv2 hB2 h2)
        | (go_at_call 47; (with_reducible refine (HO.out (w1.alloc (.cells #[.bool false, .slice none 0 0, .int .i64 0] 51)) A1 m1 c1 zs (L1.out.1.alloc _) L1.out.2 (by omega)).mono ?_); rintro e w2 ⟨A2, m2, c2, es, rfl, hm2, hl2, hd2, hv2, hB2⟩; have h2 := (h1.out.below (below1 _ (.cells #[.bool false, .slice none 0 0, .int .i64 0] 51))).below hB2; have K2 := Lib.hid h2.cells; have hsz : w.heap.size + 1 < w1.heap.size := h1.out.2.1.lt; have z2 := (Bd.new w1 51 false none 0 0 0).below hB2; have u0 := z2.c0; have u1 := z2.c1; have u2 := z2.c2; have uf := z2.fz; have K2b := Lib.hid (h2.put hsz z2 false A2 m2 c2 0).cells; have Fin1 := Lib.hid (RelTf.of false 0 h2 hsz z2 hl2 hd2 hv2 (by omega)); clear z2 hl2 hd2 hv2 hB2 h2)
        | (go_at_call 47; (with_reducible refine (HO.out w1 A1 m1 c1 zs M1.out.1 M1.out.2 (by omega)).mono ?_); rintro e w2 ⟨A2, m2, c2, es, rfl, hm2, hl2, hd2, hv2, hB2⟩; have h2 := g1.out.below hB2; have K2 := Lib.hid h2.cells; have hsz : w.heap.size + 1 < w.heap.size + 1 + 1 := Nat.lt_succ_self _; have z2 := G1.out.below hB2; have u0 := z2.c0; have u1 := z2.c1; have u2 := z2.c2; have uf := z2.fz; have K2b := Lib.hid (h2.put hsz z2 false A2 m2 c2 0).cells; have Fin1 := Lib.hid (RelTf.of false 0 h2 hsz z2 hl2 hd2 hv2 (by omega)); clear z2 hl2 hd2 hv2 hB2 h2))
    all_goals (go_wp2_with fail)
    all_goals go_meet
    all_goals (refine ⟨_, m2, c2, A2, es, rfl, ?_⟩)
    all_goals (first | (with_reducible exact Fin1) | (with_reducible exact Fin0))
  case rest =>
    obtain ⟨wA, rfl⟩ : ∃ wA, wA = wc := ⟨_, rfl⟩
    obtain ⟨p, m5, c5, A5, es, rfl, HR⟩ := hcut
    have x0 := HR.out.1.c0
    have x1 := HR.out.1.c1
    have x2 := HR.out.1.c2
    clear F0 F0c F1 F1c Z1 HL HO
    go_wp2_with fail
    refine (fits_yes false A5 m5 c5 0 wA (by decide) (by decide)).mono ?_
    rintro e w2 ⟨rfl, hB2⟩
    have HR2 := Lib.hid (HR.out.below hB2)
    have y0 := HR2.out.1.c0
    have y1 := HR2.out.1.c1
    have y2 := HR2.out.1.c2
    have u0 := HR2.out.2.1.c0
    have u1 := HR2.out.2.1.c1
    have u2 := HR2.out.2.1.c2
    have uf := HR2.out.2.1.fz
    obtain rfl : m5 = 0 := by
      have h2 := D.len_of_lt (M := 0) HR2.out.2.2.2.1 (by rw [HR2.out.2.2.2.2.1]; decide)
      rw [HR2.out.2.2.1.len] at h2
      omega
    have Hfin : Hid (TTold w ⟨false, 0, 0⟩ 50 (.returned (.tuple #[.agg #[.bool false, .slice none 0 0, .int .i64 0], .int .i64 0])) (World.put w2 (w.heap.size + 1) false none 0 0 0)) :=
      ⟨none, 0, 0, [], rfl, by decide, Lim.nil _ _ _, rfl, rfl, below_put HR2.out.2.2.2.2.2.2.2 (Nat.le_succ _) _ _ _ _ _⟩
    clear HR hB2 x0 x1 x2 HR2
    go_wp2
    exact bodyPost_ret (v := .tuple #[.agg #[.bool false, .slice none 0 0, .int .i64 0], .int .i64 0]) (by simp [results, Tryd.results27, go_sem, u0, u1, u2]) rfl Hfin.out

theorem rto_every (d : Dy) (g : Bool) (V : Nat) (E : Int) (A : Option Addr) (m c : Nat) (ds : List Nat) (w : World) (hA : Dig w A m c ds) (hb : D.Bare ds) (hv : D.val ds = V) (hm : m ≤ 197) (hd : Hid (mk g V E = some d)) :
    Calls Tryd.prog 27 #[.agg #[.bool g, .slice A m c, .int .i64 E]] w (TTold w d 50) := by
  have h1 := mk_is hd.out
  have h2 := (mk_fine hd.out).1
  obtain ⟨dg, dV, dE⟩ := d
  by_cases h0 : dV = 0
  · have h3 := h2.2.2 h0
    simp only at h3
    obtain ⟨rfl, rfl⟩ := h3
    subst h0
    exact rto_nil g V E A m c ds w hA hb hv hm h1
  · exact rto_far g V E dg dV dE A m c ds w hA hb hv hm h1 h0 h2.1 h2.2.1
end Go.Proofs.YtngldpmnbdgkiaaDoor
