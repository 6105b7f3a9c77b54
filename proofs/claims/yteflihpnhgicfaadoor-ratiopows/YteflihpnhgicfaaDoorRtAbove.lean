/- The walk of ratio.above. -/
import Derived.Test.YteflihpnhgicfaaDoorRtFit
namespace Go.Proofs.YteflihpnhgicfaaDoor
open Go.RowKit

set_option maxHeartbeats 1000000 in
set_option maxRecDepth 20000 in
theorem above_any (o : Option Dy) (g : Bool) (A : Option Addr) (n c : Nat) (xs : List Nat) (e0 : Int) (w : World) (hA : Lim w A n c xs) (hn : n ≤ 4294967296) (hT : Tab w) (ho : Hid (mk g (val xs) e0 = o)) :
    Calls Tryd.prog 36 #[.agg #[.bool g, .slice A n c, .int .i64 e0]] w (Above w o n) := by
  have a3 : Below w.heap.size w ((w.alloc (.cells #[.bool g, .slice A n c, .int .i64 e0] 30)).alloc (.cells #[.bool false, .slice none 0 0, .int .i64 0] 30)) := ((Below.refl _ _).alloc (Nat.le_refl _) _).alloc (by simp) _
  have H1 := dbare_any g A n c xs e0 _ (hA.below a3) hn (hT.below a3)
  rw [ho.out] at H1
  replace H1 := Lib.hid H1
  have b2 := Bd.new (w.alloc (.cells #[.bool g, .slice A n c, .int .i64 e0] 30)) 30 false none 0 0 0
  rw [World.size_alloc] at b2
  have Hb2 := Lib.hid b2
  have HS := Lib.hid a3
  clear a3 hA hT b2 ho
  go_enter Tryd.func36, Tryd.ntmps36
  go_wp2_with fail
  refine H1.out.mono ?_
  rintro e w1 ⟨g1, A1, m1, c1, zs, E1, r1, rfl, hm1, hl1, hb1, his1, hB1⟩
  have hs1 := HS.out.trans (hB1.mono HS.out.size)
  have hB2 := Hb2.out.below hB1
  have h0 : HoldA w false none 0 0 0 w1.heap.size g1 A1 m1 c1 zs E1 (w1.alloc (.cells #[.bool g1, .slice A1 m1 c1, .int .i64 E1] 30)) :=
    ⟨hB2.alloc _, Bd.new w1 _ _ _ _ _ _, hl1.alloc _, hB2.lt, hs1.alloc hs1.size _⟩
  have K0 := Lib.hid (h0.below (below_drew _))
  have K1 := Lib.hid ((h0.put g1 A1 m1 c1 E1).below (below_drew _))
  have x0 := h0.r0
  have x1 := h0.r1
  have x2 := h0.r2
  have xf := h0.rf
  cases o with
  | none =>
    obtain ⟨rfl, rfl, hz, rfl⟩ := his1
    have Hfin : Hid (Above w none n (.returned (.tuple #[.agg #[.bool false, .slice A1 m1 c1, .int .i64 0], .bool false])) (World.put (w1.alloc (.cells #[.bool false, .slice A1 m1 c1, .int .i64 0] 30)) (w.heap.size + 1) false A1 m1 c1 0).drew) :=
      ⟨false, A1, m1, c1, zs, 0, false, rfl, hm1, K1.out.lim, hb1, rfl, K1.out.old⟩
    have y0 := K1.out.r0
    have y1 := K1.out.r1
    have y2 := K1.out.r2
    clear h0 hs1 hB2 hl1 hb1 hB1 HS Hb2 H1 hz
    go_wp2_with fail
    go_region_with (fail)
    all_goals (go_wp2_with fail)
    all_goals (exact bodyPost_ret (v := .tuple #[.agg #[.bool false, .slice A1 m1 c1, .int .i64 0], .bool false]) (by simp [results, Tryd.results36, go_sem, y0, y1, y2]) rfl Hfin.out)
  | some d =>
    obtain ⟨dg, dV, dE⟩ := d
    obtain ⟨rfl, h2, hz, h3⟩ := his1
    simp only at h2 hz h3
    subst h2
    subst h3
    obtain ⟨s, hs⟩ : ∃ s, sgD g1 dV = s := ⟨_, rfl⟩
    have HSg : Hid (∀ gr Ar nr cr er u, HoldA w gr Ar nr cr er w1.heap.size g1 A1 m1 c1 zs E1 u → Calls Tryd.prog 22 #[.agg #[.bool g1, .slice A1 m1 c1, .int .i64 E1]] u fun e w' => e = .returned (.int .i64 s) ∧ Below u.heap.size u w') := fun _ _ _ _ _ u hu =>
      sign_l s g1 A1 m1 c1 zs E1 u hu.lim (by omega) (by show sgD _ _ = _; rw [hz]; exact hs)
    have HF : Hid (∀ u, HoldA w g1 A1 m1 c1 E1 w1.heap.size g1 A1 m1 c1 zs E1 u → Above w (some ⟨g1, dV, E1⟩) n (.returned (.tuple #[.agg #[.bool g1, .slice A1 m1 c1, .int .i64 E1], .bool (decide (0 < s))])) u) := fun u hu =>
      ⟨g1, A1, m1, c1, zs, E1, _, rfl, hm1, hu.lim, hb1, ⟨by rw [← hs], rfl, hz, rfl⟩, hu.old⟩
    clear h0 hs1 hB2 hl1 hb1 hB1 HS Hb2 H1 hz hs
    go_wp2_with fail
    go_region_held3 (fun w' => w'.cell? ⟨w1.heap.size, 0, none⟩ = some (.bool g1) ∧ w'.cell? ⟨w1.heap.size, 1, none⟩ = some (.slice A1 m1 c1) ∧ w'.cell? ⟨w1.heap.size, 2, none⟩ = some (.int .i64 E1))
      (first | (with_reducible exact K0.out.cells) | (with_reducible exact K1.out.cells) | (with_reducible exact Y.out.cells) | (with_reducible exact Z.out.cells))
      (first | (go_at_call 22; (with_reducible refine (HSg.out false none 0 0 0 _ (by with_reducible exact K0.out)).mono ?_); rintro e w3 ⟨rfl, hY⟩; have Y := Lib.hid (K0.out.below hY); have Z := Lib.hid (Y.out.put g1 A1 m1 c1 E1); have Fin := Lib.hid (HF.out _ Z.out); have x0 := Y.out.r0; have x1 := Y.out.r1; have x2 := Y.out.r2; have xf := Y.out.rf; have y0 := Z.out.r0; have y1 := Z.out.r1; have y2 := Z.out.r2; clear hY) | (go_at_call 22; (with_reducible refine (HSg.out g1 A1 m1 c1 E1 _ (by with_reducible exact K1.out)).mono ?_); rintro e w3 ⟨rfl, hY⟩; have Y := Lib.hid (K1.out.below hY); have Fin := Lib.hid (HF.out _ Y.out); have y0 := Y.out.r0; have y1 := Y.out.r1; have y2 := Y.out.r2; clear hY))
    all_goals (go_wp2_with fail)
    all_goals (exact bodyPost_ret (v := .tuple #[.agg #[.bool g1, .slice A1 m1 c1, .int .i64 E1], .bool (decide (0 < s))]) (by simp [results, Tryd.results36, go_sem, y0, y1, y2]) rfl Fin.out)
end Go.Proofs.YteflihpnhgicfaaDoor
