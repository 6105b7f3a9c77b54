/- dyad.Of of a number below 0. -/
import Derived.Test.YtafgooiakmmfkaaDoorK3
namespace Go.Proofs.YtafgooiakmmfkaaDoor
open Go.RowKit

set_option maxHeartbeats 2000000 in
/-- dyad.Of of a number below 0. -/
theorem dof_neg (N : Nat) (h0 : N ≠ 0) (hn : N < 9223372036854775808) (g : Bool) (V : Nat) (E : Int) (w : World) (hT : Tab w) (hd : mk true N 0 = some ⟨g, V, E⟩) : Calls Tryd.prog 32 #[.int .i64 (-(N : Int))] w (Tells1 w g V 1 E) := by
  have a3 := below1 w (.cells #[.bool false, .slice none 0 0, .int .i64 0] 36)
  have HT := Lib.hid (hT.below a3)
  have Hb := Lib.hid (Bd.new w 36 false none 0 0 0)
  have HS := Lib.hid a3
  have Hd := Lib.hid hd
  obtain ⟨x, hx⟩ : ∃ x : Int, -(N : Int) = x := ⟨_, rfl⟩
  have H0 : Hid (∀ u, Calls Tryd.prog 65 #[.int .i64 x] u fun e w' => e = .returned (.int .u64 (N : Int)) ∧ u = w') := fun u => by
    have b1 : decide (x < 0) = true := decide_eq_true (by omega)
    obtain ⟨y, hy⟩ : ∃ y : Int, x + 1 = y := ⟨_, rfl⟩
    obtain ⟨z, hz⟩ : ∃ z : Nat, -y = (z : Int) := ⟨N - 1, by omega⟩
    obtain ⟨v, hv⟩ : ∃ v : Int, (z : Int) + 1 = v := ⟨_, rfl⟩
    have hz9 : z < 9223372036854775807 := by omega
    have hvN : v = (N : Int) := by omega
    have hy1 : -9223372036854775808 ≤ y := by omega
    have hy2 : y ≤ 0 := by omega
    have HvN := Lib.hid hvN
    clear hx hvN
    go_enter Tryd.func65, Tryd.ntmps65
    go_wp2
    go_ret
    exact ⟨ret_int HvN.out, rfl⟩
  have b1 : decide (x < 0) = true := decide_eq_true (by omega)
  rw [hx]
  clear a3 hT hd hx
  go_enter Tryd.func32, Tryd.ntmps32
  go_wp2_with fail
  refine (H0.out _).mono ?_
  rintro e w' ⟨rfl, rfl⟩
  go_wp2_with fail
  refine (of_any N (by omega) _).mono ?_
  rintro e w1 ⟨A1, m1, c1, zs, rfl, hm1, hl1, hb1, hv1, hB1⟩
  have HM := Lib.hid (make_any true A1 m1 c1 zs 0 w1 hl1 (by omega) (HT.out.below hB1))
  rw [hv1, Hd.out] at HM
  have Hb1 := Lib.hid (Hb.out.below hB1)
  have HS1 := Lib.hid (HS.out.trans (hB1.mono HS.out.size))
  clear hl1 hb1 hv1 hB1 HT Hb HS Hd H0
  go_wp2_with fail
  refine HM.out.mono ?_
  rintro e w2 ⟨g2, A2, m2, c2, us, E2, r2, rfl, hm2, hl2, hb2, his, hB2⟩
  obtain ⟨rfl, rfl, hz, rfl⟩ := his
  have k2 := Hb1.out.below hB2
  have Hfin : Hid (Tells1 w g2 V 1 E2 (.returned (.agg #[.bool g2, .slice A2 m2 c2, .int .i64 E2])) (World.put (w2.alloc (.cells #[.bool g2, .slice A2 m2 c2, .int .i64 E2] 36)) w.heap.size g2 A2 m2 c2 E2)) :=
    ⟨A2, m2, c2, us, rfl, by omega, (k2.alloc _).lim (hl2.alloc _) _ _ _ _ _, hb2, hz, below_put ((HS1.out.trans (hB2.mono HS1.out.size)).alloc (HS1.out.trans (hB2.mono HS1.out.size)).size _) (Nat.le_refl _) _ _ _ _ _⟩
  have y0 := fun o => (k2.alloc o).c0
  have y1 := fun o => (k2.alloc o).c1
  have y2 := fun o => (k2.alloc o).c2
  have yf := fun o => (k2.alloc o).fz
  clear k2 hB2 hl2 hb2 HM Hb1 HS1 hz
  go_wp2
  exact bodyPost_ret (v := .agg #[.bool g2, .slice A2 m2 c2, .int .i64 E2]) (by simp [results, Tryd.results32, go_sem, y0, y1, y2]) rfl Hfin.out
end Go.Proofs.YtafgooiakmmfkaaDoor
