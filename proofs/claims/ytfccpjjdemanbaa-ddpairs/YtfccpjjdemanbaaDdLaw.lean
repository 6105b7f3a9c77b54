/- What layer 9's laws rest on: worth, finite, nearest. -/
import Derived.Test.YtfccpjjdemanbaaDdVal
import Derived.Test.YtfccpjjdemanbaaJ3
import Derived.Test.YtfccpjjdemanbaaJ4
namespace Go.Proofs.Ytfccpjjdemanbaa
open Go.RowKit

theorem worth_w (b : Nat) (hb : b < 18446744073709551616) (w : World) : Calls Try.prog 12 #[.float .f64 b] w (NTold w (fO b) 4) := by
  have o := tobits_e b
  have H1 := worth_any b hb (w.alloc (.cells #[.bool false, .slice none 0 0, .int .i64 0] 29))
  have k1 := Lib.hid (Bd.new w 29 false none 0 0 0)
  have HS := Lib.hid (below1 w (.cells #[.bool false, .slice none 0 0, .int .i64 0] 29))
  generalize fO b = d at *
  obtain ⟨dg, dV, dE⟩ := d
  have H1 := Lib.hid H1
  go_enter Try.func12, Try.ntmps12
  go_wp2_with fail
  refine H1.out.mono ?_
  rintro e w2 ⟨A2, m2, c2, es, rfl, hm2, hl2, hd2, hv2, hB2⟩
  have k2 := k1.out.below hB2
  have Hfin : Hid (NTold w ⟨dg, dV, dE⟩ 4 (.returned (.agg #[.bool dg, .slice A2 m2 c2, .int .i64 dE])) (World.put w2 w.heap.size dg A2 m2 c2 dE)) :=
    ⟨A2, m2, c2, es, rfl, hm2, k2.dig hl2 _ _ _ _ _, hd2, hv2, below_put (HS.out.trans (hB2.mono HS.out.size)) (Nat.le_refl _) _ _ _ _ _⟩
  have y0 := k2.c0
  have y1 := k2.c1
  have y2 := k2.c2
  have yf := k2.fz
  clear k2 hB2 hl2 hd2 hv2 H1 k1 HS
  go_wp2
  exact bodyPost_ret (v := .agg #[.bool dg, .slice A2 m2 c2, .int .i64 dE]) (by simp [results, Try.results12, go_sem, y0, y1, y2]) rfl Hfin.out

theorem fkd_le_two {b : Nat} (hf : Fnt b) : fkd b ≤ 2 := by
  have h1 : fex b ≠ 2047 := hf
  have h2 := fex_lt b
  unfold fkd
  split
  · split <;> omega
  · rw [if_pos (by omega)]; omega
theorem finite_w (b : Nat) (hb : b < 18446744073709551616) (hf : Fnt b) (w : World) : Calls Try.prog 37 #[.float .f64 b] w fun e w' => e = .returned (.bool true) ∧ w = w' := by
  have o := tobits_e b
  obtain ⟨q, hq⟩ : ∃ q, fkd b = q := ⟨_, rfl⟩
  have H1 := Lib.hid (rkind_l q b hb w hq)
  have h2 := fkd_le_two hf
  rw [hq] at h2
  have c1 : decide ((q : Int) ≤ 2) = true := decide_eq_true (by omega)
  clear hq hf
  go_enter Try.func37, Try.ntmps37
  go_wp2_with fail
  refine H1.out.mono ?_
  rintro e w2 ⟨rfl, rfl⟩
  clear H1
  go_wp2
  go_ret
  exact ⟨rfl, rfl⟩

/-- The document's To of 0. -/
theorem rdoc_nought (g more : Bool) (A : Option Addr) (c : Nat) (e0 dir : Int) (w : World) :
    Calls Try.prog 36 #[.agg #[.bool g, .slice A 0 c, .int .i64 e0], .bool more, .int .i64 dir] w fun e w' => e = .returned (.tuple #[.int .u64 0, .int .i64 0]) ∧ Below w.heap.size w w' := by
  have Hfin := Lib.hid (below1 w (.cells #[.bool false, .slice A 0 c, .int .i64 e0] 29))
  go_enter Try.func36, Try.ntmps36
  go_wp2
  go_ret2
  exact ⟨rfl, Hfin.out⟩

/-- The nearest one is so. -/
theorem near_w {b k : Nat} {x : Int} (hb : Nb k b) (hk : k ≤ 2090) (hv : fvI b = rn x) (hl : x.natAbs ≤ 2 ^ k) (g : Bool) (A : Option Addr) (n c : Nat) (ds : List Nat) (e0 : Int) (w : World) (hA : Dig w A n c ds) (ba : D.Bare ds) (hn : n ≤ 240) (h1 : -1073741824 ≤ e0) (h2 : e0 ≤ 1073741824) (hw : Wu ⟨g, D.val ds, e0⟩ x) :
    Calls Try.prog 14 #[.float .f64 b, .agg #[.bool g, .slice A n c, .int .i64 e0]] w fun e w' => e = .returned (.bool true) ∧ Below w.heap.size w w' := by
  have o := tobits_e b
  have a1 := below1 w (.cells #[.bool g, .slice A n c, .int .i64 e0] 29)
  have HS := Lib.hid a1
  by_cases h0 : D.val ds = 0
  · obtain rfl : n = 0 := (dnil_iff hA ba).2 h0
    have H1 := Lib.hid (rdoc_nought g false A c e0 0 (w.alloc (.cells #[.bool g, .slice A 0 c, .int .i64 e0] 29)))
    have hx : x = 0 := by
      have : Wu ⟨g, D.val ds, e0⟩ x := hw
      unfold Wu at this
      simp only [h0, dw_zero] at this
      have hp := Nat.two_pow_pos kb
      rcases Int.mul_eq_zero.1 this.symm with h | h
      · exact h
      · omega
    rw [hx, rn_zero] at hv
    have hz := nought_bits hb.1 hv
    clear hb hv hl hA ba hn h1 h2 hw a1 h0 hx hk
    rcases hz with rfl | rfl
    · go_enter Try.func14, Try.ntmps14
      go_wp2_with fail
      refine H1.out.mono ?_
      rintro e w2 ⟨rfl, hB2⟩
      have H2 := Lib.hid (HS.out.trans (hB2.mono HS.out.size))
      clear H1 hB2 HS
      go_wp2
      go_ret
      exact ⟨rfl, H2.out⟩
    · go_enter Try.func14, Try.ntmps14
      go_wp2_with fail
      refine H1.out.mono ?_
      rintro e w2 ⟨rfl, hB2⟩
      have H2 := Lib.hid (HS.out.trans (hB2.mono HS.out.size))
      clear H1 hB2 HS
      go_wp2
      go_ret
      exact ⟨rfl, H2.out⟩
  · have hX := near_bits (d := ⟨g, D.val ds, e0⟩) hw h1 h2 h0 hb.1 hb.2.1 hv hk hl
    obtain ⟨F, hF⟩ : ∃ F, (rndO g (D.val ds) e0 false 0).2 = F := ⟨_, rfl⟩
    have hR : rndS g (sz (D.val ds) e0) false 0 (lowX (D.val ds) e0) = (b, F) := by
      rw [← rndO_S g false 0 h0 h1 h2 (low_is h0 h1 h2)]
      exact Prod.ext hX hF
    have H1 := Lib.hid (rdoc_l b F _ g false A n c ds e0 0 _ (hA.below a1) ba hn h0 h1 h2 (by decide) (by decide) (low_is h0 h1 h2) hR)
    clear hb hv hl hA ba hn h1 h2 hw a1 h0 hX hF hR hk
    go_enter Try.func14, Try.ntmps14
    go_wp2_with fail
    refine H1.out.mono ?_
    rintro e w2 ⟨rfl, hB2⟩
    have H2 := Lib.hid (HS.out.trans (hB2.mono HS.out.size))
    clear H1 hB2 HS
    go_wp2
    go_ret
    exact ⟨rfl, H2.out⟩
end Go.Proofs.Ytfccpjjdemanbaa
