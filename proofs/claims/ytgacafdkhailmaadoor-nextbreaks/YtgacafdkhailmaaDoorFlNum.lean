/- The document's numbers: planimeterref06.Worth and Same, planimeterref05.Fits. -/
import Derived.Test.YtgacafdkhailmaaDoorFlRef
namespace Go.Proofs.YtgacafdkhailmaaDoor
open Go.RowKit

/-- Digits as limbs. -/
theorem limbs_t (A : Option Addr) (n c : Nat) (ds : List Nat) (w : World) (h : Dig w A n c ds) (hb : D.Bare ds) (hn : n ≤ 1000000) :
    Calls Tryd.prog 60 #[.slice A n c] w (Tells w (D.val ds) ((n + 3) / 4)) := by
  refine (limbs_any A n c ds w h hn).mono ?_
  rintro e w' ⟨rfl, h1, h2⟩
  exact ⟨_, _, _, _, rfl, Nat.le_refl _, h1, by have := grp_bare ds hb; rw [h.len] at this; exact this, by rw [grp_val, List.take_of_length_le (by rw [h.len]; omega)], h2⟩

theorem fits_yes (g : Bool) (A : Option Addr) (n c : Nat) (e0 : Int) (w : World) (h1 : -1073741824 ≤ e0) (h2 : e0 ≤ 1073741824) :
    Calls Tryd.prog 19 #[.agg #[.bool g, .slice A n c, .int .i64 e0]] w fun e w' => e = .returned (.bool true) ∧ Below w.heap.size w w' := by
  have H1 := Lib.hid (below1 w (.cells #[.bool g, .slice A n c, .int .i64 e0] 37))
  have b1 : decide (-1073741824 ≤ e0) = true := decide_eq_true h1
  have b2 : decide (e0 ≤ 1073741824) = true := decide_eq_true h2
  clear h1 h2
  go_enter Tryd.func19, Tryd.ntmps19
  go_wp2
  go_ret
  exact ⟨rfl, H1.out⟩

set_option maxRecDepth 20000 in
theorem worth_any (b : Nat) (hb : b < 18446744073709551616) (w : World) :
    Calls Tryd.prog 23 #[.int .u64 (b : Int)] w (NTold w (fO b) 4) := by
  obtain ⟨z, hz⟩ : ∃ z, b / 4503599627370496 = z := ⟨_, rfl⟩
  have hz9 : z < 4096 := by omega
  have e0 : (b : Int) / 4503599627370496 = (z : Int) := by omega
  have hzx : fex b = z % 2048 := by rw [← hz]; rfl
  have e1 : (z : Int) % 2048 = (fex b : Int) := by rw [hzx]; omega
  have e2 : (b : Int) % 4503599627370496 = (ffr b : Int) := by unfold ffr; omega
  have hx := fex_lt b
  have hy := ffr_lt b
  obtain ⟨s, hs⟩ : ∃ s, fng b = s := ⟨_, rfl⟩
  have s1 : decide ((9223372036854775808 : Int) ≤ (b : Int)) = s := by
    rw [← hs]; unfold fng
    by_cases h : 9223372036854775808 ≤ b
    · rw [decide_eq_true h]; exact decide_eq_true (by omega)
    · rw [decide_eq_false h]; exact decide_eq_false (by omega)
  have s2 : decide (9223372036854775808 ≤ b) = s := hs
  have hO : fO b = nO s (val [fm b]) (fe b) := by
    rw [← hs, show val [fm b] = fm b from by show fm b + 18446744073709551616 * 0 = fm b; omega]; rfl
  have hM : fm b = if fex b = 0 then ffr b else ffr b + 4503599627370496 := rfl
  have hF : fe b = ((fex b - 1 : Nat) : Int) - 1074 := rfl
  rw [hO]
  clear hzx hz hO hs
  generalize fex b = x at *
  generalize ffr b = y at *
  generalize fe b = F at *
  generalize fm b = M at *
  have hM9 : M < 9007199254740992 := by rw [hM]; split <;> omega
  have a1 : Below w.heap.size w ((w.alloc (.cells #[.bool false, .slice none 0 0, .int .i64 0] 37)).alloc (.cells #[.int .u64 (M : Int)] 22)) := ((Below.refl _ _).alloc (Nat.le_refl _) _).alloc (by simp) _
  have n1 := lim_new1 (w.alloc (.cells #[.bool false, .slice none 0 0, .int .i64 0] 37)) 22 M M rfl (by omega)
  rw [World.size_alloc] at n1
  have H1 := Lib.hid (rof_any s _ 1 1 [M] F _ n1 (by decide))
  have Hb := Lib.hid ((Bd.new w 37 false none 0 0 0).alloc (.cells #[.int .u64 (M : Int)] 22))
  have HS := Lib.hid a1
  generalize nO s (val [M]) F = d at H1 ⊢
  obtain ⟨dg, dV, dE⟩ := d
  clear hM9 a1 n1
  by_cases hx0 : x = 0
  · rw [if_pos hx0] at hM
    subst hM
    obtain rfl : F = -1074 := by omega
    have c1 : ((x : Int) == 0) = true := beq_yes (by omega)
    clear hx0 hF
    go_enter Tryd.func23, Tryd.ntmps23
    go_wp2_with fail
    refine H1.out.mono ?_
    rintro e w2 ⟨A2, m2, c2, es, rfl, hm2, hl2, hd2, hv2, hB2⟩
    have k2 := Hb.out.below hB2
    have Hfin : Hid (NTold w ⟨dg, dV, dE⟩ 4 (.returned (.agg #[.bool dg, .slice A2 m2 c2, .int .i64 dE])) (World.put w2 w.heap.size dg A2 m2 c2 dE)) :=
      ⟨A2, m2, c2, es, rfl, hm2, k2.dig hl2 _ _ _ _ _, hd2, hv2, below_put (HS.out.trans (hB2.mono HS.out.size)) (Nat.le_refl _) _ _ _ _ _⟩
    have y0 := k2.c0
    have y1 := k2.c1
    have y2 := k2.c2
    have yf := k2.fz
    clear k2 hB2 hl2 hd2 hv2 H1 Hb HS
    go_wp2
    exact bodyPost_ret (v := .agg #[.bool dg, .slice A2 m2 c2, .int .i64 dE]) (by simp [results, Tryd.results23, go_sem, y0, y1, y2]) rfl Hfin.out
  · rw [if_neg hx0] at hM
    have e3 : (y : Int) + 4503599627370496 = (M : Int) := by omega
    have e4 : (x : Int) - 1075 = F := by omega
    have c1 : ((x : Int) == 0) = false := beq_no (by omega)
    clear hx0 hF hM
    go_enter Tryd.func23, Tryd.ntmps23
    go_wp2_with fail
    refine H1.out.mono ?_
    rintro e w2 ⟨A2, m2, c2, es, rfl, hm2, hl2, hd2, hv2, hB2⟩
    have k2 := Hb.out.below hB2
    have Hfin : Hid (NTold w ⟨dg, dV, dE⟩ 4 (.returned (.agg #[.bool dg, .slice A2 m2 c2, .int .i64 dE])) (World.put w2 w.heap.size dg A2 m2 c2 dE)) :=
      ⟨A2, m2, c2, es, rfl, hm2, k2.dig hl2 _ _ _ _ _, hd2, hv2, below_put (HS.out.trans (hB2.mono HS.out.size)) (Nat.le_refl _) _ _ _ _ _⟩
    have y0 := k2.c0
    have y1 := k2.c1
    have y2 := k2.c2
    have yf := k2.fz
    clear k2 hB2 hl2 hd2 hv2 H1 Hb HS
    go_wp2
    exact bodyPost_ret (v := .agg #[.bool dg, .slice A2 m2 c2, .int .i64 dE]) (by simp [results, Tryd.results23, go_sem, y0, y1, y2]) rfl Hfin.out

theorem bool_no {g k : Bool} (h : ¬ g = k) : (g == k) = false := by cases g <;> cases k <;> simp_all

end Go.Proofs.YtgacafdkhailmaaDoor
