/- The walk of ratio.power. -/
import Derived.Test.YteflihpnhgicfaaDoorRtFit
import Derived.Test.YteflihpnhgicfaaDoorK1
import Derived.Test.YteflihpnhgicfaaDoorK2
namespace Go.Proofs.YteflihpnhgicfaaDoor
open Go.RowKit

/-- A power of a number: odd, or 0. -/
def powD (d : Dy) (m : Nat) : Dy := ⟨d.neg && decide (m % 2 = 1), d.V ^ m, d.e * m⟩
theorem powD_odd {d : Dy} (h : Odd d) (m : Nat) : Odd (powD d m) := by
  rcases h with ⟨k, hk⟩ | h
  · refine Or.inl ⟨d.V ^ m / 2, ?_⟩
    have h2 := odd_pow (V := d.V) (by omega) m
    show d.V ^ m = _
    omega
  · subst h
    rcases Nat.eq_zero_or_pos m with h0 | h0
    · subst h0; exact Or.inl ⟨0, rfl⟩
    · refine Or.inr ?_
      unfold powD
      rw [Nat.zero_pow h0]
      simp
theorem mk_odd_self {d : Dy} (h : Odd d) (h1 : -1073741824 ≤ d.e) (h2 : d.e ≤ 1073741824) : mk d.neg d.V d.e = some d := by
  rw [mk_nO, nO_self h (by omega) (by omega)]
  unfold toldD
  rcases h with ⟨k, hk⟩ | h
  · rw [if_neg (by omega), if_neg (by omega)]
  · subst h; rfl
theorem mk_odd_of {g : Bool} {V : Nat} {e : Int} {d : Dy} (h : mk g V e = some d) : Odd d ∧ -1073741824 ≤ d.e ∧ d.e ≤ 1073741824 := by
  have h1 := (mk_fine h).1
  refine ⟨?_, h1.1, h1.2.1⟩
  have h2 := nO_odd g V e
  rw [mk_nO] at h
  obtain ⟨_, h4, h5⟩ := toldD_fine h
  rcases h2 with ⟨k, hk⟩ | h2
  · exact Or.inl ⟨k, by rw [h4]; exact hk⟩
  · rw [h2] at h
    exact Or.inr (Option.some.inj h).symm
theorem abs_mul_le {e : Int} {m L : Nat} (h : e.natAbs * m ≤ L) : -(L : Int) ≤ e * m ∧ e * m ≤ L := by
  have h1 : (e * (m : Int)).natAbs ≤ L := by rw [Int.natAbs_mul, Int.natAbs_natCast]; exact h
  omega
theorem blen_pow_fit {V m : Nat} (h : blen V * m ≤ 60000) : blen (V ^ m) ≤ 60001 := by
  rcases Nat.eq_zero_or_pos m with h0 | h0
  · subst h0; rw [Nat.pow_zero]; decide
  · have := blen_pow_le V m h0
    rw [Nat.mul_comm] at this
    omega

set_option maxHeartbeats 1000000 in
theorem power_any (d : Dy) (A : Option Addr) (n c : Nat) (zs : List Nat) (m : Nat) (w : World) (hA : Lim w A n c zs) (hn : n ≤ 1000000) (hT : Tab w) (hz : val zs = d.V) (hodd : Odd d) (hm : m ≤ 9223372036854775807) (hf1 : blen d.V * m ≤ 60000) (hf2 : d.e.natAbs * m ≤ 60000) :
    Calls Tryd.prog 31 #[.agg #[.bool d.neg, .slice A n c, .int .i64 d.e], .int .i64 (m : Int)] w (Tells1 w (powD d m).neg (powD d m).V 1024 (powD d m).e) := by
  have a3 : Below w.heap.size w ((w.alloc (.cells #[.bool d.neg, .slice A n c, .int .i64 d.e] 30)).alloc (.cells #[.bool false, .slice none 0 0, .int .i64 0] 30)) := ((Below.refl _ _).alloc (Nat.le_refl _) _).alloc (by simp) _
  have hbl := blen_pow_fit hf1
  have H1 := pow_ok A n c zs m _ (hA.below a3) hn hm (by rw [hz]; omega)
  rw [hz] at H1
  replace H1 := Lib.hid H1
  have he := abs_mul_le hf2
  have hmk := mk_odd_self (powD_odd hodd m) (by show -1073741824 ≤ d.e * m; omega) (by show d.e * m ≤ 1073741824; omega)
  obtain ⟨o, ho⟩ : ∃ o, powD d m = o := ⟨_, rfl⟩
  rw [ho] at hmk ⊢
  have ho1 : (d.neg && decide (m % 2 = 1)) = o.neg := by rw [← ho]; rfl
  have ho2 : d.V ^ m = o.V := by rw [← ho]; rfl
  have ho3 : d.e * m = o.e := by rw [← ho]; rfl
  rw [ho2] at H1
  rw [ho3] at he
  have b1 := (Bd.new w 30 d.neg A n c d.e).alloc (.cells #[.bool false, .slice none 0 0, .int .i64 0] 30)
  have b2 := Bd.new (w.alloc (.cells #[.bool d.neg, .slice A n c, .int .i64 d.e] 30)) 30 false none 0 0 0
  rw [World.size_alloc] at b2
  have Hb1 := Lib.hid b1
  have Hb2 := Lib.hid b2
  have HT := Lib.hid (hT.below a3)
  have HS := Lib.hid a3
  have Hmk := Lib.hid hmk
  obtain ⟨dg, dV, dE⟩ := d
  simp only at ho1 ho2 ho3 H1 Hb1 Hb2 HT HS
  clear a3 hA hT b1 b2 hz hodd hf1 hf2 hbl ho ho2 hmk
  go_enter Tryd.func31, Tryd.ntmps31
  go_wp2_with fail
  refine H1.out.mono ?_
  rintro e w1 ⟨A1, m1, c1, us, rfl, hm1, hl1, hb1, hv1, hB1⟩
  have k1 := Hb1.out.below hB1
  replace Hb2 := Lib.hid (Hb2.out.below hB1)
  have s1 := HS.out.trans (hB1.mono HS.out.size)
  replace HS := Lib.hid s1
  have HM := make_any o.neg A1 m1 c1 us o.e w1 hl1 (by omega) (HT.out.below hB1)
  rw [hv1, Hmk.out] at HM
  replace HM := Lib.hid HM
  have x0 := k1.c0
  have x2 := k1.c2
  clear k1 hB1 hl1 hb1 hv1 H1 Hb1 s1 HT Hmk
  cases dg with
  | false =>
    obtain ⟨og, oV, oe⟩ := o
    simp only at ho1 ho3 he HM
    obtain rfl : false = og := ho1
    go_wp2_with fail
    refine HM.out.mono ?_
    rintro e w2 ⟨g2, A2, m2, c2, ts, E2, r2, rfl, hm2, hl2, hb2, his2, hB2⟩
    obtain ⟨rfl, rfl, hv2, rfl⟩ := his2
    have k2 := (Hb2.out.below hB2).alloc (.cells #[.bool false, .slice A2 m2 c2, .int .i64 E2] 30)
    have s2 := HS.out.trans (hB2.mono HS.out.size)
    have Hfin : Hid (Tells1 w false oV 1024 E2 (.returned (.agg #[.bool false, .slice A2 m2 c2, .int .i64 E2])) (World.put (w2.alloc (.cells #[.bool false, .slice A2 m2 c2, .int .i64 E2] 30)) (w.heap.size + 1) false A2 m2 c2 E2)) :=
      ⟨A2, m2, c2, ts, rfl, by omega, k2.lim (hl2.alloc _) _ _ _ _ _, hb2, hv2, below_put (s2.alloc s2.size _) (Nat.le_succ _) _ _ _ _ _⟩
    have y0 := k2.c0
    have y1 := k2.c1
    have y2 := k2.c2
    have yf := k2.fz
    clear k2 s2 hB2 hl2 hb2 hv2 HM Hb2 HS x0 x2 he ho3
    go_wp2
    exact bodyPost_ret (v := .agg #[.bool false, .slice A2 m2 c2, .int .i64 E2]) (by simp [results, Tryd.results31, go_sem, y0, y1, y2]) rfl Hfin.out
  | true =>
    obtain ⟨og, oV, oe⟩ := o
    simp only at ho1 ho3 he HM
    by_cases hr : m % 2 = 1
    · have e9 : (m : Int) % 2 = 1 := by omega
      obtain rfl : true = og := by rw [← ho1]; simp [hr]
      go_wp2_with fail
      refine HM.out.mono ?_
      rintro e w2 ⟨g2, A2, m2, c2, ts, E2, r2, rfl, hm2, hl2, hb2, his2, hB2⟩
      obtain ⟨rfl, rfl, hv2, rfl⟩ := his2
      have k2 := (Hb2.out.below hB2).alloc (.cells #[.bool true, .slice A2 m2 c2, .int .i64 E2] 30)
      have s2 := HS.out.trans (hB2.mono HS.out.size)
      have Hfin : Hid (Tells1 w true oV 1024 E2 (.returned (.agg #[.bool true, .slice A2 m2 c2, .int .i64 E2])) (World.put (w2.alloc (.cells #[.bool true, .slice A2 m2 c2, .int .i64 E2] 30)) (w.heap.size + 1) true A2 m2 c2 E2)) :=
        ⟨A2, m2, c2, ts, rfl, by omega, k2.lim (hl2.alloc _) _ _ _ _ _, hb2, hv2, below_put (s2.alloc s2.size _) (Nat.le_succ _) _ _ _ _ _⟩
      have y0 := k2.c0
      have y1 := k2.c1
      have y2 := k2.c2
      have yf := k2.fz
      clear k2 s2 hB2 hl2 hb2 hv2 HM Hb2 HS x0 x2 he ho3
      go_wp2
      exact bodyPost_ret (v := .agg #[.bool true, .slice A2 m2 c2, .int .i64 E2]) (by simp [results, Tryd.results31, go_sem, y0, y1, y2]) rfl Hfin.out
    · have e9 : (m : Int) % 2 = 0 := by omega
      obtain rfl : false = og := by rw [← ho1]; simp [hr]
      go_wp2_with fail
      refine HM.out.mono ?_
      rintro e w2 ⟨g2, A2, m2, c2, ts, E2, r2, rfl, hm2, hl2, hb2, his2, hB2⟩
      obtain ⟨rfl, rfl, hv2, rfl⟩ := his2
      have k2 := (Hb2.out.below hB2).alloc (.cells #[.bool false, .slice A2 m2 c2, .int .i64 E2] 30)
      have s2 := HS.out.trans (hB2.mono HS.out.size)
      have Hfin : Hid (Tells1 w false oV 1024 E2 (.returned (.agg #[.bool false, .slice A2 m2 c2, .int .i64 E2])) (World.put (w2.alloc (.cells #[.bool false, .slice A2 m2 c2, .int .i64 E2] 30)) (w.heap.size + 1) false A2 m2 c2 E2)) :=
        ⟨A2, m2, c2, ts, rfl, by omega, k2.lim (hl2.alloc _) _ _ _ _ _, hb2, hv2, below_put (s2.alloc s2.size _) (Nat.le_succ _) _ _ _ _ _⟩
      have y0 := k2.c0
      have y1 := k2.c1
      have y2 := k2.c2
      have yf := k2.fz
      clear k2 s2 hB2 hl2 hb2 hv2 HM Hb2 HS x0 x2 he ho3
      go_wp2
      exact bodyPost_ret (v := .agg #[.bool false, .slice A2 m2 c2, .int .i64 E2]) (by simp [results, Tryd.results31, go_sem, y0, y1, y2]) rfl Hfin.out
end Go.Proofs.YteflihpnhgicfaaDoor
