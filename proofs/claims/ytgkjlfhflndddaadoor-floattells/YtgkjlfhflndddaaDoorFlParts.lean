/- The walks of float.Parts, Whole, Dyad. -/
import Derived.Test.YtgkjlfhflndddaaDoorFlBits
namespace Go.Proofs.YtgkjlfhflndddaaDoor
open Go.RowKit

theorem fO_pos {b : Nat} (hf : Fnt b) (h0 : fm b ≠ 0) : (fO b).neg = fng b ∧ (fO b).V = fm b / 2 ^ low (fm b) ∧ (fO b).e = fe b + low (fm b) := by
  rw [fO, nO_pos _ _ h0]
  exact ⟨rfl, rfl, by show held (fe b) + _ = _; rw [fe_held hf]⟩
theorem tz_l (l x : Nat) (hx0 : 0 < x) (hx : x < 18446744073709551616) (w : World) (hT : Tab w) (hl : Hid (low x = l)) :
    Calls Tryd.prog 27 #[.int .u64 (x : Int)] w fun e w' => e = .returned (.int .i64 (l : Int)) ∧ w = w' := by
  obtain ⟨k, m, hk, hm, h⟩ := tz_any x hx0 hx w hT
  have : low x = k := low_eq hm
  rw [← hl.out, this]
  exact h

theorem fparts_no (b : Nat) (hb : b < 18446744073709551616) (w : World) (h : fm b = 0 ∨ ¬ Fnt b) :
    Calls Tryd.prog 13 #[.int .u64 (b : Int)] w fun e w' => e = .returned (.tuple #[.int .u64 0, .int .i64 0, .bool false]) ∧ w = w' := by
  obtain ⟨v, hv⟩ : ∃ v, fkd b = v := ⟨_, rfl⟩
  have Hv := Lib.hid hv
  have hz := fkd_zero b
  rw [hv] at hz
  by_cases h0 : fm b = 0
  · obtain rfl := hz.2 h0
    clear hz hv h h0
    go_enter Tryd.func13, Tryd.ntmps13
    go_wp2_with fail
    refine (fkind_l 0 b hb w Hv).mono ?_
    rintro e w' ⟨rfl, rfl⟩
    go_wp2
    go_ret3
    exact ⟨rfl, rfl⟩
  · have h1 : ¬ Fnt b := by rcases h with h | h; exact absurd h h0; exact h
    have hv0 : v ≠ 0 := fun h => h0 (hz.1 h)
    have c1 : ((v : Int) == 0) = false := beq_no (by omega)
    have Hf : Hid (decide (Fnt b) = false) := decide_eq_false h1
    clear hz hv h h0 h1
    go_enter Tryd.func13, Tryd.ntmps13
    go_wp2_with fail
    refine (fkind_l v b hb w Hv).mono ?_
    rintro e w' ⟨rfl, rfl⟩
    go_wp2_with fail
    refine (ffin_l false b hb w Hf).mono ?_
    rintro e w' ⟨rfl, rfl⟩
    go_wp2
    go_ret3
    exact ⟨rfl, rfl⟩

theorem fparts_yes (V : Nat) (E : Int) (b : Nat) (hb : b < 18446744073709551616) (w : World) (hT : Tab w) (h0 : fm b ≠ 0) (hf : Fnt b) (hV : Hid ((fO b).V = V)) (hE : Hid ((fO b).e = E)) :
    Calls Tryd.prog 13 #[.int .u64 (b : Int)] w fun e w' => e = .returned (.tuple #[.int .u64 (V : Int), .int .i64 E, .bool true]) ∧ w = w' := by
  obtain ⟨v, hv⟩ : ∃ v, fkd b = v := ⟨_, rfl⟩
  have Hv := Lib.hid hv
  have hz := fkd_zero b
  rw [hv] at hz
  have hv0 : v ≠ 0 := fun h => h0 (hz.1 h)
  have c1 : ((v : Int) == 0) = false := beq_no (by omega)
  have Hf : Hid (decide (Fnt b) = true) := decide_eq_true hf
  obtain ⟨_, k2, k3⟩ := fO_pos hf h0
  rw [hV.out] at k2
  rw [hE.out] at k3
  have hM := (f_parts b).2.1
  have hF := fe_bd hf
  have hl9 : low (fm b) < 53 := by
    refine (low_lt_iff (Nat.pos_of_ne_zero h0)).2 ?_
    show fm b % 9007199254740992 ≠ 0
    omega
  obtain ⟨M, hM1⟩ : ∃ M, fm b = M := ⟨_, rfl⟩
  obtain ⟨F, hF1⟩ : ∃ F, fe b = F := ⟨_, rfl⟩
  obtain ⟨l, hl1⟩ : ∃ l, low M = l := ⟨_, rfl⟩
  rw [hM1, hl1] at k2 k3 hl9
  rw [hM1] at hM h0
  rw [hF1] at hF k3
  have e1 : (M : Int) / 2 ^ l = (V : Int) := by rw [k2]; simp
  have HE : Hid (F + (l : Int) = E) := k3.symm
  have HM := Lib.hid hM1
  have HF := Lib.hid hF1
  have Hl := Lib.hid hl1
  have HT := Lib.hid hT
  have h00 : 0 < M := Nat.pos_of_ne_zero h0
  clear hz hv hf k2 k3 hM1 hF1 hl1 hT hV hE h0
  go_enter Tryd.func13, Tryd.ntmps13
  go_wp2_with fail
  refine (fkind_l v b hb w Hv).mono ?_
  rintro e w' ⟨rfl, rfl⟩
  go_wp2_with fail
  refine (ffin_l true b hb w Hf).mono ?_
  rintro e w' ⟨rfl, rfl⟩
  go_wp2_with fail
  refine (fsize_l M F b hb w HM HF).mono ?_
  rintro e w' ⟨rfl, rfl⟩
  go_wp2_with fail
  refine (tz_l l M h00 (by omega) w HT.out Hl).mono ?_
  rintro e w' ⟨rfl, rfl⟩
  go_wp2
  go_ret3
  exact ⟨by rw [← HE.out]; rfl, rfl⟩

/-- What Whole tells. -/
def fwh (b : Nat) : Bool × Bool := if fm b = 0 then (true, false) else if Fnt b then (decide (0 ≤ (fO b).e), decide ((fO b).e = 0)) else (false, false)
theorem fwhole_l (p q : Bool) (b : Nat) (hb : b < 18446744073709551616) (w : World) (hT : Tab w) (h : Hid (fwh b = (p, q))) :
    Calls Tryd.prog 14 #[.int .u64 (b : Int)] w fun e w' => e = .returned (.tuple #[.bool p, .bool q]) ∧ w = w' := by
  obtain ⟨v, hv⟩ : ∃ v, fkd b = v := ⟨_, rfl⟩
  have Hv := Lib.hid hv
  have hz := fkd_zero b
  rw [hv] at hz
  have h' := h.out
  unfold fwh at h'
  by_cases h0 : fm b = 0
  · rw [if_pos h0] at h'
    obtain ⟨rfl, rfl⟩ := Prod.mk.inj h'
    obtain rfl := hz.2 h0
    clear hz hv h h0 h'
    go_enter Tryd.func14, Tryd.ntmps14
    go_wp2_with fail
    refine (fkind_l 0 b hb w Hv).mono ?_
    rintro e w' ⟨rfl, rfl⟩
    go_wp2
    go_ret2
    exact ⟨rfl, rfl⟩
  · rw [if_neg h0] at h'
    have hv0 : v ≠ 0 := fun h => h0 (hz.1 h)
    have c1 : ((v : Int) == 0) = false := beq_no (by omega)
    by_cases hf : Fnt b
    · rw [if_pos hf] at h'
      obtain ⟨hp, hq⟩ := Prod.mk.inj h'
      have hbd := fe_bd hf
      obtain ⟨_, _, k3⟩ := fO_pos hf h0
      obtain ⟨E, hE⟩ : ∃ E, (fO b).e = E := ⟨_, rfl⟩
      rw [hE] at hp hq
      have H1 := Lib.hid (fparts_yes _ E b hb w hT h0 hf rfl hE)
      generalize (fO b).V = V at H1
      clear hz hv h h0 h' hf hT hbd k3 hE
      by_cases hE0 : 0 ≤ E
      · obtain rfl : p = true := by rw [← hp]; exact decide_eq_true hE0
        by_cases hE1 : E = 0
        · obtain rfl : q = true := by rw [← hq]; exact decide_eq_true hE1
          clear hp hq
          subst hE1
          go_enter Tryd.func14, Tryd.ntmps14
          go_wp2_with fail
          refine (fkind_l v b hb w Hv).mono ?_
          rintro e w' ⟨rfl, rfl⟩
          go_wp2_with fail
          refine H1.out.mono ?_
          rintro e w' ⟨rfl, rfl⟩
          go_wp2
          go_ret2
          exact ⟨rfl, rfl⟩
        · obtain rfl : q = false := by rw [← hq]; exact decide_eq_false hE1
          have d1 : (E == 0) = false := beq_no hE1
          have d2 : decide (0 ≤ E) = true := decide_eq_true hE0
          clear hp hq hE1 hE0
          go_enter Tryd.func14, Tryd.ntmps14
          go_wp2_with fail
          refine (fkind_l v b hb w Hv).mono ?_
          rintro e w' ⟨rfl, rfl⟩
          go_wp2_with fail
          refine H1.out.mono ?_
          rintro e w' ⟨rfl, rfl⟩
          go_wp2
          go_ret2
          exact ⟨rfl, rfl⟩
      · obtain rfl : p = false := by rw [← hp]; exact decide_eq_false hE0
        obtain rfl : q = false := by rw [← hq]; exact decide_eq_false (by omega)
        have d1 : (E == 0) = false := beq_no (by omega)
        have d2 : decide (0 ≤ E) = false := decide_eq_false hE0
        clear hp hq hE0
        go_enter Tryd.func14, Tryd.ntmps14
        go_wp2_with fail
        refine (fkind_l v b hb w Hv).mono ?_
        rintro e w' ⟨rfl, rfl⟩
        go_wp2_with fail
        refine H1.out.mono ?_
        rintro e w' ⟨rfl, rfl⟩
        go_wp2
        go_ret2
        exact ⟨rfl, rfl⟩
    · rw [if_neg hf] at h'
      obtain ⟨rfl, rfl⟩ := Prod.mk.inj h'
      have H1 := Lib.hid (fparts_no b hb w (Or.inr hf))
      clear hz hv h h0 h' hf
      go_enter Tryd.func14, Tryd.ntmps14
      go_wp2_with fail
      refine (fkind_l v b hb w Hv).mono ?_
      rintro e w' ⟨rfl, rfl⟩
      go_wp2_with fail
      refine H1.out.mono ?_
      rintro e w' ⟨rfl, rfl⟩
      go_wp2
      go_ret2
      exact ⟨rfl, rfl⟩

/-- A dyad that is told with a true. -/
def FTold (w : World) (d : Dy) (L : Nat) (e : Ending) (w' : World) : Prop :=
  ∃ A m c zs, e = .returned (.tuple #[.agg #[.bool d.neg, .slice A m c, .int .i64 d.e], .bool true]) ∧ m ≤ L ∧ Lim w' A m c zs ∧ Bare zs ∧ val zs = d.V ∧ Below w.heap.size w w'

theorem fdyad_no (b : Nat) (hb : b < 18446744073709551616) (w : World) (hf : ¬ Fnt b) :
    Calls Tryd.prog 12 #[.int .u64 (b : Int)] w fun e w' => e = .returned (.tuple #[.agg #[.bool false, .slice none 0 0, .int .i64 0], .bool false]) ∧ Below w.heap.size w w' := by
  have Hf : Hid (decide (Fnt b) = false) := decide_eq_false hf
  have Hfin := Lib.hid (below1 w (.cells #[.bool false, .slice none 0 0, .int .i64 0] 28))
  clear hf
  go_enter Tryd.func12, Tryd.ntmps12
  go_wp2_with fail
  refine (ffin_l false b hb _ Hf).mono ?_
  rintro e w' ⟨rfl, rfl⟩
  go_wp2
  exact bodyPost_ret (v := .tuple #[.agg #[.bool false, .slice none 0 0, .int .i64 0], .bool false]) (by simp [results, Tryd.results12, go_sem]) rfl ⟨rfl, Hfin.out⟩

theorem fdyad_yes (b : Nat) (hb : b < 18446744073709551616) (w : World) (hT : Tab w) (hf : Fnt b) :
    Calls Tryd.prog 12 #[.int .u64 (b : Int)] w (FTold w (fO b) 1) := by
  have Hf : Hid (decide (Fnt b) = true) := decide_eq_true hf
  have hmk := mk_fin hf
  have hM := (f_parts b).2.1
  obtain ⟨M, hM1⟩ : ∃ M, fm b = M := ⟨_, rfl⟩
  obtain ⟨F, hF1⟩ : ∃ F, fe b = F := ⟨_, rfl⟩
  obtain ⟨s, hs1⟩ : ∃ s, fng b = s := ⟨_, rfl⟩
  rw [hM1, hF1, hs1] at hmk
  rw [hM1] at hM
  obtain ⟨⟨d0, d1, d2⟩, hd⟩ : ∃ d, fO b = d := ⟨_, rfl⟩
  rw [hd] at hmk ⊢
  have HM := Lib.hid hM1
  have HF := Lib.hid hF1
  have Hs := Lib.hid hs1
  have HK := Lib.hid hmk
  have a3 := below1 w (.cells #[.bool false, .slice none 0 0, .int .i64 0] 28)
  have HT := Lib.hid (hT.below a3)
  have Hb := Lib.hid (Bd.new w 28 false none 0 0 0)
  have HS := Lib.hid a3
  clear hf hM1 hF1 hs1 hmk hd a3 hT
  go_enter Tryd.func12, Tryd.ntmps12
  go_wp2_with fail
  refine (ffin_l true b hb _ Hf).mono ?_
  rintro e w' ⟨rfl, rfl⟩
  go_wp2_with fail
  refine (fsize_l M F b hb _ HM HF).mono ?_
  rintro e w' ⟨rfl, rfl⟩
  go_wp2_with fail
  refine (fneg_l s b hb _ Hs).mono ?_
  rintro e w' ⟨rfl, rfl⟩
  go_wp2_with fail
  refine (of_any M (by omega) _).mono ?_
  rintro e w1 ⟨A1, m1, c1, zs, rfl, hm1, hl1, hb1, hv1, hB1⟩
  have HM := Lib.hid (make_any s A1 m1 c1 zs F w1 hl1 (by omega) (HT.out.below hB1))
  rw [hv1, HK.out] at HM
  have Hb1 := Lib.hid (Hb.out.below hB1)
  have HS1 := Lib.hid (HS.out.trans (hB1.mono HS.out.size))
  clear hl1 hb1 hv1 hB1 HT Hb HS
  go_wp2_with fail
  refine HM.out.mono ?_
  rintro e w2 ⟨g2, A2, m2, c2, us, E2, r2, rfl, hm2, hl2, hb2, ⟨rfl, rfl, hz, rfl⟩, hB2⟩
  have k2 := Hb1.out.below hB2
  have Hfin : Hid (FTold w ⟨g2, d1, E2⟩ 1 (.returned (.tuple #[.agg #[.bool g2, .slice A2 m2 c2, .int .i64 E2], .bool true])) (World.put (w2.alloc (.cells #[.bool g2, .slice A2 m2 c2, .int .i64 E2] 28)) w.heap.size g2 A2 m2 c2 E2)) :=
    ⟨A2, m2, c2, us, rfl, by omega, (k2.alloc _).lim (hl2.alloc _) _ _ _ _ _, hb2, hz, below_put ((HS1.out.trans (hB2.mono HS1.out.size)).alloc (HS1.out.trans (hB2.mono HS1.out.size)).size _) (Nat.le_refl _) _ _ _ _ _⟩
  have y0 := fun o => (k2.alloc o).c0
  have y1 := fun o => (k2.alloc o).c1
  have y2 := fun o => (k2.alloc o).c2
  have yf := fun o => (k2.alloc o).fz
  clear k2 hB2 hl2 hb2 HM Hb1 HS1 hz HK
  go_wp2
  exact bodyPost_ret (v := .tuple #[.agg #[.bool g2, .slice A2 m2 c2, .int .i64 E2], .bool true]) (by simp [results, Tryd.results12, go_sem, y0, y1, y2]) rfl Hfin.out
end Go.Proofs.YtgkjlfhflndddaaDoor
