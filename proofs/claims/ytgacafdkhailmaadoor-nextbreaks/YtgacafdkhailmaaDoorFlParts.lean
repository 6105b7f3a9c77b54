/- The walks of float.Parts, Whole, Dyad. -/
import Derived.Test.YtgacafdkhailmaaDoorFlBits
namespace Go.Proofs.YtgacafdkhailmaaDoor
open Go.RowKit

theorem fO_pos {b : Nat} (hf : Fnt b) (h0 : fm b ≠ 0) : (fO b).neg = fng b ∧ (fO b).V = fm b / 2 ^ low (fm b) ∧ (fO b).e = fe b + low (fm b) := by
  rw [fO, nO_pos _ _ h0]
  exact ⟨rfl, rfl, by show held (fe b) + _ = _; rw [fe_held hf]⟩
theorem tz_l (l x : Nat) (hx0 : 0 < x) (hx : x < 18446744073709551616) (w : World) (hT : Tab w) (hl : Hid (low x = l)) :
    Calls Tryd.prog 76 #[.int .u64 (x : Int)] w fun e w' => e = .returned (.int .i64 (l : Int)) ∧ w = w' := by
  obtain ⟨k, m, hk, hm, h⟩ := tz_any x hx0 hx w hT
  have : low x = k := low_eq hm
  rw [← hl.out, this]
  exact h



/-- What Whole tells. -/
def fwh (b : Nat) : Bool × Bool := if fm b = 0 then (true, false) else if Fnt b then (decide (0 ≤ (fO b).e), decide ((fO b).e = 0)) else (false, false)

/-- A dyad that is told with a true. -/
def FTold (w : World) (d : Dy) (L : Nat) (e : Ending) (w' : World) : Prop :=
  ∃ A m c zs, e = .returned (.tuple #[.agg #[.bool d.neg, .slice A m c, .int .i64 d.e], .bool true]) ∧ m ≤ L ∧ Lim w' A m c zs ∧ Bare zs ∧ val zs = d.V ∧ Below w.heap.size w w'

theorem fdyad_no (b : Nat) (hb : b < 18446744073709551616) (w : World) (hf : ¬ Fnt b) :
    Calls Tryd.prog 25 #[.int .u64 (b : Int)] w fun e w' => e = .returned (.tuple #[.agg #[.bool false, .slice none 0 0, .int .i64 0], .bool false]) ∧ Below w.heap.size w w' := by
  have Hf : Hid (decide (Fnt b) = false) := decide_eq_false hf
  have Hfin := Lib.hid (below1 w (.cells #[.bool false, .slice none 0 0, .int .i64 0] 28))
  clear hf
  go_enter Tryd.func25, Tryd.ntmps25
  go_wp2_with fail
  refine (ffin_l false b hb _ Hf).mono ?_
  rintro e w' ⟨rfl, rfl⟩
  go_wp2
  exact bodyPost_ret (v := .tuple #[.agg #[.bool false, .slice none 0 0, .int .i64 0], .bool false]) (by simp [results, Tryd.results25, go_sem]) rfl ⟨rfl, Hfin.out⟩

theorem fdyad_yes (b : Nat) (hb : b < 18446744073709551616) (w : World) (hT : Tab w) (hf : Fnt b) :
    Calls Tryd.prog 25 #[.int .u64 (b : Int)] w (FTold w (fO b) 1) := by
  have Hf : Hid (decide (Fnt b) = true) := decide_eq_true hf
  have hmk := mk_fin hf
  have hM := (f_parts b).2.1
  obtain ⟨M, hM1⟩ : ∃ M, fm b = M := ⟨_, rfl⟩
  obtain ⟨F, hF1⟩ : ∃ F, fe b = F := ⟨_, rfl⟩
  obtain ⟨s, hs1⟩ : ∃ s, fng b = s := ⟨_, rfl⟩
  rw [hM1, hF1, hs1] at hmk
  rw [hM1] at hM
  obtain ⟨⟨d0, d1, d2⟩, hd⟩ : ∃ d, fO b = d := ⟨_, rfl⟩
  rw [hd] at hmk ⊢
  have HM := Lib.hid hM1
  have HF := Lib.hid hF1
  have Hs := Lib.hid hs1
  have HK := Lib.hid hmk
  have a3 := below1 w (.cells #[.bool false, .slice none 0 0, .int .i64 0] 28)
  have HT := Lib.hid (hT.below a3)
  have Hb := Lib.hid (Bd.new w 28 false none 0 0 0)
  have HS := Lib.hid a3
  clear hf hM1 hF1 hs1 hmk hd a3 hT
  go_enter Tryd.func25, Tryd.ntmps25
  go_wp2_with fail
  refine (ffin_l true b hb _ Hf).mono ?_
  rintro e w' ⟨rfl, rfl⟩
  go_wp2_with fail
  refine (fsize_l M F b hb _ HM HF).mono ?_
  rintro e w' ⟨rfl, rfl⟩
  go_wp2_with fail
  refine (fneg_l s b hb _ Hs).mono ?_
  rintro e w' ⟨rfl, rfl⟩
  go_wp2_with fail
  refine (of_any M (by omega) _).mono ?_
  rintro e w1 ⟨A1, m1, c1, zs, rfl, hm1, hl1, hb1, hv1, hB1⟩
  have HM := Lib.hid (make_any s A1 m1 c1 zs F w1 hl1 (by omega) (HT.out.below hB1))
  rw [hv1, HK.out] at HM
  have Hb1 := Lib.hid (Hb.out.below hB1)
  have HS1 := Lib.hid (HS.out.trans (hB1.mono HS.out.size))
  clear hl1 hb1 hv1 hB1 HT Hb HS
  go_wp2_with fail
  refine HM.out.mono ?_
  rintro e w2 ⟨g2, A2, m2, c2, us, E2, r2, rfl, hm2, hl2, hb2, ⟨rfl, rfl, hz, rfl⟩, hB2⟩
  have k2 := Hb1.out.below hB2
  have Hfin : Hid (FTold w ⟨g2, d1, E2⟩ 1 (.returned (.tuple #[.agg #[.bool g2, .slice A2 m2 c2, .int .i64 E2], .bool true])) (World.put (w2.alloc (.cells #[.bool g2, .slice A2 m2 c2, .int .i64 E2] 28)) w.heap.size g2 A2 m2 c2 E2)) :=
    ⟨A2, m2, c2, us, rfl, by omega, (k2.alloc _).lim (hl2.alloc _) _ _ _ _ _, hb2, hz, below_put ((HS1.out.trans (hB2.mono HS1.out.size)).alloc (HS1.out.trans (hB2.mono HS1.out.size)).size _) (Nat.le_refl _) _ _ _ _ _⟩
  have y0 := fun o => (k2.alloc o).c0
  have y1 := fun o => (k2.alloc o).c1
  have y2 := fun o => (k2.alloc o).c2
  have yf := fun o => (k2.alloc o).fz
  clear k2 hB2 hl2 hb2 HM Hb1 HS1 hz HK
  go_wp2
  exact bodyPost_ret (v := .tuple #[.agg #[.bool g2, .slice A2 m2 c2, .int .i64 E2], .bool true]) (by simp [results, Tryd.results25, go_sem, y0, y1, y2]) rfl Hfin.out
end Go.Proofs.YtgacafdkhailmaaDoor
