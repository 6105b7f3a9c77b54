/- The walks of logs.sum, turn and isAtTurn. -/
import Derived.Test.YtijhdlkfihjbiaaDoorLgPart
namespace Go.Proofs.YtijhdlkfihjbiaaDoor
open Go.RowKit

/-- What sum tells. -/
def SumP (E : Int) (X Y : Nat) (g : Bool) (s : Int) (d1 d2 : Dy) (r : Int) (m1 m2 : Nat) : Prop :=
  ((8 ≤ s ∧ s ≤ 9000) ∧ r = 0 ∧ ∃ L H : Int, SumV E X Y g s.toNat L H ∧ Un s.toNat L d1 ∧ Un s.toNat H d2) ∨ (¬ (8 ≤ s ∧ s ≤ 9000) ∧ r = 1 ∧ m1 = 0 ∧ m2 = 0)
theorem far_sum {L M : Int} {s : Nat} (h1 : L.natAbs < 2 ^ (s + 30)) (h2 : M.natAbs < 2 ^ (s + 30)) : L.natAbs < 2 ^ (s + 64) ∧ M.natAbs < 2 ^ (s + 64) ∧ blen (L + M).natAbs ≤ s + 31 := by
  have e : 2 ^ (s + 64) = 2 ^ (s + 30) * 17179869184 := by rw [show s + 64 = s + 30 + 34 by omega, Nat.pow_add]
  have e2 : 2 ^ (s + 31) = 2 ^ (s + 30) * 2 := Nat.pow_succ ..
  have := blen_le_iff.2 (show (L + M).natAbs < 2 ^ (s + 31) by rw [e2]; omega)
  rw [e]
  omega
theorem twos_far {E : Int} {l h s : Nat} (hs : 8 ≤ s) (h1 : -1048580 ≤ E) (h2 : E ≤ 1048580) (hl : l ≤ 2 * 2 ^ s + 2) (hh : h ≤ 2 * 2 ^ s + 2) : (if 0 ≤ E then E * (l : Int) else E * (h : Int)).natAbs < 2 ^ (s + 30) := by
  have g1 := times_far h1 h2 hl
  have g2 := times_far h1 h2 hh
  have hW : 2 ^ 8 ≤ 2 ^ s := Nat.pow_le_pow_right (by decide) hs
  have e : 2 ^ (s + 30) = 2 ^ s * 1073741824 := Nat.pow_add ..
  have e8 : (2 : Nat) ^ 8 = 256 := rfl
  rw [e]
  generalize 2 ^ s = W at *
  split <;> omega
theorem frac_far {g : Bool} {l h s : Nat} (hs : 8 ≤ s) (hl : l ≤ 2 ^ s + 2) (hh : h ≤ 2 ^ s + 2) : (if g then -(2 * (h : Int)) else 2 * (l : Int)).natAbs < 2 ^ (s + 30) := by
  have hW : 2 ^ 8 ≤ 2 ^ s := Nat.pow_le_pow_right (by decide) hs
  have e : 2 ^ (s + 30) = 2 ^ s * 1073741824 := Nat.pow_add ..
  have e8 : (2 : Nat) ^ 8 = 256 := rfl
  rw [e]
  generalize 2 ^ s = W at *
  split <;> omega
theorem sum_made {E : Int} {X Y k : Nat} {g : Bool} {d1 d2 d3 d4 : Dy} {r : Int} {m1 m2 : Nat} (hk8 : 8 ≤ k) (hk9 : k ≤ 9000) (hE1 : -1048580 ≤ E) (hE2 : E ≤ 1048580) (hY : Y ≠ 0) (h3 : 3 * X ≤ Y) (h : TwosP E (k : Int) d1 d2 0 m1 m2) (hf : FracP X Y g k d3 d4 r) :
    ∃ L H d5 d6, SumV E X Y g k L H ∧ (addO (mk d1.neg d1.V d1.e) (mk d3.neg d3.V d3.e) = some d5 ∧ Un k L d5 ∧ blen d5.V ≤ 64 * 300) ∧ addO (mk d2.neg d2.V d2.e) (mk d4.neg d4.V d4.e) = some d6 ∧ Un k H d6 ∧ blen d6.V ≤ 64 * 300 := by
  rcases h with ⟨_, _, l2, h2, v1, v2, u1, u2⟩ | ⟨_, h, _⟩
  case inr => cases h
  rw [Int.toNat_natCast] at v1 v2 u1 u2
  obtain ⟨_, lo, hi, hB, o1, o2, o3, u3, u4⟩ := hf
  have ts := two_short v1 v2
  have ash := at_short hY h3 hB
  have f1 := twos_far (l := l2) (h := h2) hk8 hE1 hE2 (by omega) (by omega)
  have f2 := twos_far (l := h2) (h := l2) hk8 hE1 hE2 (by omega) (by omega)
  have f3 := frac_far (g := g) (l := lo) (h := hi) hk8 (by omega) (by omega)
  have f4 := frac_far (g := g) (l := hi) (h := lo) hk8 (by omega) (by omega)
  have s1 := far_sum f1 f3
  have s2 := far_sum f2 f4
  obtain ⟨d5, a5, u5⟩ := un_add u1 u3 hk9 s1.1 s1.2.1
  obtain ⟨d6, a6, u6⟩ := un_add u2 u4 hk9 s2.1 s2.2.1
  refine ⟨_, _, d5, d6, ⟨l2, h2, lo, hi, v1, v2, hB, o1, by omega, o3, rfl, rfl⟩, ⟨a5, u5, ?_⟩, a6, u6, ?_⟩
  · have := blen_mono (un_short u5 hk9)
    have := s1.2.2
    omega
  · have := blen_mono (un_short u6 hk9)
    have := s2.2.2
    omega

set_option maxHeartbeats 4000000 in
set_option maxRecDepth 20000 in
theorem sum_no (E : Int) (A : Option Addr) (n c : Nat) (B : Option Addr) (m d : Nat) (X Y : Nat) (g : Bool) (s : Int) (w : World) (hT : Tab w) (hE1 : -1048580 ≤ E) (hE2 : E ≤ 1048580) (hs1 : -9223372036854775808 ≤ s) (hs2 : s ≤ 9223372036854775807) (hs : ¬ (8 ≤ s ∧ s ≤ 9000)) :
    Calls Tryd.prog 13 #[.int .i64 E, .slice A n c, .slice B m d, .bool g, .int .i64 s] w (ITold w (SumP E X Y g s)) := by
  have k0 := HoldI.start hT
  have H1 := Lib.hid (twos_l E s _ k0.tab hE1 hE2 hs1 hs2)
  have K0 := Lib.hid k0
  have HN := Lib.hid hs
  clear hT k0 hs1 hs2 hs hE1 hE2
  go_enter Tryd.func13, Tryd.ntmps13
  go_wp2_with fail
  refine H1.out.mono ?_
  rintro e w1 ⟨g1, A1, m1, c1, zs, e1, g2, A2, m2, c2, us, e2, r, rfl, hm1, hm2, hl1, hl2, hb1, hb2, hB1, hq⟩
  obtain rfl : r = 1 := by
    rcases hq with ⟨h, _⟩ | ⟨_, h, _⟩
    · exact absurd h HN.out
    · exact h
  have k1 := (K0.out.below hB1).below (below1 w1 (.cells #[.bool g1, .slice A1 m1 c1, .int .i64 e1, .bool g2, .slice A2 m2 c2, .int .i64 e2] 29))
  have Hfin := Lib.hid (k1.no (P := SumP E X Y g s) (Or.inr ⟨HN.out, rfl, rfl, rfl⟩))
  have zf := k1.1.fz
  have u0 := k1.1.x0
  have u1 := k1.1.x1
  have u2 := k1.1.x2
  have u3 := k1.1.x3
  have u4 := k1.1.x4
  have u5 := k1.1.x5
  clear H1 K0 HN hl1 hl2 hb1 hb2 hB1 hq k1
  go_wp2
  exact bodyPost_ret (v := .tuple #[.agg #[.bool false, .slice none 0 0, .int .i64 0, .bool false, .slice none 0 0, .int .i64 0], .int .i64 1]) (by simp [results, Tryd.results13, go_sem, u0, u1, u2, u3, u4, u5]) rfl Hfin.out

set_option maxHeartbeats 4000000 in
set_option maxRecDepth 20000 in
theorem sum_yes (E : Int) (A : Option Addr) (n c : Nat) (xs : List Nat) (B : Option Addr) (m d : Nat) (ys : List Nat) (g : Bool) (k : Nat) (w : World) (hA : Lim w A n c xs) (hB : Lim w B m d ys) (hn : n ≤ 70) (hm : m ≤ 70) (hT : Tab w) (hE1 : -1048580 ≤ E) (hE2 : E ≤ 1048580) (hk8 : 8 ≤ k) (hk9 : k ≤ 9000) (h3 : Third (val xs) (val ys)) :
    Calls Tryd.prog 13 #[.int .i64 E, .slice A n c, .slice B m d, .bool g, .int .i64 (k : Int)] w (ITold w (SumP E (val xs) (val ys) g (k : Int))) := by
  have k0 := HoldI.start hT
  have H1 := Lib.hid (twos_l E (k : Int) _ k0.tab hE1 hE2 (by omega) (by omega))
  have HA : Hid (Lim w A n c xs ∧ Lim w B m d ys) := ⟨hA, hB⟩
  have K0 := Lib.hid k0
  have HK : Hid (8 ≤ k ∧ k ≤ 9000 ∧ (-1048580 ≤ E ∧ E ≤ 1048580) ∧ Third (val xs) (val ys)) := ⟨hk8, hk9, ⟨hE1, hE2⟩, h3⟩
  clear hT k0 hE1 hE2 hA hB h3
  go_enter Tryd.func13, Tryd.ntmps13
  go_wp2_with fail
  refine H1.out.mono ?_
  rintro e w1 ⟨g1, A1, m1, c1, zs, e1, g2, A2, m2, c2, us, e2, r, rfl, hm1, hm2, hl1, hl2, hb1, hb2, hB1, hq⟩
  obtain rfl : r = 0 := by
    rcases hq with ⟨_, h, _⟩ | ⟨h, _⟩
    · exact h
    · exact absurd ⟨by omega, by omega⟩ h
  have a1 := below1 w1 (.cells #[.bool g1, .slice A1 m1 c1, .int .i64 e1, .bool g2, .slice A2 m2 c2, .int .i64 e2] 29)
  replace K0 := Lib.hid ((K0.out.below hB1).below a1)
  have HI1 := Lib.hid (Ib.new w1 g1 A1 m1 c1 e1 g2 A2 m2 c2 e2)
  have HL1 : Hid (Lim (w1.alloc (.cells #[.bool g1, .slice A1 m1 c1, .int .i64 e1, .bool g2, .slice A2 m2 c2, .int .i64 e2] 29)) A1 m1 c1 zs ∧ Lim (w1.alloc (.cells #[.bool g1, .slice A1 m1 c1, .int .i64 e1, .bool g2, .slice A2 m2 c2, .int .i64 e2] 29)) A2 m2 c2 us) := ⟨hl1.below a1, hl2.below a1⟩
  have HQ1 := Lib.hid hq
  have H2 := Lib.hid (frac_l A n c xs B m d ys g k _ (HA.out.1.below K0.out.all) (HA.out.2.below K0.out.all) hn hm K0.out.tab hk8 hk9 HK.out.2.2.2)
  clear H1 hl1 hl2 hb1 hb2 hB1 hq a1 HA
  go_wp2_with fail
  refine H2.out.mono ?_
  rintro e w2 ⟨g3, A3, m3, c3, ts, e3, g4, A4, m4, c4, vs, e4, r, rfl, hm3, hm4, hl3, hl4, hb3, hb4, hB2, hq⟩
  obtain rfl : r = 0 := hq.1
  have a2 := below1 w2 (.cells #[.bool g3, .slice A3 m3 c3, .int .i64 e3, .bool g4, .slice A4 m4 c4, .int .i64 e4] 29)
  obtain ⟨L, H, d5, d6, hS, ⟨ha5, hu5, hs5⟩, ha6, hu6, hs6⟩ := sum_made HK.out.1 HK.out.2.1 HK.out.2.2.1.1 HK.out.2.2.1.2 HK.out.2.2.2.2.2.1 HK.out.2.2.2.2.2.2 HQ1.out hq
  replace K0 := Lib.hid ((K0.out.below hB2).below a2)
  have i1 := (HI1.out.below hB2).below a2
  have i2 := Ib.new w2 g3 A3 m3 c3 e3 g4 A4 m4 c4 e4
  replace HI1 := Lib.hid i1
  have HI2 := Lib.hid i2
  have HL2 := Lib.hid (And.intro ((HL1.out.2.below hB2).below a2) (hl4.below a2))
  have H3 := Lib.hid (dadd_any (some d5) g1 A1 m1 c1 zs e1 g3 A3 m3 c3 ts e3 _ ((HL1.out.1.below hB2).below a2) (hl3.below a2) (by omega) (by omega) K0.out.tab ha5)
  have HS : Hid (SumV E (val xs) (val ys) g k L H ∧ Un k L d5 ∧ Un k H d6 ∧ blen d5.V ≤ 64 * 300 ∧ blen d6.V ≤ 64 * 300) := ⟨hS, hu5, hu6, hs5, hs6⟩
  have HA6 : Hid (addO (mk g2 (val us) e2) (mk g4 (val vs) e4) = some d6) := ha6
  have x0 := i1.x0
  have x1 := i1.x1
  have x2 := i1.x2
  have y0 := i2.x0
  have y1 := i2.x1
  have y2 := i2.x2
  clear H2 hl3 hl4 hb3 hb4 hB2 hq a2 HL1 HQ1 hS ha5 hu5 hs5 ha6 hu6 hs6 i1 i2
  go_wp2_with fail
  refine H3.out.mono ?_
  rintro e w3 ⟨g5, A5, m5, c5, ps, E5, r5, rfl, hm5, hl5, hb5, ⟨rfl, hg5, hV5, hE5⟩, hB3⟩
  have a3 := below1 w3 (.cells #[.bool g5, .slice A5 m5 c5, .int .i64 E5] 27)
  replace K0 := Lib.hid ((K0.out.below hB3).below a3)
  have i1 := (HI1.out.below hB3).below a3
  have i2 := (HI2.out.below hB3).below a3
  have b5 := Bd.new w3 27 g5 A5 m5 c5 E5
  have hm5' : m5 ≤ 300 := bare_le hl5 hb5 (by rw [hV5]; exact HS.out.2.2.2.1)
  have H4 := Lib.hid (dadd_any (some d6) g2 A2 m2 c2 us e2 g4 A4 m4 c4 vs e4 _ ((HL2.out.1.below hB3).below a3) ((HL2.out.2.below hB3).below a3) (by omega) (by omega) K0.out.tab HA6.out)
  have HD5 := Lib.hid b5
  have HL5 : Hid (Lim (w3.alloc (.cells #[.bool g5, .slice A5 m5 c5, .int .i64 E5] 27)) A5 m5 c5 ps ∧ Bare ps ∧ d5 = ⟨g5, val ps, E5⟩) := ⟨hl5.below a3, hb5, by rw [hg5, hV5, hE5]⟩
  have x3 := i1.x3
  have x4 := i1.x4
  have x5 := i1.x5
  have y3 := i2.x3
  have y4 := i2.x4
  have y5 := i2.x5
  clear H3 x0 x1 x2 y0 y1 y2 hl5 hb5 hg5 hV5 hE5 hB3 a3 i1 i2 b5 HL2 HA6 HI1 HI2 hm5
  go_wp2_with fail
  refine H4.out.mono ?_
  rintro e w4 ⟨g6, A6, m6, c6, qs, E6, r6, rfl, hm6, hl6, hb6, ⟨rfl, hg6, hV6, hE6⟩, hB4⟩
  have a4 := below1 w4 (.cells #[.bool g6, .slice A6 m6 c6, .int .i64 E6] 27)
  have k4 := (K0.out.below hB4).below a4
  have b5 := (HD5.out.below hB4).below a4
  have b6 := Bd.new w4 27 g6 A6 m6 c6 E6
  have hm6' : m6 ≤ 300 := bare_le hl6 hb6 (by rw [hV6]; exact HS.out.2.2.2.2)
  have hd6 : d6 = ⟨g6, val qs, E6⟩ := by rw [hg6, hV6, hE6]
  have Hfin := Lib.hid (k4.out (P := SumP E (val xs) (val ys) g (k : Int)) (g1 := g5) (e1 := E5) (g2 := g6) (e2 := E6) (r := 0) hm5' hm6' ((HL5.out.1.below hB4).below a4) (hl6.below a4) HL5.out.2.1 hb6 (Or.inl ⟨⟨by omega, by omega⟩, rfl, L, H, HS.out.1, by rw [← HL5.out.2.2]; exact HS.out.2.1, by rw [← hd6]; exact HS.out.2.2.1⟩))
  have z0 := b5.c0
  have z1 := b5.c1
  have z2 := b5.c2
  have t0 := b6.c0
  have t1 := b6.c1
  have t2 := b6.c2
  have zf := k4.1.fz
  have u0 := k4.1.x0
  have u1 := k4.1.x1
  have u2 := k4.1.x2
  have u3 := k4.1.x3
  have u4 := k4.1.x4
  have u5 := k4.1.x5
  clear H4 x3 x4 x5 y3 y4 y5 hl6 hb6 hg6 hV6 hE6 hB4 a4 b5 b6 K0 HD5 HL5 HS HK hd6 k4 hm6
  go_wp2
  exact bodyPost_ret (v := .tuple #[.agg #[.bool g5, .slice A5 m5 c5, .int .i64 E5, .bool g6, .slice A6 m6 c6, .int .i64 E6], .int .i64 0]) (by simp [results, Tryd.results13, go_sem, u0, u1, u2, u3, u4, u5]) rfl Hfin.out
theorem sum_l (E : Int) (A : Option Addr) (n c : Nat) (xs : List Nat) (B : Option Addr) (m d : Nat) (ys : List Nat) (g : Bool) (s : Int) (w : World) (hA : Lim w A n c xs) (hB : Lim w B m d ys) (hn : n ≤ 70) (hm : m ≤ 70) (hT : Tab w) (hE1 : -1048580 ≤ E) (hE2 : E ≤ 1048580) (hs1 : -9223372036854775808 ≤ s) (hs2 : s ≤ 9223372036854775807) (h3 : Third (val xs) (val ys)) :
    Calls Tryd.prog 13 #[.int .i64 E, .slice A n c, .slice B m d, .bool g, .int .i64 s] w (ITold w (SumP E (val xs) (val ys) g s)) := by
  by_cases hs : 8 ≤ s ∧ s ≤ 9000
  · obtain ⟨k, rfl⟩ := Int.eq_ofNat_of_zero_le (show 0 ≤ s by omega)
    exact sum_yes E A n c xs B m d ys g k w hA hB hn hm hT hE1 hE2 (by omega) (by omega) h3
  · exact sum_no E A n c B m d _ _ g s w hT hE1 hE2 hs1 hs2 hs

theorem turn_l (g : Bool) (t : Nat) (w : World) (ht : Hid ((if g then 7 else 5) = t)) : Calls Tryd.prog 39 #[.bool g] w fun e w' => e = .returned (.int .u64 (t : Int)) ∧ w = w' := by
  cases g with
  | true =>
    obtain rfl : t = 7 := ht.out.symm
    go_enter Tryd.func39, Tryd.ntmps39
    go_wp2
    go_ret
    exact ⟨rfl, rfl⟩
  | false =>
    obtain rfl : t = 5 := ht.out.symm
    go_enter Tryd.func39, Tryd.ntmps39
    go_wp2
    go_ret
    exact ⟨rfl, rfl⟩

/-- What isAtTurn tells; far from it where that is asked. -/
def TurnTold (w : World) (X Y : Nat) (s : Int) (e : Ending) (w' : World) : Prop := ∃ v, e = .returned (.bool v) ∧ Below w.heap.size w w' ∧ (X = 0 → Y = 2 → s = 64 → v = false)
set_option maxHeartbeats 2000000 in
theorem atturn_l (A : Option Addr) (n c : Nat) (xs : List Nat) (B : Option Addr) (m d : Nat) (ys : List Nat) (g : Bool) (s : Int) (w : World) (hA : Lim w A n c xs) (hB : Lim w B m d ys) (hn : n ≤ 70) (hm : m ≤ 70) (hs1 : 8 ≤ s) (hs2 : s ≤ 9000) (hle : val xs * (if g then 7 else 5) ≤ val ys) :
    Calls Tryd.prog 14 #[.slice A n c, .slice B m d, .bool g, .int .i64 s] w (TurnTold w (val xs) (val ys) s) := by
  obtain ⟨t, ht⟩ : ∃ t, (if g then 7 else 5) = t := ⟨_, rfl⟩
  have ht9 : t ≤ 7 := by rw [← ht]; cases g <;> decide
  rw [ht] at hle
  have H1 := Lib.hid (turn_l g t w ht)
  have h2 := times_any A n c xs t w hA (by omega) (by omega) (by have := hA.blen_le; omega)
  have H2 := Lib.hid h2
  have HB : Hid (Lim w B m d ys) := hB
  have HL := Lib.hid hle
  obtain ⟨b2, hb2⟩ : ∃ b, blen (val ys) = b := ⟨_, rfl⟩
  obtain ⟨b1, hb1⟩ : ∃ b, blen (val ys - val xs * t) = b := ⟨_, rfl⟩
  have hbl := hB.blen_le
  have hbm := blen_mono (show val ys - val xs * t ≤ val ys by omega)
  rw [hb2] at hbl hbm
  rw [hb1] at hbm
  have hF : val xs = 0 → val ys = 2 → b1 = 2 ∧ b2 = 2 := fun h1 h2 => by
    rw [h1, h2] at hb1
    rw [h2] at hb2
    rw [Nat.zero_mul, Nat.sub_zero] at hb1
    have : blen 2 = 2 := rfl
    omega
  have HF := Lib.hid hF
  have HB1 := Lib.hid hb1
  have HB2 := Lib.hid hb2
  clear hA hB hle ht h2 hb1 hb2 hF
  go_enter Tryd.func14, Tryd.ntmps14
  go_wp2_with fail
  refine H1.out.mono ?_
  rintro e w' ⟨rfl, rfl⟩
  go_wp2_with fail
  refine H2.out.mono ?_
  rintro e w1 ⟨A1, m1, c1, zs, rfl, hm1, hl1, hb1, hv1, hB1⟩
  have h3 := sub_any B m d ys A1 m1 c1 zs w1 (HB.out.below hB1) hl1 (by omega) (by omega) (by rw [hv1]; exact HL.out)
  rw [hv1] at h3
  have H3 := Lib.hid h3
  have HS := Lib.hid hB1
  clear hl1 hb1 hv1 hB1 h3 H1 H2
  go_wp2_with fail
  refine H3.out.mono ?_
  rintro e w2 ⟨A2, m2, c2, us, rfl, hm2, hl2, hb2, hv2, hB2⟩
  replace HS := Lib.hid (HS.out.trans (hB2.mono HS.out.size))
  have H4 := Lib.hid (bits_l b1 A2 m2 c2 us w2 hl2 (by omega) (by show _ = _; rw [hv2]; exact HB1.out))
  have H5 := Lib.hid (bits_l b2 B m d ys w2 (HB.out.below HS.out) (by omega) HB2.out)
  clear hl2 hb2 hv2 hB2 H3 HB HL HB1 HB2
  by_cases h0 : b1 = 0
  · have c1 : ((b1 : Int) == 0) = true := beq_yes (by omega)
    have Hfin : Hid (TurnTold w (val xs) (val ys) s (.returned (.bool true)) w2) := ⟨true, rfl, HS.out, fun h1 h2 _ => by have := (HF.out h1 h2).1; omega⟩
    clear HF HS H5 h0
    go_wp2_with fail
    refine H4.out.mono ?_
    rintro e w' ⟨rfl, rfl⟩
    clear H4
    go_wp2
    go_ret
    exact Hfin.out
  · have c1 : ((b1 : Int) == 0) = false := beq_no (by omega)
    obtain ⟨q, hq⟩ : ∃ q : Int, (b1 : Int) + s = q := ⟨_, rfl⟩
    obtain ⟨p, hp⟩ : ∃ p : Int, q - 20 = p := ⟨_, rfl⟩
    obtain ⟨v, hv⟩ : ∃ v, decide (p ≤ (b2 : Int)) = v := ⟨_, rfl⟩
    have Hfin : Hid (TurnTold w (val xs) (val ys) s (.returned (.bool v)) w2) := ⟨v, rfl, HS.out, fun h1 h2 h3 => by
      have := HF.out h1 h2
      rw [← hv]
      exact decide_eq_false (by omega)⟩
    clear HF HS h0
    go_wp2_with fail
    refine H4.out.mono ?_
    rintro e w' ⟨rfl, rfl⟩
    go_wp2_with fail
    refine H4.out.mono ?_
    rintro e w' ⟨rfl, rfl⟩
    go_wp2_with fail
    refine H5.out.mono ?_
    rintro e w' ⟨rfl, rfl⟩
    clear H4 H5
    go_wp2
    go_ret
    exact Hfin.out
end Go.Proofs.YtijhdlkfihjbiaaDoor
