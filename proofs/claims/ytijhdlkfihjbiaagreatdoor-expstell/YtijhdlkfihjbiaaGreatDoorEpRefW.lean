/- The walks of planimeterref14.Exp and Off. -/
import Derived.Test.YtijhdlkfihjbiaaGreatDoorEpLeft
import Derived.Test.YtijhdlkfihjbiaaGreatDoorK6
namespace Go.Proofs.YtijhdlkfihjbiaaGreatDoor
open Go.RowKit

/-- What is held while ln 2 is taken off: the result's block, ln 2, what is left. -/
def HeldE (w : World) (p5 p7 : Nat) (T : Nat) (At : Option Addr) (mt ct : Nat) (ts : List Nat) (mm : Int) (lg : Bool) (Al : Option Addr) (ml cl : Nat) (lE : Int) (ls : List Nat) (u : World) : Prop :=
  Bd u (w.heap.size + 1) 28 false none 0 0 0 ∧ Bd u p5 28 false At mt ct mm ∧ Bd u p7 28 lg Al ml cl lE ∧ (Dig u At mt ct ts ∧ D.Bare ts ∧ D.val ts = T) ∧ (Dig u Al ml cl ls ∧ D.Bare ls) ∧ Below w.heap.size w u
section
variable {w u u' : World} {p5 p7 T : Nat} {At : Option Addr} {mt ct : Nat} {ts : List Nat} {mm : Int} {lg : Bool} {Al : Option Addr} {ml cl : Nat} {lE : Int} {ls : List Nat}
theorem HeldE.below (h : HeldE w p5 p7 T At mt ct ts mm lg Al ml cl lE ls u) (hb : Below u.heap.size u u') : HeldE w p5 p7 T At mt ct ts mm lg Al ml cl lE ls u' :=
  ⟨h.1.below hb, h.2.1.below hb, h.2.2.1.below hb, ⟨h.2.2.2.1.1.below hb, h.2.2.2.1.2⟩, ⟨h.2.2.2.2.1.1.below hb, h.2.2.2.2.1.2⟩, h.2.2.2.2.2.trans (hb.mono h.2.2.2.2.2.size)⟩
theorem HeldE.put (h : HeldE w p5 p7 T At mt ct ts mm lg Al ml cl lE ls u) (h5 : w.heap.size + 1 < p5) (h7 : p5 < p7) {g' : Bool} {A' : Option Addr} {m' c' : Nat} {e' : Int} {ls' : List Nat} (hl : Dig u A' m' c' ls' ∧ D.Bare ls') :
    HeldE w p5 p7 T At mt ct ts mm g' A' m' c' e' ls' (World.put u p7 g' A' m' c' e') :=
  ⟨h.1.other (by omega) _ _ _ _ _, h.2.1.other (by omega) _ _ _ _ _, h.2.2.1.put _ _ _ _ _, ⟨h.2.2.1.dig h.2.2.2.1.1 _ _ _ _ _, h.2.2.2.1.2⟩, ⟨h.2.2.1.dig hl.1 _ _ _ _ _, hl.2⟩, below_put h.2.2.2.2.2 (by omega) _ _ _ _ _⟩
end
theorem left_dig {n : Dy} {T m : Nat} {k : Int} {g : Bool} {A : Option Addr} {ml cl : Nat} {lE : Int} {ls : List Nat} {u : World} (h : LeftP n T m k ⟨g, D.val ls, lE⟩) (hl : Dig u A ml cl ls) (hb : D.Bare ls) : ml ≤ 1251 := by
  have h1 := left_len h
  obtain ⟨X, hX⟩ : ∃ X, X = 20011 := ⟨_, rfl⟩
  refine dlen_le (k := X) hl hb rfl (blen_le_iff.1 ?_) (by omega)
  dsimp only at h1
  omega

theorem cmpI_notup {x y : Int} (h : x ≤ y) : cmpI x y ≤ 0 := by
  rcases Int.lt_trichotomy x y with h1 | h1 | h1
  · rw [cmpI_lt h1]; decide
  · rw [cmpI_eq h1]; decide
  · omega

set_option maxHeartbeats 4000000 in
set_option maxRecDepth 20000 in
theorem pexp_l (g : Bool) (A : Option Addr) (n c : Nat) (ds : List Nat) (E : Int) (m : Nat) (w : World) (hA : Dig w A n c ds) (ba : D.Bare ds) (hE1 : -20000 ≤ E) (hE2 : E ≤ 10) (hz : sz (D.val ds) E ≤ 1024 * ub) (hm : m ≤ 700) (hm8 : 88 ≤ m) :
    Calls Tryz.prog 11 #[.agg #[.bool g, .slice A n c, .int .i64 E], .int .i64 (m : Int)] w fun e w' => ∃ (k : Int) (Z : Nat), DocE ⟨g, D.val ds, E⟩ m k Z ∧ NTold w ⟨false, Z, k - (m : Int)⟩ 50 e w' := by
  have a1 : Below w.heap.size w ((w.alloc (.cells #[.bool g, .slice A n c, .int .i64 E] 28)).alloc (.cells #[.bool false, .slice none 0 0, .int .i64 0] 28)) := ((Below.refl _ _).alloc (Nat.le_refl _) _).alloc (by simp) _
  have b1 := (Bd.new w 28 g A n c E).alloc (.cells #[.bool false, .slice none 0 0, .int .i64 0] 28)
  have b2 := Bd.new (w.alloc (.cells #[.bool g, .slice A n c, .int .i64 E] 28)) 28 false none 0 0 0
  rw [World.size_alloc] at b2
  obtain ⟨N, hN⟩ : ∃ N : Dy, N = ⟨g, D.val ds, E⟩ := ⟨_, rfl⟩
  obtain ⟨Tv, hTv⟩ : ∃ x, dA (2 ^ m) 1 3 (m / 3 + 3) = x := ⟨_, rfl⟩
  obtain ⟨T, hT⟩ : ∃ x, Tv * 2 = x := ⟨_, rfl⟩
  have hdT : docT m = T := by unfold docT; rw [hTv, hT]
  obtain ⟨tb1, tb2⟩ := docT_bd (m := m) (by omega)
  rw [hdT] at tb1 tb2
  have hP : 2 ^ 80 ≤ 2 ^ m := Nat.pow_le_pow_right (by decide) (by omega)
  have e80 : (2 : Nat) ^ 80 = 1208925819614629174706176 := rfl
  rw [e80] at hP
  have HTm : Hid (T ≤ 2 ^ m ∧ 2 ^ m ≤ 3 * T ∧ docT m = T) := ⟨by omega, by omega, hdT⟩
  have Hn : Hid (sz N.V N.e ≤ 1024 * ub) := by show _ ≤ _; rw [hN]; exact hz
  have HL0 : Hid (LeftP N T m 0 ⟨g, D.val ds, E⟩) := by show LeftP _ _ _ _ _; rw [hN]; exact left_start T m hE1 hE2 hz
  have H1 := ltwo_l m Tv ((w.alloc (.cells #[.bool g, .slice A n c, .int .i64 E] 28)).alloc (.cells #[.bool false, .slice none 0 0, .int .i64 0] 28)) hm (Lib.hid hTv)
  rw [hT] at H1
  replace H1 := Lib.hid H1
  have HX := Lib.hid b1
  have HR := Lib.hid b2
  have HS := Lib.hid a1
  have HV : Hid (Dig ((w.alloc (.cells #[.bool g, .slice A n c, .int .i64 E] 28)).alloc (.cells #[.bool false, .slice none 0 0, .int .i64 0] 28)) A n c ds ∧ D.Bare ds) := ⟨hA.below a1, ba⟩
  have hm9 : (m : Int) ≤ 700 := by omega
  have hm88 : (88 : Int) ≤ (m : Int) := by omega
  obtain ⟨mm, hmm⟩ : ∃ x : Int, -(m : Int) = x := ⟨_, rfl⟩
  have hmm1 : -700 ≤ mm := by omega
  have hmm2 : mm ≤ 0 := by omega
  have HN := Lib.hid hN
  clear a1 b1 b2 hA ba hTv hT hdT tb1 tb2 hP e80 hz hN
  rw [← HN.out]
  go_enter Tryz.func11, Tryz.ntmps11
  go_wp2_with fail
  refine H1.out.mono ?_
  rintro e w1 ⟨At, mt, ct, ts, rfl, hmt, hlt, hbt, hvt, hB⟩
  replace HX : Hid (Bd w1 w.heap.size 28 g A n c E) := HX.out.below hB
  replace HR : Hid (Bd w1 (w.heap.size + 1) 28 false none 0 0 0) := HR.out.below hB
  replace HV : Hid (Dig w1 A n c ds ∧ D.Bare ds) := ⟨HV.out.1.below hB, HV.out.2⟩
  replace HS := Lib.hid (HS.out.trans (hB.mono HS.out.size))
  have Ht : Hid (Dig w1 At mt ct ts ∧ D.Bare ts ∧ D.val ts = T) := ⟨hlt, hbt, hvt⟩
  clear hlt hbt hvt hB H1
  have c5 := below1 w1 (.cells #[.bool false, .slice At mt ct, .int .i64 mm] 28)
  have c7 := below1 (w1.alloc (.cells #[.bool false, .slice At mt ct, .int .i64 mm] 28)) (.cells #[.bool g, .slice A n c, .int .i64 E] 28)
  have g5 := (Bd.new w1 28 false At mt ct mm).alloc (.cells #[.bool g, .slice A n c, .int .i64 E] 28)
  have g7 := Bd.new (w1.alloc (.cells #[.bool false, .slice At mt ct, .int .i64 mm] 28)) 28 g A n c E
  rw [World.size_alloc] at g7
  have hlt := HR.out.lt
  have HE : Hid (HeldE w w1.heap.size (w1.heap.size + 1) T At mt ct ts mm g A n c E ds ((w1.alloc (.cells #[.bool false, .slice At mt ct, .int .i64 mm] 28)).alloc (.cells #[.bool g, .slice A n c, .int .i64 E] 28))) := ⟨(HR.out.below c5).below c7, g5, g7, ⟨(Ht.out.1.below c5).below c7, Ht.out.2⟩, ⟨(HV.out.1.below c5).below c7, HV.out.2⟩, HS.out.trans ((c5.trans (c7.mono c5.size)).mono HS.out.size)⟩
  have hn9 : n ≤ 1251 := left_dig HL0.out HV.out.1 HV.out.2
  have HX_0 := (HX.out.below c5).c0
  have HX_1 := (HX.out.below c5).c1
  have HX_2 := (HX.out.below c5).c2
  have wm : IntKind.i64.wrap (-(m : Int)) = mm := by rw [hmm, IntKind.wrap_i64]; omega
  go_wp2_with fail
  clear HX_0 HX_1 HX_2 HX HR HV HS Ht c5 c7 g5 g7
  go_loopw [6] (fun kv wr => ∃ (k : Int) (lg : Bool) (Al : Option Addr) (ml cl : Nat) (lE : Int) (ls : List Nat), kv = .int .i64 k ∧ -3073 ≤ k ∧ k ≤ 0 ∧ -20000 ≤ lE ∧ lE ≤ 10 ∧ ml ≤ 1251 ∧ Hid (HeldE w w1.heap.size (w1.heap.size + 1) T At mt ct ts mm lg Al ml cl lE ls wr ∧ LeftP N T m k ⟨lg, D.val ls, lE⟩ ∧ (k = 0 ∨ dw lg (D.val ls) lE < ((T * us m : Nat) : Int)))) (fun kv _ => (5000 + intOf kv).toNat)
  case atStart => exact ⟨0, g, A, n, c, E, ds, rfl, by omega, by omega, hE1, hE2, hn9, HE.out, HL0.out, Or.inl rfl⟩
  case round =>
    obtain ⟨w2, rfl⟩ : ∃ w2, w2 = wr := ⟨_, rfl⟩
    obtain ⟨k, lg, Al, ml, cl, lE, ls, rfl, hk1, hk2, hlE1, hlE2, hml, HI⟩ := hrel
    obtain ⟨v, hv⟩ : ∃ v, sgD lg (D.val ls) = v := ⟨_, rfl⟩
    have H2 := Lib.hid (rsign_l v lg Al ml cl ls lE w2 HI.out.1.2.2.2.2.1.1 HI.out.1.2.2.2.2.1.2 hv)
    have y0 := HI.out.1.2.2.1.c0
    have y1 := HI.out.1.2.2.1.c1
    have y2 := HI.out.1.2.2.1.c2
    by_cases hneg : v < 0
    · have d1 : decide (v < (0 : Int)) = true := decide_eq_true hneg
      have hdn : dw lg (D.val ls) lE < 0 := (sgD_dw lg (D.val ls) lE).1 (by rw [hv]; exact hneg)
      have hk3 := left_low HI.out.2.1 Hn.out hdn HTm.out.2.1 (by omega)
      obtain ⟨k1, hk1'⟩ : ∃ x, k - 1 = x := ⟨_, rfl⟩
      obtain ⟨⟨og, oV, oE⟩, ho1, _, _, ho2, _, _, ho3⟩ := gadd_spec lg false (D.val ls) T lE mm (by omega) (by omega) (by omega) (by omega) (by omega) (by omega)
      dsimp only at ho1 ho2
      have hL2 := left_up (o := ⟨og, oV, oE⟩) HI.out.2.1 hdn HTm.out.1 hm (by rw [hmm]; exact ho1) (by rw [hmm]; exact ho2)
      rw [hk1'] at hL2
      have HL2 := Lib.hid hL2
      have hoE1 : -20000 ≤ oE := hL2.1.2.1
      have hoE2 : oE ≤ 10 := hL2.1.2.2.1
      have HO3 := Lib.hid ho3
      clear hv hdn ho1 ho2 ho3 hL2
      go_wp2_with fail
      refine H2.out.mono ?_
      rintro e w3 ⟨rfl, hB⟩
      have HE3 : Hid (HeldE w w1.heap.size (w1.heap.size + 1) T At mt ct ts mm lg Al ml cl lE ls w3) := HI.out.1.below hB
      clear y0 y1 y2 hB H2
      have y0 := HE3.out.2.2.1.c0
      have y1 := HE3.out.2.2.1.c1
      have y2 := HE3.out.2.2.1.c2
      have z0 := HE3.out.2.1.c0
      have z1 := HE3.out.2.1.c1
      have z2 := HE3.out.2.1.c2
      have H3 := Lib.hid (HO3.out Al ml cl ls At mt ct ts w3 HE3.out.2.2.2.2.1.1 HE3.out.2.2.2.1.1 HE3.out.2.2.2.2.1.2 HE3.out.2.2.2.1.2.1 (by omega) (by omega) rfl HE3.out.2.2.2.1.2.2)
      go_wp2_with fail
      refine H3.out.mono ?_
      rintro e w4 ⟨A4, m4, c4, es, rfl, hm4, hl4, hb4, hv4, hB⟩
      have HE4 : Hid (HeldE w w1.heap.size (w1.heap.size + 1) T At mt ct ts mm lg Al ml cl lE ls w4) := HE3.out.below hB
      have HL4 : Hid ((Dig w4 A4 m4 c4 es ∧ D.Bare es) ∧ D.val es = oV) := ⟨⟨hl4, hb4⟩, hv4⟩
      clear y0 y1 y2 z0 z1 z2 hl4 hb4 hv4 hB H3 HO3 HI HE3
      have y0 := HE4.out.2.2.1.c0
      have y1 := HE4.out.2.2.1.c1
      have y2 := HE4.out.2.2.1.c2
      have yf := HE4.out.2.2.1.fz
      have hm45 : m4 ≤ 1251 := left_dig (by rw [HL4.out.2]; exact HL2.out.1) HL4.out.1.1 HL4.out.1.2
      have HE5 := Lib.hid (HE4.out.put (g' := og) (e' := oE) hlt (Nat.lt_succ_self _) HL4.out.1)
      have HF : Hid (HeldE w w1.heap.size (w1.heap.size + 1) T At mt ct ts mm og A4 m4 c4 oE es (World.put w4 (w1.heap.size + 1) og A4 m4 c4 oE) ∧ LeftP N T m k1 ⟨og, D.val es, oE⟩ ∧ (k1 = 0 ∨ dw og (D.val es) oE < ((T * us m : Nat) : Int))) := ⟨HE5.out, by rw [HL4.out.2]; exact HL2.out.1, Or.inr (by rw [HL4.out.2]; exact HL2.out.2)⟩
      clear HE4 HL4 HL2 HE5
      go_wp2
      go_roundw
      case rel => exact ⟨k1, og, A4, m4, c4, oE, es, rfl, by omega, by omega, hoE1, hoE2, hm45, HF⟩
      case measure => simp [intOf]; omega
    · have d1 : decide (v < (0 : Int)) = false := decide_eq_false hneg
      have hdn : 0 ≤ dw lg (D.val ls) lE := by
        refine Int.not_lt.1 fun h => hneg ?_
        rw [← hv]
        exact (sgD_dw lg (D.val ls) lE).2 h
      have Hdn := Lib.hid hdn
      clear hdn hv hneg
      go_wp2_with fail
      refine H2.out.mono ?_
      rintro e w3 ⟨rfl, hB⟩
      have HE3 : Hid (HeldE w w1.heap.size (w1.heap.size + 1) T At mt ct ts mm lg Al ml cl lE ls w3) := HI.out.1.below hB
      have HL3 : Hid (LeftP N T m k ⟨lg, D.val ls, lE⟩) := HI.out.2.1
      clear y0 y1 y2 hB H2 HI
      have c8 := below1 w3 (.cells #[.bool true, .slice At mt ct, .int .i64 mm] 28)
      have g8 := Bd.new w3 28 true At mt ct mm
      have l8 := HE3.out.2.2.1.lt
      have HE8 : Hid (HeldE w w1.heap.size (w1.heap.size + 1) T At mt ct ts mm lg Al ml cl lE ls (w3.alloc (.cells #[.bool true, .slice At mt ct, .int .i64 mm] 28)) ∧ Bd (w3.alloc (.cells #[.bool true, .slice At mt ct, .int .i64 mm] 28)) w3.heap.size 28 true At mt ct mm ∧ LeftP N T m k ⟨lg, D.val ls, lE⟩ ∧ 0 ≤ dw lg (D.val ls) lE) := ⟨HE3.out.below c8, g8, HL3.out, Hdn.out⟩
      have z0 := HE3.out.2.1.c0
      have z1 := HE3.out.2.1.c1
      have z2 := HE3.out.2.1.c2
      clear c8 g8 HL3 Hdn
      go_wp2_with fail
      clear z0 z1 z2 HE3
      go_loopw [6] (fun kv wr => ∃ (k : Int) (lg : Bool) (Al : Option Addr) (ml cl : Nat) (lE : Int) (ls : List Nat), kv = .int .i64 k ∧ -3073 ≤ k ∧ k ≤ 3073 ∧ -20000 ≤ lE ∧ lE ≤ 10 ∧ ml ≤ 1251 ∧ Hid (HeldE w w1.heap.size (w1.heap.size + 1) T At mt ct ts mm lg Al ml cl lE ls wr ∧ Bd wr w3.heap.size 28 true At mt ct mm ∧ LeftP N T m k ⟨lg, D.val ls, lE⟩ ∧ 0 ≤ dw lg (D.val ls) lE)) (fun kv _ => (5000 - intOf kv).toNat)
      case atStart => exact ⟨k, lg, Al, ml, cl, lE, ls, rfl, by omega, by omega, hlE1, hlE2, hml, HE8⟩
      case round =>
        clear HE8
        clear hlE1 hlE2 hml hk1 hk2
        obtain ⟨w5, rfl⟩ : ∃ w5, w5 = wr := ⟨_, rfl⟩
        obtain ⟨k, lg, Al, ml, cl, lE, ls, rfl, hk1, hk2, hlE1, hlE2, hml, HI⟩ := hrel
        obtain ⟨v, hv⟩ : ∃ v, cmpI (dw lg (D.val ls) lE) (dw false T mm) = v := ⟨_, rfl⟩
        have H2 := Lib.hid (gcmp_any v lg Al ml cl ls lE false At mt ct ts mm w5 HI.out.1.2.2.2.2.1.1 HI.out.1.2.2.2.1.1 HI.out.1.2.2.2.2.1.2 HI.out.1.2.2.2.1.2.1 (by omega) (by omega) (by omega) (by omega) (by omega) (by omega) (by rw [HI.out.1.2.2.2.1.2.2]; exact hv))
        have y0 := HI.out.1.2.2.1.c0
        have y1 := HI.out.1.2.2.1.c1
        have y2 := HI.out.1.2.2.1.c2
        have z0 := HI.out.1.2.1.c0
        have z1 := HI.out.1.2.1.c1
        have z2 := HI.out.1.2.1.c2
        have htw := (two_us T m).1
        rw [hmm] at htw
        by_cases hpos : 0 < v
        · have d1 : decide ((0 : Int) < v) = true := decide_eq_true hpos
          have hup : ((T * us m : Nat) : Int) < dw lg (D.val ls) lE := by
            refine Int.not_le.1 fun h => ?_
            have := cmpI_notup (show dw lg (D.val ls) lE ≤ dw false T mm by rw [htw]; exact h)
            omega
          have hk3 := left_high HI.out.2.2.1 Hn.out HI.out.2.2.2 HTm.out.2.1 (by omega)
          obtain ⟨k1, hk1'⟩ : ∃ x, k + 1 = x := ⟨_, rfl⟩
          obtain ⟨⟨og, oV, oE⟩, ho1, _, _, ho2, _, _, ho3⟩ := gadd_spec lg true (D.val ls) T lE mm (by omega) (by omega) (by omega) (by omega) (by omega) (by omega)
          dsimp only at ho1 ho2
          have hL2 := left_down (o := ⟨og, oV, oE⟩) HI.out.2.2.1 hup hm (by rw [hmm]; exact ho1) (by rw [hmm]; exact ho2)
          rw [hk1'] at hL2
          have HL2 := Lib.hid hL2
          have hoE1 : -20000 ≤ oE := hL2.1.2.1
          have hoE2 : oE ≤ 10 := hL2.1.2.2.1
          have HO3 := Lib.hid ho3
          clear hv hup ho1 ho2 ho3 hL2 htw
          go_wp2_with fail
          refine H2.out.mono ?_
          rintro e w6 ⟨rfl, hB⟩
          have HE3 : Hid (HeldE w w1.heap.size (w1.heap.size + 1) T At mt ct ts mm lg Al ml cl lE ls w6) := HI.out.1.below hB
          have H8 : Hid (Bd w6 w3.heap.size 28 true At mt ct mm) := HI.out.2.1.below hB
          clear y0 y1 y2 z0 z1 z2 hB H2 HI
          have y0 := HE3.out.2.2.1.c0
          have y1 := HE3.out.2.2.1.c1
          have y2 := HE3.out.2.2.1.c2
          have z0 := H8.out.c0
          have z1 := H8.out.c1
          have z2 := H8.out.c2
          have H3 := Lib.hid (HO3.out Al ml cl ls At mt ct ts w6 HE3.out.2.2.2.2.1.1 HE3.out.2.2.2.1.1 HE3.out.2.2.2.2.1.2 HE3.out.2.2.2.1.2.1 (by omega) (by omega) rfl HE3.out.2.2.2.1.2.2)
          go_wp2_with fail
          refine H3.out.mono ?_
          rintro e w7 ⟨A4, m4, c4, es, rfl, hm4, hl4, hb4, hv4, hB⟩
          have HE4 : Hid (HeldE w w1.heap.size (w1.heap.size + 1) T At mt ct ts mm lg Al ml cl lE ls w7 ∧ Bd w7 w3.heap.size 28 true At mt ct mm) := ⟨HE3.out.below hB, H8.out.below hB⟩
          have HL4 : Hid ((Dig w7 A4 m4 c4 es ∧ D.Bare es) ∧ D.val es = oV) := ⟨⟨hl4, hb4⟩, hv4⟩
          clear y0 y1 y2 z0 z1 z2 hl4 hb4 hv4 hB H3 HO3 HE3 H8
          have y0 := HE4.out.1.2.2.1.c0
          have y1 := HE4.out.1.2.2.1.c1
          have y2 := HE4.out.1.2.2.1.c2
          have yf := HE4.out.1.2.2.1.fz
          have hm45 : m4 ≤ 1251 := left_dig (by rw [HL4.out.2]; exact HL2.out.1) HL4.out.1.1 HL4.out.1.2
          have HF : Hid (HeldE w w1.heap.size (w1.heap.size + 1) T At mt ct ts mm og A4 m4 c4 oE es (World.put w7 (w1.heap.size + 1) og A4 m4 c4 oE) ∧ Bd (World.put w7 (w1.heap.size + 1) og A4 m4 c4 oE) w3.heap.size 28 true At mt ct mm ∧ LeftP N T m k1 ⟨og, D.val es, oE⟩ ∧ 0 ≤ dw og (D.val es) oE) := ⟨HE4.out.1.put hlt (Nat.lt_succ_self _) HL4.out.1, HE4.out.2.other (by omega) _ _ _ _ _, by rw [HL4.out.2]; exact HL2.out.1, by rw [HL4.out.2]; exact Int.le_of_lt HL2.out.2⟩
          clear HE4 HL4 HL2
          go_wp2
          go_roundw
          case rel => exact ⟨k1, og, A4, m4, c4, oE, es, rfl, by omega, by omega, hoE1, hoE2, hm45, HF⟩
          case measure => simp [intOf]; omega
        · have d1 : decide ((0 : Int) < v) = false := decide_eq_false hpos
          have hup : dw lg (D.val ls) lE ≤ ((T * us m : Nat) : Int) := by
            refine Int.not_lt.1 fun h => hpos ?_
            rw [← hv, htw, cmpI_gt h]
            decide
          have Hup := Lib.hid hup
          clear hup hv hpos htw
          go_wp2_with fail
          refine H2.out.mono ?_
          rintro e w6 ⟨rfl, hB⟩
          have HE3 : Hid (HeldE w w1.heap.size (w1.heap.size + 1) T At mt ct ts mm lg Al ml cl lE ls w6) := HI.out.1.below hB
          have HL3 : Hid (LeftP N T m k ⟨lg, D.val ls, lE⟩ ∧ 0 ≤ dw lg (D.val ls) lE) := ⟨HI.out.2.2.1, HI.out.2.2.2⟩
          clear y0 y1 y2 z0 z1 z2 hB H2 HI
          have y0 := HE3.out.2.2.1.c0
          have y1 := HE3.out.2.2.1.c1
          have y2 := HE3.out.2.2.1.c2
          have hpt := left_parts (l := ⟨lg, D.val ls, lE⟩) HL3.out.2 hlE1 hlE2 hm
          have hle := left_le Hup.out
          dsimp only at hpt
          by_cases hsh : 0 ≤ lE + (m : Int)
          · rw [if_pos hsh] at hpt
            obtain ⟨j, hj⟩ : ∃ j : Nat, lE + (m : Int) = (j : Int) := ⟨(lE + (m : Int)).toNat, by omega⟩
            rw [hj, Int.toNat_natCast] at hpt
            obtain ⟨Mv, hMv⟩ : ∃ x, D.val ls * 2 ^ j = x := ⟨_, rfl⟩
            rw [hMv] at hpt
            have HM : Hid (Mv ≤ 2 ^ m ∧ (dw lg (D.val ls) lE / (us m : Int)).toNat = Mv) := ⟨by rw [← hpt]; exact Nat.le_trans hle HTm.out.1, hpt⟩
            have d2 : decide ((0 : Int) ≤ (j : Int)) = true := decide_eq_true (by omega)
            have H5 := rshl_any Al ml cl ls j w6 HE3.out.2.2.2.2.1.1 HE3.out.2.2.2.2.1.2 (by omega) (by omega)
            rw [hMv] at H5
            replace H5 := Lib.hid H5
            clear hpt hle hMv hsh
            go_wp2_with fail
            refine H5.out.mono ?_
            rintro e w7 ⟨A4, m4, c4, es, rfl, hm4, hl4, hb4, hv4, hB⟩
            have HE4 : Hid (HeldE w w1.heap.size (w1.heap.size + 1) T At mt ct ts mm lg Al ml cl lE ls w7) := HE3.out.below hB
            have hm45 : m4 ≤ 45 := dlen_le (k := m + 1) hl4 hb4 hv4 (by rw [Nat.pow_succ]; have := HM.out.1; have := Nat.two_pow_pos m; omega) (by omega)
            have H6 := rexp_l m A4 m4 c4 es w7 hl4 hb4 (by omega) hm (by rw [hv4]; exact HM.out.1)
            rw [hv4] at H6
            replace H6 := Lib.hid H6
            clear y0 y1 y2 hl4 hb4 hv4 hB H5 HE3
            go_wp2_with fail
            refine H6.out.mono ?_
            rintro e w8 ⟨K, hK, A5, m5, c5, qs, rfl, hm5, hl5, hb5, hv5, hB⟩
            obtain ⟨kk, hkk⟩ : ∃ x, k - (m : Int) = x := ⟨_, rfl⟩
            have HE5 := HE4.out.below hB
            have Hfin := Lib.hid (put_out (w := w) (o := ⟨false, de (2 ^ m) Mv K 1, kk⟩) HE5.1 (Nat.le_succ _) HE5.2.2.2.2.2 hm5 hl5 hb5 hv5)
            have HD : Hid (DocE N m k (de (2 ^ m) Mv K 1)) := ⟨dw lg (D.val ls) lE, K, hK, by rw [HTm.out.2.2]; exact HL3.out.1.1, HL3.out.2, by rw [HTm.out.2.2]; exact Hup.out, by rw [HM.out.2]⟩
            have HR_0 := HE5.1.c0
            have HR_1 := HE5.1.c1
            have HR_2 := HE5.1.c2
            have HR_f := HE5.1.fz
            clear HE4 HE5 HL3 Hup HM hK hl5 hb5 hv5 hB H6
            go_wp2
            exact bodyPost_ret (v := .agg #[.bool false, .slice A5 m5 c5, .int .i64 kk]) (by simp [results, Tryz.results11, go_sem, HR_0, HR_1, HR_2]) rfl ⟨k, _, HD.out, by rw [hkk]; exact Hfin.out⟩
          · rw [if_neg hsh] at hpt
            obtain ⟨j, hj⟩ : ∃ j : Nat, -lE - (m : Int) = (j : Int) := ⟨(-lE - (m : Int)).toNat, by omega⟩
            rw [hj, Int.toNat_natCast] at hpt
            obtain ⟨Mv, hMv⟩ : ∃ x, D.val ls / 2 ^ j = x := ⟨_, rfl⟩
            rw [hMv] at hpt
            have HM : Hid (Mv ≤ 2 ^ m ∧ (dw lg (D.val ls) lE / (us m : Int)).toNat = Mv) := ⟨by rw [← hpt]; exact Nat.le_trans hle HTm.out.1, hpt⟩
            obtain ⟨lm, hlm⟩ : ∃ x, lE + (m : Int) = x := ⟨_, rfl⟩
            obtain ⟨nE, hnE⟩ : ∃ x, -lE = x := ⟨_, rfl⟩
            have hj2 : nE - (m : Int) = (j : Int) := by omega
            have d2 : decide ((0 : Int) ≤ lm) = false := decide_eq_false (by omega)
            have wn : IntKind.i64.wrap (-lE) = nE := by rw [hnE, IntKind.wrap_i64]; omega
            have H5 := rshr_any Al ml cl ls (j : Int) w6 HE3.out.2.2.2.2.1.1 HE3.out.2.2.2.2.1.2 (by omega) (by omega)
            rw [Int.toNat_natCast, hMv] at H5
            replace H5 := Lib.hid H5
            clear hpt hle hMv hsh
            go_wp2_with fail
            refine H5.out.mono ?_
            rintro e w7 ⟨A4, m4, c4, es, rfl, hm4, hl4, hb4, hv4, hB⟩
            have HE4 : Hid (HeldE w w1.heap.size (w1.heap.size + 1) T At mt ct ts mm lg Al ml cl lE ls w7) := HE3.out.below hB
            have hm45 : m4 ≤ 45 := dlen_le (k := m + 1) hl4 hb4 hv4 (by rw [Nat.pow_succ]; have := HM.out.1; have := Nat.two_pow_pos m; omega) (by omega)
            have H6 := rexp_l m A4 m4 c4 es w7 hl4 hb4 (by omega) hm (by rw [hv4]; exact HM.out.1)
            rw [hv4] at H6
            replace H6 := Lib.hid H6
            clear y0 y1 y2 hl4 hb4 hv4 hB H5 HE3
            go_wp2_with fail
            refine H6.out.mono ?_
            rintro e w8 ⟨K, hK, A5, m5, c5, qs, rfl, hm5, hl5, hb5, hv5, hB⟩
            obtain ⟨kk, hkk⟩ : ∃ x, k - (m : Int) = x := ⟨_, rfl⟩
            have HE5 := HE4.out.below hB
            have Hfin := Lib.hid (put_out (w := w) (o := ⟨false, de (2 ^ m) Mv K 1, kk⟩) HE5.1 (Nat.le_succ _) HE5.2.2.2.2.2 hm5 hl5 hb5 hv5)
            have HD : Hid (DocE N m k (de (2 ^ m) Mv K 1)) := ⟨dw lg (D.val ls) lE, K, hK, by rw [HTm.out.2.2]; exact HL3.out.1.1, HL3.out.2, by rw [HTm.out.2.2]; exact Hup.out, by rw [HM.out.2]⟩
            have HR_0 := HE5.1.c0
            have HR_1 := HE5.1.c1
            have HR_2 := HE5.1.c2
            have HR_f := HE5.1.fz
            clear HE4 HE5 HL3 Hup HM hK hl5 hb5 hv5 hB H6
            go_wp2
            exact bodyPost_ret (v := .agg #[.bool false, .slice A5 m5 c5, .int .i64 kk]) (by simp [results, Tryz.results11, go_sem, HR_0, HR_1, HR_2]) rfl ⟨k, _, HD.out, by rw [hkk]; exact Hfin.out⟩
end Go.Proofs.YtijhdlkfihjbiaaGreatDoor
