/- The walk of exps.Exp: the contract of the laws' words (written by law_eexp.py). -/
import Derived.Test.YtijhdlkfihjbiaaGreatDoorEpSplitW
import Derived.Test.YtijhdlkfihjbiaaGreatDoorEpScale
import Derived.Test.YtijhdlkfihjbiaaGreatDoorK6
namespace Go.Proofs.YtijhdlkfihjbiaaGreatDoor
open Go.RowKit

theorem Ib.tabL {w : World} {b : Nat} {g1 : Bool} {A1 : Option Addr} {n1 c1 : Nat} {e1 : Int} {g2 : Bool} {A2 : Option Addr} {n2 c2 : Nat} {e2 : Int} (h : Ib w b g1 A1 n1 c1 e1 g2 A2 n2 c2 e2) (hT : Tab w) (g' : Bool) (A' : Option Addr) (n' c' : Nat) (e' : Int) : Tab (World.put w b g' A' n' c' e') := fun j hj => by
  have hne : 0 ≠ b := by
    intro hb
    have hc := hT j hj
    rw [hb] at hc
    have := h.not hc
    cases this
  rw [put_cell _ _ _ _ _ _ _ _ hne]; exact hT j hj
theorem exp_nil {w u : World} {g1 : Bool} {V1 : Nat} {e1 : Int} {g2 : Bool} {V2 : Nat} {e2 s : Int} (hb : Below w.heap.size w u) (hn : SplitNo g1 V1 e1 g2 V2 e2 s) :
    ITold w (ExpP g1 V1 e1 g2 V2 e2 s) (.returned (.tuple #[.agg #[.bool false, .slice none 0 0, .int .i64 0, .bool false, .slice none 0 0, .int .i64 0], .int .i64 1])) (World.put6 u (w.heap.size + 1) false none 0 0 0 false none 0 0 0) :=
  ⟨false, none, 0, 0, [], 0, false, none, 0, 0, [], 0, 1, rfl, by decide, by decide, Lim.nil _ _ _, Lim.nil _ _ _, rfl, rfl, below_put6 hb (Nat.le_succ _) _ _ _ _ _ _ _ _ _ _, Or.inr ⟨hn, rfl, rfl, rfl⟩⟩

set_option maxHeartbeats 8000000 in
set_option maxRecDepth 20000 in
theorem exp_l (g1 : Bool) (A1 : Option Addr) (n1 c1 : Nat) (xs : List Nat) (e1 : Int) (g2 : Bool) (A2 : Option Addr) (n2 c2 : Nat) (ys : List Nat) (e2 : Int) (s : Int) (w : World) (hA : Lim w A1 n1 c1 xs) (hB : Lim w A2 n2 c2 ys) (hn1 : n1 ≤ 4294967296) (hn2 : n2 ≤ 4294967296) (hT : Tab w) (hs1 : -9223372036854775808 ≤ s) :
    Calls Tryz.prog 8 #[.agg #[.bool g1, .slice A1 n1 c1, .int .i64 e1, .bool g2, .slice A2 n2 c2, .int .i64 e2], .int .i64 s] w (ITold w (ExpP g1 (val xs) e1 g2 (val ys) e2 s)) := by
  have k0 := HoldJ.start (g1 := g1) (A1 := A1) (m1 := n1) (c1 := c1) (e1 := e1) (g2 := g2) (A2 := A2) (m2 := n2) (c2 := c2) (e2 := e2) hT
  have H1 := Lib.hid (split_l g1 A1 n1 c1 xs e1 g2 A2 n2 c2 ys e2 s _ (hA.below k0.all) (hB.below k0.all) hn1 hn2 k0.tab hs1)
  have K0 := Lib.hid k0
  have x0 := k0.1.x0
  have x1 := k0.1.x1
  have x2 := k0.1.x2
  have x3 := k0.1.x3
  have x4 := k0.1.x4
  have x5 := k0.1.x5
  clear hA hB hT k0
  go_enter Tryz.func8, Tryz.ntmps8
  go_wp2_with fail
  refine H1.out.mono ?_
  rintro e w1 ⟨k, A3, m3, c3, ts, A4, m4, c4, vs, r, rfl, hm3, hm4, hl3, hl4, hB1, hq⟩
  clear x0 x1 x2 x3 x4 x5 H1
  replace K0 := Lib.hid (K0.out.below hB1)
  rcases hq with ⟨lo, hi, c, d, hok, hw, hb, rfl⟩ | ⟨hn, rfl, rfl, rfl, rfl⟩
  case inr =>
    have y0 := K0.out.2.1.x0
    have y1 := K0.out.2.1.x1
    have y2 := K0.out.2.1.x2
    have y3 := K0.out.2.1.x3
    have y4 := K0.out.2.1.x4
    have y5 := K0.out.2.1.x5
    have yf := K0.out.2.1.fz
    have Hfin := Lib.hid (exp_nil K0.out.all hn)
    clear K0 hl3 hl4 hB1 hn
    go_wp2
    exact bodyPost_ret (v := .tuple #[.agg #[.bool false, .slice none 0 0, .int .i64 0, .bool false, .slice none 0 0, .int .i64 0], .int .i64 1]) (by simp [results, Tryz.results8, go_sem, y0, y1, y2, y3, y4, y5]) rfl Hfin.out
  case inl =>
    obtain ⟨h1, h2, h3, h4, h5, hs8, hs9⟩ := hok
    obtain ⟨z, rfl⟩ := Int.eq_ofNat_of_zero_le (show 0 ≤ s by omega)
    rw [Int.toNat_natCast] at hw hb
    have fl := (mk_fine h1).1
    have hab : val ts ≤ val vs := by
      obtain ⟨_, _, q3, _⟩ := epw_at (by omega) hw h5
      have := fl_cl (s := z) h5
      omega
    have hk9 : k.natAbs ≤ 12292 := epw_k (n := 4097) (by omega) hw h5 (by have := mid_far (s := z) fl h3 (by omega); have := Nat.two_pow_pos z; omega)
    have H2 := Lib.hid (exp_told A3 m3 c3 ts A4 m4 c4 vs z w1 hl3 hl4 hm3 hm4 K0.out.tab (by omega) (by omega) hab hb)
    have HQ : Hid ((mk g1 (val xs) e1 = some lo ∧ mk g2 (val ys) e2 = some hi ∧ Mid lo ∧ Mid hi ∧ dw lo.neg lo.V lo.e ≤ dw hi.neg hi.V hi.e ∧ 8 ≤ (z : Int) ∧ (z : Int) ≤ 8900) ∧ EpW z lo hi k (val ts) (val vs) c d ∧ val vs ≤ 2 ^ z ∧ val ts ≤ val vs) := ⟨⟨h1, h2, h3, h4, h5, hs8, hs9⟩, hw, hb, hab⟩
    clear hl3 hl4 hB1 hw hb hab h1 h2 h3 h4 h5 fl hs1
    go_wp2_with fail
    refine H2.out.mono ?_
    rintro e w2 ⟨A5, m5, c5, ps, A6, m6, c6, qs, r, rfl, hm5, hm6, hl5, hl6, hB2, rfl, v1, v2⟩
    replace K0 := Lib.hid (K0.out.below hB2)
    have hpq := (ex_both HQ.out.2.2.2 HQ.out.2.2.1 v1 v2).2.1
    have hp0 : val ps ≠ 0 := by
      have := ex_least v1
      have := Nat.two_pow_pos z
      omega
    have hpb := hl5.blen_le
    have hqb := hl6.blen_le
    have H3 := Lib.hid (within_meets A5 m5 c5 ps A6 m6 c6 qs (z : Int) false w2 hl5 hl6 hm5 hm6 K0.out.tab hs8 (by omega) hpq)
    have HE : Hid (ExV false (val ts) z (val ps) ∧ ExV true (val vs) z (val qs) ∧ val ps ≠ 0 ∧ val qs ≠ 0 ∧ blen (val ps) ≤ 20000 ∧ blen (val qs) ≤ 20000) := ⟨v1, v2, hp0, by omega, by omega, by omega⟩
    clear hl5 hl6 hB2 v1 v2 hpq hp0 hpb hqb H2
    go_wp2_with fail
    refine H3.out.mono ?_
    rintro e w3 ⟨ga, Aa, ma, ca, as_, ea, gb, Ab, mb, cb, bs, eb, rfl, hma, hmb, hla, hlb, hba, hbb, hB3, hda, hdb⟩
    have hda' : mk false (val ps) (-(z : Int)) = some ⟨ga, val as_, ea⟩ := hda
    have hdb' : mk false (val qs) (-(z : Int)) = some ⟨gb, val bs, eb⟩ := hdb
    obtain ⟨a1, a2, a3, a4, a5, a6, a7⟩ := mk_scaled (k := k) (by omega) (by omega) HE.out.2.2.1 HE.out.2.2.2.2.1 hda'
    obtain ⟨b1, b2, b3, b4, b5, b6, b7⟩ := mk_scaled (k := k) (by omega) (by omega) HE.out.2.2.2.1 HE.out.2.2.2.2.2 hdb'
    have ba := below1 w3 (.cells #[.bool ga, .slice Aa ma ca, .int .i64 ea, .bool gb, .slice Ab mb cb, .int .i64 eb] 34)
    have i3 := Ib.new w3 ga Aa ma ca ea gb Ab mb cb eb
    have hlt := (K0.out.below hB3).2.1.lt
    replace K0 := Lib.hid ((K0.out.below hB3).below ba)
    have HU : Hid (w.heap.size + 1 < w3.heap.size) := hlt
    have HI := Lib.hid i3
    have HLb : Hid (Lim (w3.alloc (.cells #[.bool ga, .slice Aa ma ca, .int .i64 ea, .bool gb, .slice Ab mb cb, .int .i64 eb] 34)) Ab mb cb bs) := hlb.below ba
    have H4 := Lib.hid (scale_l ga Aa ma ca as_ ea k _ (hla.below ba) (by omega) K0.out.tab a6 a2 (by omega) (by omega) (by omega) (by omega))
    have HX : Hid (mk false (val ps) (k - (z : Int)) = some ⟨ga, val as_, ea + k⟩ ∧ mk false (val qs) (k - (z : Int)) = some ⟨gb, val bs, eb + k⟩) := ⟨a7, b7⟩
    have HY : Hid (mk gb (val bs) eb = some ⟨gb, val bs, eb⟩ ∧ val bs ≠ 0 ∧ -9000 ≤ eb ∧ eb ≤ 20000) := ⟨b6, b2, b4, b5⟩
    have t0 := i3.x0
    have t1 := i3.x1
    have t2 := i3.x2
    obtain ⟨ka, hka⟩ : ∃ x : Int, ea + k = x := ⟨_, rfl⟩
    obtain ⟨kb, hkb⟩ : ∃ x : Int, eb + k = x := ⟨_, rfl⟩
    rw [hka] at H4 HX
    rw [hkb] at HX
    have HKb := Lib.hid hkb
    clear hla hlb hba hbb hB3 hda hdb hda' hdb' a1 a2 a3 a4 a5 a6 a7 b1 b2 b3 b4 b5 b6 b7 ba i3 hlt hka hkb H3
    go_wp2_with fail
    refine H4.out.mono ?_
    rintro e w4 ⟨gc, A7, m7, c7, us, ec, r, rfl, hm7, hl7, hb7, ⟨hr, hg, hv, he⟩, hB4⟩
    dsimp only at hr hg hv he
    subst gc ec r
    clear t0 t1 t2 H4
    replace K0 := Lib.hid (K0.out.below hB4)
    replace HI := Lib.hid (HI.out.below hB4)
    replace HLb := Lib.hid (HLb.out.below hB4)
    have t0 := HI.out.x0
    have t1 := HI.out.x1
    have t2 := HI.out.x2
    have tf := HI.out.fz
    have i4 := HI.out.putL ga A7 m7 c7 ka
    have t3 := i4.x3
    have t4 := i4.x4
    have t5 := i4.x5
    have l7 := HI.out.limL hl7 ga A7 m7 c7 ka
    have H5 := scale_l gb Ab mb cb bs eb k _ (HI.out.limL HLb.out ga A7 m7 c7 ka) (by omega) (HI.out.tabL K0.out.tab ga A7 m7 c7 ka) HY.out.1 HY.out.2.1 (by have := HY.out.2.2.1; omega) (by have := HY.out.2.2.2; omega) (by omega) (by omega)
    rw [HKb.out] at H5
    replace H5 := Lib.hid H5
    have HR : Hid (Ib (World.put w4 w3.heap.size ga A7 m7 c7 ka) (w.heap.size + 1) false none 0 0 0 false none 0 0 0 ∧ Below w.heap.size w (World.put w4 w3.heap.size ga A7 m7 c7 ka)) := ⟨K0.out.2.1.other (Nat.ne_of_lt HU.out) _ _ _ _ _, below_put K0.out.all (by have := HU.out; omega) _ _ _ _ _⟩
    have HL7 : Hid (Lim (World.put w4 w3.heap.size ga A7 m7 c7 ka) A7 m7 c7 us ∧ Bare us ∧ val us = val as_) := ⟨l7, hb7, hv⟩
    replace HI := Lib.hid i4
    clear hl7 hb7 hv hB4 i4 l7 K0 HLb
    go_wp2_with fail
    refine H5.out.mono ?_
    rintro e w5 ⟨gc, A8, m8, c8, rs, ec, r, rfl, hm8, hl8, hb8, ⟨hr, hg, hv, he⟩, hB5⟩
    dsimp only at hr hg hv he
    subst gc ec r
    clear t0 t1 t2 t3 t4 t5 tf H5
    replace HI := Lib.hid (HI.out.below hB5)
    replace HL7 : Hid (Lim w5 A7 m7 c7 us ∧ Bare us ∧ val us = val as_) := ⟨HL7.out.1.below hB5, HL7.out.2⟩
    replace HR : Hid (Ib w5 (w.heap.size + 1) false none 0 0 0 false none 0 0 0 ∧ Below w.heap.size w w5) := ⟨HR.out.1.below hB5, HR.out.2.trans (hB5.mono HR.out.2.size)⟩
    have t3 := HI.out.x3
    have t4 := HI.out.x4
    have t5 := HI.out.x5
    have tf := HI.out.fz
    have i5 := HI.out.putU gb A8 m8 c8 kb
    have r5 := HR.out.1.otherU (Nat.ne_of_lt HU.out) gb A8 m8 c8 kb
    have z0 := i5.x0
    have z1 := i5.x1
    have z2 := i5.x2
    have z3 := i5.x3
    have z4 := i5.x4
    have z5 := i5.x5
    have y0 := r5.x0
    have y1 := r5.x1
    have y2 := r5.x2
    have y3 := r5.x3
    have y4 := r5.x4
    have y5 := r5.x5
    have yf := r5.fz
    have l7 := HI.out.limU HL7.out.1 gb A8 m8 c8 kb
    have l8 := HI.out.limU hl8 gb A8 m8 c8 kb
    have bl := below_putH HR.out.2 (b := w3.heap.size) (by have := HU.out; omega) gb A8 m8 c8 kb
    have Hfin : Hid (ITold w (ExpP g1 (val xs) e1 g2 (val ys) e2 (z : Int)) (.returned (.tuple #[.agg #[.bool ga, .slice A7 m7 c7, .int .i64 ka, .bool gb, .slice A8 m8 c8, .int .i64 kb], .int .i64 0])) (World.put6 (World.putH w5 w3.heap.size gb A8 m8 c8 kb) (w.heap.size + 1) ga A7 m7 c7 ka gb A8 m8 c8 kb)) :=
      ⟨ga, A7, m7, c7, us, ka, gb, A8, m8, c8, rs, kb, 0, rfl, by omega, by omega, r5.lim l7 _ _ _ _ _ _ _ _ _ _, r5.lim l8 _ _ _ _ _ _ _ _ _ _, HL7.out.2.1, hb8, below_put6 bl (Nat.le_succ _) _ _ _ _ _ _ _ _ _ _,
        Or.inl ⟨lo, hi, k, HQ.out.1, rfl, by rw [Int.toNat_natCast, HL7.out.2.2, hv]; exact ⟨_, _, c, d, _, _, HQ.out.2.1, HQ.out.2.2.1, HE.out.1, HE.out.2.1, HX.out.1, HX.out.2⟩⟩⟩
    clear HI HL7 HR HX HY HKb HQ HE HU hl8 hb8 hv hB5 i5 r5 l7 l8 bl
    go_wp2
    exact bodyPost_ret (v := .tuple #[.agg #[.bool ga, .slice A7 m7 c7, .int .i64 ka, .bool gb, .slice A8 m8 c8, .int .i64 kb], .int .i64 0]) (by simp [results, Tryz.results8, go_sem, y0, y1, y2, y3, y4, y5]) rfl Hfin.out
end Go.Proofs.YtijhdlkfihjbiaaGreatDoor
