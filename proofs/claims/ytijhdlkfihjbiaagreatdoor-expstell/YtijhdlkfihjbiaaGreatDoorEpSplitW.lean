/- The walk of exps.Split where an interval may be split (written by law_esplit.py). -/
import Derived.Test.YtijhdlkfihjbiaaGreatDoorEpSplitN
namespace Go.Proofs.YtijhdlkfihjbiaaGreatDoor
open Go.RowKit

theorem below_2v (w : World) (g1 : Bool) (A1 : Option Addr) (m1 c1 : Nat) (e1 : Int) (g2 : Bool) (A2 : Option Addr) (m2 c2 : Nat) (e2 : Int) :
    Below w.heap.size w ((w.alloc (.cells #[.bool g1, .slice A1 m1 c1, .int .i64 e1] 32)).alloc (.cells #[.bool g2, .slice A2 m2 c2, .int .i64 e2] 32)) ∧
    Bd ((w.alloc (.cells #[.bool g1, .slice A1 m1 c1, .int .i64 e1] 32)).alloc (.cells #[.bool g2, .slice A2 m2 c2, .int .i64 e2] 32)) w.heap.size 32 g1 A1 m1 c1 e1 ∧
    Bd ((w.alloc (.cells #[.bool g1, .slice A1 m1 c1, .int .i64 e1] 32)).alloc (.cells #[.bool g2, .slice A2 m2 c2, .int .i64 e2] 32)) (w.heap.size + 1) 32 g2 A2 m2 c2 e2 := by
  have b2 := Bd.new (w.alloc (.cells #[.bool g1, .slice A1 m1 c1, .int .i64 e1] 32)) 32 g2 A2 m2 c2 e2
  rw [World.size_alloc] at b2
  exact ⟨below_2w _ _ _, (Bd.new w _ _ _ _ _ _).alloc _, b2⟩

set_option maxHeartbeats 8000000 in
set_option maxRecDepth 20000 in
theorem split_neg (g1 : Bool) (A1 : Option Addr) (n1 c1 : Nat) (xs : List Nat) (e1 : Int) (g2 : Bool) (A2 : Option Addr) (n2 c2 : Nat) (ys : List Nat) (e2 : Int) (z : Nat) (w : World) (hA : Lim w A1 n1 c1 xs) (hB : Lim w A2 n2 c2 ys) (hn1 : n1 ≤ 4294967296) (hn2 : n2 ≤ 4294967296) (hT : Tab w) (lo hi : Dy) (hok : EndsOk g1 (val xs) e1 g2 (val ys) e2 lo hi) (hz : 8 ≤ z) (hz9 : z ≤ 8900) (hs : flU z lo < 0) :
    Calls Tryz.prog 12 #[.agg #[.bool g1, .slice A1 n1 c1, .int .i64 e1, .bool g2, .slice A2 n2 c2, .int .i64 e2], .int .i64 (z : Int)] w (SplitTold w (SplitP g1 (val xs) e1 g2 (val ys) e2 (z : Int))) := by
  have a1 := below1 w (.cells #[.bool g1, .slice A1 n1 c1, .int .i64 e1, .bool g2, .slice A2 n2 c2, .int .i64 e2] 34)
  have i1 := Ib.new w g1 A1 n1 c1 e1 g2 A2 n2 c2 e2
  have H1 := Lib.hid (ends_l g1 A1 n1 c1 xs e1 g2 A2 n2 c2 ys e2 _ (hA.below a1) (hB.below a1) hn1 hn2 (hT.below a1))
  have HT := Lib.hid (hT.below a1)
  have HS := Lib.hid a1
  have x0 := i1.x0
  have x1 := i1.x1
  have x2 := i1.x2
  have x3 := i1.x3
  have x4 := i1.x4
  have x5 := i1.x5
  have HO : Hid (∀ l h, EndsOk g1 (val xs) e1 g2 (val ys) e2 l h → l = lo ∧ h = hi) := fun l h hh => ⟨Option.some.inj (hh.1.symm.trans hok.1), Option.some.inj (hh.2.1.symm.trans hok.2.1)⟩
  have HK := Lib.hid hok
  have HG := Lib.hid hs
  have d1 : decide ((8900 : Int) < (z : Int)) = false := decide_eq_false (by omega)
  clear hA hB hT a1 i1 hok hs
  go_enter Tryz.func12, Tryz.ntmps12
  go_wp2_with fail
  refine H1.out.mono ?_
  rintro e w1 ⟨ga, Aa, ma, ca, zs, ea, gb, Ab, mb, cb, us, eb, ok, rfl, hl1, hl2, hb1, hb2, hB1, hq⟩
  obtain ⟨hok1, hq2⟩ : ok = true ∧ EndsOk g1 (val xs) e1 g2 (val ys) e2 ⟨ga, val zs, ea⟩ ⟨gb, val us, eb⟩ := by
    rcases hq with h | ⟨_, h2⟩
    · exact h
    · exact absurd ⟨_, _, HK.out⟩ h2
  subst hok1
  obtain ⟨hl, hh⟩ := HO.out _ _ hq2
  subst hl hh
  have hma : ma ≤ 400 := bare_le hl1 hb1 (by have := HK.out.2.2.1.1; dsimp only at this; omega)
  have hmb : mb ≤ 400 := bare_le hl2 hb2 (by have := HK.out.2.2.2.1.1; dsimp only at this; omega)
  obtain ⟨a2, i2, i3⟩ := below_2v w1 ga Aa ma ca ea gb Ab mb cb eb
  replace HS := Lib.hid ((HS.out.trans (hB1.mono HS.out.size)).trans (a2.mono (HS.out.trans (hB1.mono HS.out.size)).size))
  replace HT := Lib.hid ((HT.out.below hB1).below a2)
  have H2 := Lib.hid (ln2_told z _ HT.out hz (by omega))
  have HX : Hid (Lim ((w1.alloc (.cells #[.bool ga, .slice Aa ma ca, .int .i64 ea] 32)).alloc (.cells #[.bool gb, .slice Ab mb cb, .int .i64 eb] 32)) Aa ma ca zs ∧ Lim ((w1.alloc (.cells #[.bool ga, .slice Aa ma ca, .int .i64 ea] 32)).alloc (.cells #[.bool gb, .slice Ab mb cb, .int .i64 eb] 32)) Ab mb cb us) := ⟨hl1.below a2, hl2.below a2⟩
  have HY := Lib.hid (And.intro i2 i3)
  clear x0 x1 x2 x3 x4 x5 hl1 hl2 hb1 hb2 hB1 hq hq2 a2 i2 i3 H1 HO
  go_wp2_with fail
  refine H2.out.mono ?_
  rintro e w2 ⟨A3, m3, c3, ts, A4, m4, c4, vs, r, rfl, hm3, hm4, hl3, hl4, hB2, rfl, v1, v2⟩
  replace HS := Lib.hid (HS.out.trans (hB2.mono HS.out.size))
  replace HT := Lib.hid (HT.out.below hB2)
  replace HX : Hid (Lim w2 Aa ma ca zs ∧ Lim w2 Ab mb cb us) := ⟨HX.out.1.below hB2, HX.out.2.below hB2⟩
  replace HY : Hid (Bd w2 w1.heap.size 32 ga Aa ma ca ea ∧ Bd w2 (w1.heap.size + 1) 32 gb Ab mb cb eb) := ⟨HY.out.1.below hB2, HY.out.2.below hB2⟩
  have HLn : Hid (Lim w2 A3 m3 c3 ts ∧ Lim w2 A4 m4 c4 vs) := ⟨hl3, hl4⟩
  have HF : Hid (Fine ⟨ga, val zs, ea⟩ ∧ Fine ⟨gb, val us, eb⟩) := ⟨(mk_fine HK.out.1).1, (mk_fine HK.out.2.1).1⟩
  have HNm := Lib.hid (split_num hz hz9 HF.out.1 HF.out.2 HK.out.2.2.1 HK.out.2.2.2.1 HK.out.2.2.2.2 v1 v2)
  obtain ⟨Lz, hLz⟩ : ∃ Lz, flU z ⟨ga, val zs, ea⟩ = Lz := ⟨_, rfl⟩
  obtain ⟨Hz, hHz⟩ : ∃ Hz, clU z ⟨gb, val us, eb⟩ = Hz := ⟨_, rfl⟩
  have Hl : Hid ((if false = true then clU z ⟨ga, val zs, ea⟩ else flU z ⟨ga, val zs, ea⟩) = Lz) := hLz
  have Hh : Hid ((if true = true then clU z ⟨gb, val us, eb⟩ else flU z ⟨gb, val us, eb⟩) = Hz) := hHz
  obtain ⟨gh, hgh⟩ : ∃ gh, decide (Hz < 0) = gh := ⟨_, rfl⟩
  obtain ⟨Vl, hVl⟩ : ∃ V, Lz.natAbs = V := ⟨_, rfl⟩
  obtain ⟨Vh, hVh⟩ : ∃ V, Hz.natAbs = V := ⟨_, rfl⟩
  rw [hLz, hHz] at HNm
  have hgl : decide (Lz < 0) = true := by rw [← hLz]; exact decide_eq_true (by have := HG.out; omega)
  have Cl : Hid (∀ u, Below w2.heap.size w2 u → Calls Tryz.prog 36 #[.agg #[.bool ga, .slice Aa ma ca, .int .i64 ea], .int .i64 (z : Int), .bool false] u (WT u true Vl 100000)) := fun u hu =>
    (at_l false ⟨ga, val zs, ea⟩ Aa ma ca zs z Lz u (HX.out.1.below hu) (by omega) (HT.out.below hu) rfl (by omega) HF.out.1 HK.out.2.2.1 Hl).mono fun _ _ h => h.wt hgl hVl (Nat.le_refl _)
  have Ch : Hid (∀ u, Below w2.heap.size w2 u → Calls Tryz.prog 36 #[.agg #[.bool gb, .slice Ab mb cb, .int .i64 eb], .int .i64 (z : Int), .bool true] u (WT u gh Vh 100000)) := fun u hu =>
    (at_l true ⟨gb, val us, eb⟩ Ab mb cb us z Hz u (HX.out.2.below hu) (by omega) (HT.out.below hu) rfl (by omega) HF.out.2 HK.out.2.2.2.1 Hh).mono fun _ _ h => h.wt hgh hVh (Nat.le_refl _)
  have HW : Hid (∀ u, Below w2.heap.size w2 u → Six u w1.heap.size ga Aa ma ca ea (w1.heap.size + 1) gb Ab mb cb eb) := fun u hu => (HY.out.1.below hu).six (HY.out.2.below hu)
  have HL9 : Hid (flU z ⟨ga, val zs, ea⟩ = Lz ∧ decide (Lz < 0) = true ∧ decide (Hz < 0) = gh ∧ Lz.natAbs = Vl ∧ Hz.natAbs = Vh) := ⟨hLz, hgl, hgh, hVl, hVh⟩
  have cur := Lib.hid ((HoldV.start w2).below (below_drew _))
  have F1 := Lib.hid ((HoldV.start w2).one.below (below_drew _))
  have F2 := Lib.hid ((HoldV.start w2).two.below (below_drew _))
  clear hl3 hl4 hB2 v1 v2 H2 HX HY HF hLz hHz Hl Hh hgl hgh hVl hVh
  go_wp2_with fail
  go_cut [14, 15] from 18 (fun s14 s15 wx => ∃ (p r m1 c1 m2 c2 : Nat) (A1 A2 : Option Addr) (es1 es2 : List Nat), s14 = .pointer (some ⟨p, 0, none⟩) ∧ s15 = .pointer (some ⟨r, 0, none⟩) ∧ m1 ≤ 100000 ∧ m2 ≤ 100000 ∧ Hid (RelV w2 p true A1 m1 c1 Vl es1 r gh A2 m2 c2 Vh es2 wx))
  case first =>
    as_aux_lemma =>
    go_region_held3 (fun u => u.cell? ⟨w1.heap.size, 0, none⟩ = some (.bool ga) ∧ u.cell? ⟨w1.heap.size, 1, none⟩ = some (.slice Aa ma ca) ∧ u.cell? ⟨w1.heap.size, 2, none⟩ = some (.int .i64 ea) ∧ u.cell? ⟨w1.heap.size + 1, 0, none⟩ = some (.bool gb) ∧ u.cell? ⟨w1.heap.size + 1, 1, none⟩ = some (.slice Ab mb cb) ∧ u.cell? ⟨w1.heap.size + 1, 2, none⟩ = some (.int .i64 eb)) (first | (with_reducible exact HW.out _ cur.out.old) | (with_reducible exact HW.out _ F1.out.old) | (with_reducible exact HW.out _ F2.out.old) | (with_reducible exact HW.out _ (cur.out.a1 _)) | (with_reducible exact HW.out _ (cur.out.a2 _ _)) | (with_reducible exact HW.out _ (cur.out.at1 _ _ _ _)) | (with_reducible exact HW.out _ (cur.out.at2 _ _ _ _)) | (with_reducible exact HW.out _ (cur.out.at1a _ _ _ _ _)) | (with_reducible exact HW.out _ (cur.out.at12 _ _ _ _ _ _ _ _)) | (with_reducible exact HW.out _ (cur.out.at21 _ _ _ _ _ _ _ _)))
      (first
        | (go_at_call 36; (with_reducible refine (Cl.out _ (by first | (with_reducible exact cur.out.old) | (with_reducible exact F1.out.old) | (with_reducible exact F2.out.old) | (with_reducible exact cur.out.a1 _) | (with_reducible exact cur.out.a2 _ _))).mono ?_); rintro e u1 ⟨A1, m1, c1, es1, rfl, hm1, hl1, hb1, hv1, hB1⟩; (first | (with_reducible (replace L2 := Lib.hid (L2.out.below hB1))) | (with_reducible (replace L2 := Lib.hid ((L2.out.below (below1 _ (.cells #[.bool false, .slice none 0 0] 69))).below hB1))) | (with_reducible (replace L2 := Lib.hid ((L2.out.below (below_2w _ (.cells #[.bool false, .slice none 0 0] 69) (.cells #[.bool false, .slice none 0 0] 69))).below hB1))) | skip); (first | (with_reducible (replace cur := Lib.hid (cur.out.below hB1))) | (with_reducible (replace cur := Lib.hid (cur.out.one.below hB1))) | (with_reducible (replace cur := Lib.hid (cur.out.two.below hB1))) | (with_reducible (replace cur := Lib.hid (F1.out.below hB1))) | (with_reducible (replace cur := Lib.hid (F2.out.below hB1)))); have L1 : Hid (Mv u1 Vl A1 m1 c1 es1) := ⟨hl1, hb1, hv1⟩; clear hl1 hb1 hv1 hB1; (first | (have kx := cur.out.first; have x0 := kx.c0; have x1 := kx.c1; have xf := kx.fz; have xl := kx.lt; clear kx) | skip); (first | (have ky := cur.out.second; have y0 := ky.1.c0; have y1 := ky.1.c1; have yf := ky.1.fz; have yl := ky.1.lt; have yx := ky.2; clear ky) | skip))
        | (go_at_call 36; (with_reducible refine (Ch.out _ (by first | (with_reducible exact cur.out.old) | (with_reducible exact F1.out.old) | (with_reducible exact F2.out.old) | (with_reducible exact cur.out.a1 _) | (with_reducible exact cur.out.a2 _ _))).mono ?_); rintro e u2 ⟨A2, m2, c2, es2, rfl, hm2, hl2, hb2, hv2, hB2⟩; (first | (with_reducible (replace L1 := Lib.hid (L1.out.below hB2))) | (with_reducible (replace L1 := Lib.hid ((L1.out.below (below1 _ (.cells #[.bool false, .slice none 0 0] 69))).below hB2))) | (with_reducible (replace L1 := Lib.hid ((L1.out.below (below_2w _ (.cells #[.bool false, .slice none 0 0] 69) (.cells #[.bool false, .slice none 0 0] 69))).below hB2))) | skip); (first | (with_reducible (replace cur := Lib.hid (cur.out.below hB2))) | (with_reducible (replace cur := Lib.hid (cur.out.one.below hB2))) | (with_reducible (replace cur := Lib.hid (cur.out.two.below hB2))) | (with_reducible (replace cur := Lib.hid (F1.out.below hB2))) | (with_reducible (replace cur := Lib.hid (F2.out.below hB2)))); have L2 : Hid (Mv u2 Vh A2 m2 c2 es2) := ⟨hl2, hb2, hv2⟩; clear hl2 hb2 hv2 hB2; (first | (have kx := cur.out.first; have x0 := kx.c0; have x1 := kx.c1; have xf := kx.fz; have xl := kx.lt; clear kx) | skip); (first | (have ky := cur.out.second; have y0 := ky.1.c0; have y1 := ky.1.c1; have yf := ky.1.fz; have yl := ky.1.lt; have yx := ky.2; clear ky) | skip)))
    all_goals (go_wp2_with fail)
    all_goals go_meet
    all_goals (refine ⟨_, _, m1, c1, m2, c2, A1, A2, es1, es2, rfl, rfl, by omega, by omega, ?_⟩)
    all_goals (first
      | (have t := RelV.new2 (g1 := true) (g2 := gh) cur.out L1.out L2.out; (with_reducible exact Lib.hid t))
      | (have t := (RelV.new2 (g1 := gh) (g2 := true) cur.out L2.out L1.out).swap; (with_reducible exact Lib.hid t))
      | (have t := RelV.new1 (g1 := true) (g2 := gh) cur.out L1.out L2.out; (with_reducible exact Lib.hid t))
      | (have t := (RelV.new1 (g1 := gh) (g2 := true) cur.out L2.out L1.out).swap; (with_reducible exact Lib.hid t))
      | (have t := (RelV.new0 (g1 := true) (g2 := gh) cur.out L1.out L2.out).1; (with_reducible exact Lib.hid t))
      | (have t := (RelV.new0 (g1 := true) (g2 := gh) cur.out L1.out L2.out).2; (with_reducible exact Lib.hid t))
      | (have t := (RelV.new0 (g1 := gh) (g2 := true) cur.out L2.out L1.out).1.swap; (with_reducible exact Lib.hid t))
      | (have t := (RelV.new0 (g1 := gh) (g2 := true) cur.out L2.out L1.out).2.swap; (with_reducible exact Lib.hid t)))
  case rest =>
    obtain ⟨u3, rfl⟩ : ∃ u3, u3 = wc := ⟨_, rfl⟩
    obtain ⟨p, q, ml, cl, mh, ch, Al, Ah, sl, sh_, rfl, rfl, hml, hmh, HR⟩ := hcut
    have hB3 := HR.out.1
    replace HS := Lib.hid (HS.out.trans (hB3.mono HS.out.size))
    replace HT := Lib.hid (HT.out.below hB3)
    replace HLn : Hid (Lim u3 A3 m3 c3 ts ∧ Lim u3 A4 m4 c4 vs) := ⟨HLn.out.1.below hB3, HLn.out.2.below hB3⟩
    obtain ⟨k, a, b, hw, hk9, sa, sb, n0, n1, nn⟩ := HNm.out
    obtain ⟨K, hK⟩ : ∃ K, k.natAbs = K := ⟨_, rfl⟩
    rw [hK] at nn hk9
    obtain ⟨kq, kk, ea1, eb1⟩ := nn.1 (by have := of_decide_eq_true HL9.out.2.1; omega)
    rw [HL9.out.2.2.2.1] at kq
    have HP : Hid (EpW z ⟨ga, val zs, ea⟩ ⟨gb, val us, eb⟩ k a b (val ts) (val vs)) := hw
    have HN : Hid ((blen a ≤ 64 * 140 ∧ blen b ≤ 64 * 140) ∧ k.natAbs = K ∧ Lz - k * (val ts : Int) = (a : Int) ∧ Hz - k * (val vs : Int) = (b : Int)) := ⟨⟨sa, sb⟩, hK, ea1, eb1⟩
    have H4 := goes_tt Al ml cl sl A3 m3 c3 ts K u3 HR.out.2.2.1.1 HLn.out.1 (by omega) (by omega) HT.out (by exact n0) (by show _ = _; rw [HR.out.2.2.1.2.2]; exact kq) (by omega)
    rw [kk] at H4
    replace H4 := Lib.hid H4
    have p0 := HR.out.2.1.c0
    have p1 := HR.out.2.1.c1
    have hkk : k.natAbs ≤ 100000 := by rw [hK]; omega
    clear hB3 cur F1 F2 Cl Ch HW hw sa sb n0 n1 nn ea1 eb1 kq kk hK HNm
    go_wp2_with fail
    refine H4.out.mono ?_
    rintro e w4 ⟨rfl, hB4⟩
    clear p0 p1 H4
    replace HS := Lib.hid (HS.out.trans (hB4.mono HS.out.size))
    replace HR := Lib.hid (HR.out.below hB4)
    replace HLn : Hid (Lim w4 A3 m3 c3 ts ∧ Lim w4 A4 m4 c4 vs) := ⟨HLn.out.1.below hB4, HLn.out.2.below hB4⟩
    clear hB4
    obtain ⟨gx, hgx⟩ : ∃ gx, decide (k * (val ts : Int) < 0) = gx := ⟨_, rfl⟩
    obtain ⟨gy, hgy⟩ : ∃ gy, decide (k * (val vs : Int) < 0) = gy := ⟨_, rfl⟩
    obtain ⟨Vx, hVx⟩ : ∃ V, (k * (val ts : Int)).natAbs = V := ⟨_, rfl⟩
    obtain ⟨Vy, hVy⟩ : ∃ V, (k * (val vs : Int)).natAbs = V := ⟨_, rfl⟩
    have eb0 : decide ((b : Int) < 0) = false := decide_eq_false (by omega)
    have ea0 : decide ((a : Int) < 0) = false := decide_eq_false (by omega)
    have T1 : Hid (∀ u, Below w4.heap.size w4 u → Calls Tryz.prog 39 #[.slice A3 m3 c3, .int .i64 k] u (WT u gx Vx 300)) := fun u hu =>
      (etimes_l A3 m3 c3 ts k _ u (HLn.out.1.below hu) (by omega) hkk rfl).mono fun _ _ h => h.wt hgx hVx (by omega)
    have T2 : Hid (∀ u, Below w4.heap.size w4 u → Calls Tryz.prog 39 #[.slice A4 m4 c4, .int .i64 k] u (WT u gy Vy 300)) := fun u hu =>
      (etimes_l A4 m4 c4 vs k _ u (HLn.out.2.below hu) (by omega) hkk rfl).mono fun _ _ h => h.wt hgy hVy (by omega)
    have G1 : Hid (∀ u A m c es, Below w4.heap.size w4 u → Mv u Vx A m c es → m ≤ 300 → Calls Tryz.prog 38 #[.agg #[.bool true, .slice Al ml cl], .agg #[.bool gx, .slice A m c]] u (WT u false a 100001)) := fun u A m c es hu hm hm9 => by
      have h := less_l Lz (k * (val ts : Int)) Al ml cl sl A m c es u (HR.out.2.2.1.1.below hu) hm.1 (by omega) (by omega) (by rw [HR.out.2.2.1.2.2, HL9.out.2.2.2.1]) (by rw [hm.2.2, hVx])
      rw [HL9.out.2.1, hgx] at h
      refine h.mono fun _ _ h => h.wt (by rw [HN.out.2.2.1]; exact ea0) (by rw [HN.out.2.2.1]; exact Int.natAbs_natCast a) (by omega)
    have G2 : Hid (∀ u A m c es, Below w4.heap.size w4 u → Mv u Vy A m c es → m ≤ 300 → Calls Tryz.prog 38 #[.agg #[.bool gh, .slice Ah mh ch], .agg #[.bool gy, .slice A m c]] u (WT u false b 100001)) := fun u A m c es hu hm hm9 => by
      have h := less_l Hz (k * (val vs : Int)) Ah mh ch sh_ A m c es u (HR.out.2.2.2.2.1.below hu) hm.1 (by omega) (by omega) (by rw [HR.out.2.2.2.2.2.2, HL9.out.2.2.2.2]) (by rw [hm.2.2, hVy])
      rw [HL9.out.2.2.1, hgy] at h
      refine h.mono fun _ _ h => h.wt (by rw [HN.out.2.2.2]; exact eb0) (by rw [HN.out.2.2.2]; exact Int.natAbs_natCast b) (by omega)
    have HV : Hid (∀ u, Below w4.heap.size w4 u → u.cell? ⟨p, 0, none⟩ = some (.bool true) ∧ u.cell? ⟨p, 1, none⟩ = some (.slice Al ml cl) ∧ u.cell? ⟨q, 0, none⟩ = some (.bool gh) ∧ u.cell? ⟨q, 1, none⟩ = some (.slice Ah mh ch)) := fun u hu => ⟨(HR.out.2.1.below hu).c0, (HR.out.2.1.below hu).c1, (HR.out.2.2.2.1.below hu).c0, (HR.out.2.2.2.1.below hu).c1⟩
    have cur := Lib.hid (below_drew w4)
    have hfd : ∀ (g : Bool) (A : Option Addr) (n c : Nat) (u : World), (Instr.field 69 (.agg #[.bool g, .slice A n c]) 1).run Tryz.prog u = .ok (.slice A n c) u := fun _ _ _ _ _ => by kernel_rfl
    have HA9 : Hid (blen a ≤ 64 * 140 ∧ blen b ≤ 64 * 140) := HN.out.1
    clear hgx hgy hVx hVy ea0 eb0 HLn HR HN HL9
    go_wp2_with fail
    go_cut [5, 6] from 18 (fun s5 s6 wx => ∃ (m1 c1 m2 c2 : Nat) (A1 A2 : Option Addr) (es1 es2 : List Nat), s5 = .slice A1 m1 c1 ∧ s6 = .slice A2 m2 c2 ∧ m1 ≤ 140 ∧ m2 ≤ 140 ∧ Hid (Below w4.heap.size w4 wx ∧ Mv wx a A1 m1 c1 es1 ∧ Mv wx b A2 m2 c2 es2))
    case first =>
      as_aux_lemma =>
      go_region_held3 (fun u => u.cell? ⟨p, 0, none⟩ = some (.bool true) ∧ u.cell? ⟨p, 1, none⟩ = some (.slice Al ml cl) ∧ u.cell? ⟨q, 0, none⟩ = some (.bool gh) ∧ u.cell? ⟨q, 1, none⟩ = some (.slice Ah mh ch)) (with_reducible exact HV.out _ cur.out)
        (first
          | (go_at_call 39; (with_reducible refine (T1.out _ cur.out).mono ?_); rintro e u1 ⟨Ax, mx, cx, sx, rfl, hmx, hlx, hbx, hvx, hB⟩; replace cur := Lib.hid (cur.out.trans (hB.mono cur.out.size)); (first | (with_reducible (replace M2 := Lib.hid (M2.out.below hB))) | skip); (first | (with_reducible (replace R1 := Lib.hid (R1.out.below hB))) | skip); (first | (with_reducible (replace R2 := Lib.hid (R2.out.below hB))) | skip); have M1 : Hid (Mv u1 Vx Ax mx cx sx) := ⟨hlx, hbx, hvx⟩; clear hlx hbx hvx hB)
          | (go_at_call 39; (with_reducible refine (T2.out _ cur.out).mono ?_); rintro e u2 ⟨Ay, my, cy, sy, rfl, hmy, hly, hby, hvy, hB⟩; replace cur := Lib.hid (cur.out.trans (hB.mono cur.out.size)); (first | (with_reducible (replace M1 := Lib.hid (M1.out.below hB))) | skip); (first | (with_reducible (replace R1 := Lib.hid (R1.out.below hB))) | skip); (first | (with_reducible (replace R2 := Lib.hid (R2.out.below hB))) | skip); have M2 : Hid (Mv u2 Vy Ay my cy sy) := ⟨hly, hby, hvy⟩; clear hly hby hvy hB)
          | (go_at_call 38; (with_reducible refine (G1.out _ Ax mx cx sx cur.out M1.out hmx).mono ?_); rintro e u3' ⟨Ap, mp, cp, sp, rfl, hmp, hlp, hbp, hvp, hB⟩; replace cur := Lib.hid (cur.out.trans (hB.mono cur.out.size)); (first | (with_reducible (replace M1 := Lib.hid (M1.out.below hB))) | skip); (first | (with_reducible (replace M2 := Lib.hid (M2.out.below hB))) | skip); (first | (with_reducible (replace R2 := Lib.hid (R2.out.below hB))) | skip); have R1 : Hid (Mv u3' a Ap mp cp sp) := ⟨hlp, hbp, hvp⟩; clear hlp hbp hvp hB)
          | (go_at_call 38; (with_reducible refine (G2.out _ Ay my cy sy cur.out M2.out hmy).mono ?_); rintro e u4' ⟨Aq, mq, cq, sq, rfl, hmq, hlq, hbq, hvq, hB⟩; replace cur := Lib.hid (cur.out.trans (hB.mono cur.out.size)); (first | (with_reducible (replace M1 := Lib.hid (M1.out.below hB))) | skip); (first | (with_reducible (replace M2 := Lib.hid (M2.out.below hB))) | skip); (first | (with_reducible (replace R1 := Lib.hid (R1.out.below hB))) | skip); have R2 : Hid (Mv u4' b Aq mq cq sq) := ⟨hlq, hbq, hvq⟩; clear hlq hbq hvq hB))
      all_goals (go_wp2_with fail)
      all_goals go_meet
      all_goals (exact ⟨mp, cp, mq, cq, Ap, Aq, sp, sq, rfl, rfl, bare_le R1.out.1 R1.out.2.1 (by rw [R1.out.2.2]; exact HA9.out.1), bare_le R2.out.1 R2.out.2.1 (by rw [R2.out.2.2]; exact HA9.out.2), Lib.hid ⟨cur.out, R1.out, R2.out⟩⟩)
    case rest =>
      clear cur T1 T2 G1 G2 HV hfd
      obtain ⟨u5, rfl⟩ : ∃ u5, u5 = wc := ⟨_, rfl⟩
      obtain ⟨ma', ca', mb', cb', Ap, Aq, sp, sq, rfl, rfl, hmp, hmq, HR⟩ := hcut
      replace HS := Lib.hid (HS.out.trans (HR.out.1.mono HS.out.size))
      obtain ⟨Pz, hPz⟩ : ∃ P, 2 ^ z = P := ⟨_, rfl⟩
      have HM : Hid (Mv u5 a Ap ma' ca' sp ∧ Mv u5 b Aq mb' cb' sq) := HR.out.2
      have H5 := Lib.hid (of_any 1 (by decide) u5)
      have HPz := Lib.hid hPz
      clear HR hPz
      go_wp2_with fail
      refine H5.out.mono ?_
      rintro e w6 ⟨A6, m6, c6, s6, rfl, hm6, hl6, hb6, hv6, hB6⟩
      replace HS := Lib.hid (HS.out.trans (hB6.mono HS.out.size))
      replace HM : Hid (Mv w6 a Ap ma' ca' sp ∧ Mv w6 b Aq mb' cb' sq) := ⟨HM.out.1.below hB6, HM.out.2.below hB6⟩
      have H6 := shl_all A6 m6 c6 s6 w6 hl6 (by omega) z (Or.inl (by rw [hv6]; have : blen 1 = 1 := rfl; omega))
      rw [hv6, Nat.one_mul, HPz.out] at H6
      replace H6 := Lib.hid H6
      clear hl6 hb6 hv6 hB6 H5
      go_wp2_with fail
      refine H6.out.mono ?_
      rintro e w7 ⟨A7, m7, c7, s7, rfl, hm7, hl7, hb7, hv7, hB7⟩
      replace HS := Lib.hid (HS.out.trans (hB7.mono HS.out.size))
      replace HM : Hid (Mv w7 a Ap ma' ca' sp ∧ Mv w7 b Aq mb' cb' sq) := ⟨HM.out.1.below hB7, HM.out.2.below hB7⟩
      obtain ⟨cv, hcv⟩ : ∃ cv, cmpZ b Pz = cv := ⟨_, rfl⟩
      have H7 := Lib.hid (cmp_b cv Aq mb' cb' sq A7 m7 c7 s7 w7 HM.out.2.1 hl7 (by omega) (by omega) (by show _ = _; rw [HM.out.2.2.2, hv7]; exact hcv))
      have HSp : Hid (SplitOk g1 (val xs) e1 g2 (val ys) e2 (z : Int) ⟨ga, val zs, ea⟩ ⟨gb, val us, eb⟩) := ⟨HK.out.1, HK.out.2.1, HK.out.2.2.1, HK.out.2.2.2.1, HK.out.2.2.2.2, by omega, by omega⟩
      clear hl7 hb7 hv7 hB7 H6 HK HA9
      by_cases hb : b ≤ Pz
      · have dc : decide ((0 : Int) < cv) = false := decide_eq_false (by rw [← hcv]; have := cmpZ_down hb; omega)
        have Hb := Lib.hid hb
        clear hcv hb
        go_wp2_with fail
        refine H7.out.mono ?_
        rintro e w8 ⟨rfl, hB8⟩
        have Hfin : Hid (SplitTold w (SplitP g1 (val xs) e1 g2 (val ys) e2 (z : Int)) (.returned (.tuple #[.int .i64 k, .slice Ap ma' ca', .slice Aq mb' cb', .int .i64 0])) w8) :=
          ⟨k, Ap, ma', ca', sp, Aq, mb', cb', sq, 0, rfl, by omega, by omega, HM.out.1.1.below hB8, HM.out.2.1.below hB8, HS.out.trans (hB8.mono HS.out.size), Or.inl ⟨_, _, _, _, HSp.out, by rw [Int.toNat_natCast, HM.out.1.2.2, HM.out.2.2.2]; exact HP.out, by rw [Int.toNat_natCast, HM.out.2.2.2, HPz.out]; exact Hb.out, rfl⟩⟩
        clear H7 hB8 HM HS HP HSp Hb HPz HT HG
        go_wp2
        exact bodyPost_ret (v := .tuple #[.int .i64 k, .slice Ap ma' ca', .slice Aq mb' cb', .int .i64 0]) (by simp [results, Tryz.results12, go_sem]) rfl Hfin.out
      · have dc : decide ((0 : Int) < cv) = true := decide_eq_true (by rw [← hcv, cmpZ_gt (by omega)]; decide)
        have Hb := Lib.hid hb
        clear hcv hb
        go_wp2_with fail
        refine H7.out.mono ?_
        rintro e w8 ⟨rfl, hB8⟩
        have Hfin := Lib.hid (split_nil (g1 := g1) (V1 := val xs) (e1 := e1) (g2 := g2) (V2 := val ys) (e2 := e2) (s := (z : Int)) (Or.inr ⟨_, _, HSp.out, k, a, b, _, _, by rw [Int.toNat_natCast]; exact HP.out, by rw [Int.toNat_natCast, HPz.out]; have := Hb.out; omega⟩) (HS.out.trans (hB8.mono HS.out.size)))
        clear H7 hB8 HM HS HP HSp Hb HPz HT HG
        go_wp2
        exact bodyPost_ret (v := .tuple #[.int .i64 0, .slice none 0 0, .slice none 0 0, .int .i64 1]) (by simp [results, Tryz.results12, go_sem]) rfl Hfin.out

set_option maxHeartbeats 8000000 in
set_option maxRecDepth 20000 in
theorem split_pos (g1 : Bool) (A1 : Option Addr) (n1 c1 : Nat) (xs : List Nat) (e1 : Int) (g2 : Bool) (A2 : Option Addr) (n2 c2 : Nat) (ys : List Nat) (e2 : Int) (z : Nat) (w : World) (hA : Lim w A1 n1 c1 xs) (hB : Lim w A2 n2 c2 ys) (hn1 : n1 ≤ 4294967296) (hn2 : n2 ≤ 4294967296) (hT : Tab w) (lo hi : Dy) (hok : EndsOk g1 (val xs) e1 g2 (val ys) e2 lo hi) (hz : 8 ≤ z) (hz9 : z ≤ 8900) (hs : 0 ≤ flU z lo) :
    Calls Tryz.prog 12 #[.agg #[.bool g1, .slice A1 n1 c1, .int .i64 e1, .bool g2, .slice A2 n2 c2, .int .i64 e2], .int .i64 (z : Int)] w (SplitTold w (SplitP g1 (val xs) e1 g2 (val ys) e2 (z : Int))) := by
  have a1 := below1 w (.cells #[.bool g1, .slice A1 n1 c1, .int .i64 e1, .bool g2, .slice A2 n2 c2, .int .i64 e2] 34)
  have i1 := Ib.new w g1 A1 n1 c1 e1 g2 A2 n2 c2 e2
  have H1 := Lib.hid (ends_l g1 A1 n1 c1 xs e1 g2 A2 n2 c2 ys e2 _ (hA.below a1) (hB.below a1) hn1 hn2 (hT.below a1))
  have HT := Lib.hid (hT.below a1)
  have HS := Lib.hid a1
  have x0 := i1.x0
  have x1 := i1.x1
  have x2 := i1.x2
  have x3 := i1.x3
  have x4 := i1.x4
  have x5 := i1.x5
  have HO : Hid (∀ l h, EndsOk g1 (val xs) e1 g2 (val ys) e2 l h → l = lo ∧ h = hi) := fun l h hh => ⟨Option.some.inj (hh.1.symm.trans hok.1), Option.some.inj (hh.2.1.symm.trans hok.2.1)⟩
  have HK := Lib.hid hok
  have HG := Lib.hid hs
  have d1 : decide ((8900 : Int) < (z : Int)) = false := decide_eq_false (by omega)
  clear hA hB hT a1 i1 hok hs
  go_enter Tryz.func12, Tryz.ntmps12
  go_wp2_with fail
  refine H1.out.mono ?_
  rintro e w1 ⟨ga, Aa, ma, ca, zs, ea, gb, Ab, mb, cb, us, eb, ok, rfl, hl1, hl2, hb1, hb2, hB1, hq⟩
  obtain ⟨hok1, hq2⟩ : ok = true ∧ EndsOk g1 (val xs) e1 g2 (val ys) e2 ⟨ga, val zs, ea⟩ ⟨gb, val us, eb⟩ := by
    rcases hq with h | ⟨_, h2⟩
    · exact h
    · exact absurd ⟨_, _, HK.out⟩ h2
  subst hok1
  obtain ⟨hl, hh⟩ := HO.out _ _ hq2
  subst hl hh
  have hma : ma ≤ 400 := bare_le hl1 hb1 (by have := HK.out.2.2.1.1; dsimp only at this; omega)
  have hmb : mb ≤ 400 := bare_le hl2 hb2 (by have := HK.out.2.2.2.1.1; dsimp only at this; omega)
  obtain ⟨a2, i2, i3⟩ := below_2v w1 ga Aa ma ca ea gb Ab mb cb eb
  replace HS := Lib.hid ((HS.out.trans (hB1.mono HS.out.size)).trans (a2.mono (HS.out.trans (hB1.mono HS.out.size)).size))
  replace HT := Lib.hid ((HT.out.below hB1).below a2)
  have H2 := Lib.hid (ln2_told z _ HT.out hz (by omega))
  have HX : Hid (Lim ((w1.alloc (.cells #[.bool ga, .slice Aa ma ca, .int .i64 ea] 32)).alloc (.cells #[.bool gb, .slice Ab mb cb, .int .i64 eb] 32)) Aa ma ca zs ∧ Lim ((w1.alloc (.cells #[.bool ga, .slice Aa ma ca, .int .i64 ea] 32)).alloc (.cells #[.bool gb, .slice Ab mb cb, .int .i64 eb] 32)) Ab mb cb us) := ⟨hl1.below a2, hl2.below a2⟩
  have HY := Lib.hid (And.intro i2 i3)
  clear x0 x1 x2 x3 x4 x5 hl1 hl2 hb1 hb2 hB1 hq hq2 a2 i2 i3 H1 HO
  go_wp2_with fail
  refine H2.out.mono ?_
  rintro e w2 ⟨A3, m3, c3, ts, A4, m4, c4, vs, r, rfl, hm3, hm4, hl3, hl4, hB2, rfl, v1, v2⟩
  replace HS := Lib.hid (HS.out.trans (hB2.mono HS.out.size))
  replace HT := Lib.hid (HT.out.below hB2)
  replace HX : Hid (Lim w2 Aa ma ca zs ∧ Lim w2 Ab mb cb us) := ⟨HX.out.1.below hB2, HX.out.2.below hB2⟩
  replace HY : Hid (Bd w2 w1.heap.size 32 ga Aa ma ca ea ∧ Bd w2 (w1.heap.size + 1) 32 gb Ab mb cb eb) := ⟨HY.out.1.below hB2, HY.out.2.below hB2⟩
  have HLn : Hid (Lim w2 A3 m3 c3 ts ∧ Lim w2 A4 m4 c4 vs) := ⟨hl3, hl4⟩
  have HF : Hid (Fine ⟨ga, val zs, ea⟩ ∧ Fine ⟨gb, val us, eb⟩) := ⟨(mk_fine HK.out.1).1, (mk_fine HK.out.2.1).1⟩
  have HNm := Lib.hid (split_num hz hz9 HF.out.1 HF.out.2 HK.out.2.2.1 HK.out.2.2.2.1 HK.out.2.2.2.2 v1 v2)
  obtain ⟨Lz, hLz⟩ : ∃ Lz, flU z ⟨ga, val zs, ea⟩ = Lz := ⟨_, rfl⟩
  obtain ⟨Hz, hHz⟩ : ∃ Hz, clU z ⟨gb, val us, eb⟩ = Hz := ⟨_, rfl⟩
  have Hl : Hid ((if false = true then clU z ⟨ga, val zs, ea⟩ else flU z ⟨ga, val zs, ea⟩) = Lz) := hLz
  have Hh : Hid ((if true = true then clU z ⟨gb, val us, eb⟩ else flU z ⟨gb, val us, eb⟩) = Hz) := hHz
  obtain ⟨gh, hgh⟩ : ∃ gh, decide (Hz < 0) = gh := ⟨_, rfl⟩
  obtain ⟨Vl, hVl⟩ : ∃ V, Lz.natAbs = V := ⟨_, rfl⟩
  obtain ⟨Vh, hVh⟩ : ∃ V, Hz.natAbs = V := ⟨_, rfl⟩
  rw [hLz, hHz] at HNm
  have hgl : decide (Lz < 0) = false := by rw [← hLz]; exact decide_eq_false (by have := HG.out; omega)
  have Cl : Hid (∀ u, Below w2.heap.size w2 u → Calls Tryz.prog 36 #[.agg #[.bool ga, .slice Aa ma ca, .int .i64 ea], .int .i64 (z : Int), .bool false] u (WT u false Vl 100000)) := fun u hu =>
    (at_l false ⟨ga, val zs, ea⟩ Aa ma ca zs z Lz u (HX.out.1.below hu) (by omega) (HT.out.below hu) rfl (by omega) HF.out.1 HK.out.2.2.1 Hl).mono fun _ _ h => h.wt hgl hVl (Nat.le_refl _)
  have Ch : Hid (∀ u, Below w2.heap.size w2 u → Calls Tryz.prog 36 #[.agg #[.bool gb, .slice Ab mb cb, .int .i64 eb], .int .i64 (z : Int), .bool true] u (WT u gh Vh 100000)) := fun u hu =>
    (at_l true ⟨gb, val us, eb⟩ Ab mb cb us z Hz u (HX.out.2.below hu) (by omega) (HT.out.below hu) rfl (by omega) HF.out.2 HK.out.2.2.2.1 Hh).mono fun _ _ h => h.wt hgh hVh (Nat.le_refl _)
  have HW : Hid (∀ u, Below w2.heap.size w2 u → Six u w1.heap.size ga Aa ma ca ea (w1.heap.size + 1) gb Ab mb cb eb) := fun u hu => (HY.out.1.below hu).six (HY.out.2.below hu)
  have HL9 : Hid (flU z ⟨ga, val zs, ea⟩ = Lz ∧ decide (Lz < 0) = false ∧ decide (Hz < 0) = gh ∧ Lz.natAbs = Vl ∧ Hz.natAbs = Vh) := ⟨hLz, hgl, hgh, hVl, hVh⟩
  have cur := Lib.hid ((HoldV.start w2).below (below_drew _))
  have F1 := Lib.hid ((HoldV.start w2).one.below (below_drew _))
  have F2 := Lib.hid ((HoldV.start w2).two.below (below_drew _))
  clear hl3 hl4 hB2 v1 v2 H2 HX HY HF hLz hHz Hl Hh hgl hgh hVl hVh
  go_wp2_with fail
  go_cut [14, 15] from 18 (fun s14 s15 wx => ∃ (p r m1 c1 m2 c2 : Nat) (A1 A2 : Option Addr) (es1 es2 : List Nat), s14 = .pointer (some ⟨p, 0, none⟩) ∧ s15 = .pointer (some ⟨r, 0, none⟩) ∧ m1 ≤ 100000 ∧ m2 ≤ 100000 ∧ Hid (RelV w2 p false A1 m1 c1 Vl es1 r gh A2 m2 c2 Vh es2 wx))
  case first =>
    as_aux_lemma =>
    go_region_held3 (fun u => u.cell? ⟨w1.heap.size, 0, none⟩ = some (.bool ga) ∧ u.cell? ⟨w1.heap.size, 1, none⟩ = some (.slice Aa ma ca) ∧ u.cell? ⟨w1.heap.size, 2, none⟩ = some (.int .i64 ea) ∧ u.cell? ⟨w1.heap.size + 1, 0, none⟩ = some (.bool gb) ∧ u.cell? ⟨w1.heap.size + 1, 1, none⟩ = some (.slice Ab mb cb) ∧ u.cell? ⟨w1.heap.size + 1, 2, none⟩ = some (.int .i64 eb)) (first | (with_reducible exact HW.out _ cur.out.old) | (with_reducible exact HW.out _ F1.out.old) | (with_reducible exact HW.out _ F2.out.old) | (with_reducible exact HW.out _ (cur.out.a1 _)) | (with_reducible exact HW.out _ (cur.out.a2 _ _)) | (with_reducible exact HW.out _ (cur.out.at1 _ _ _ _)) | (with_reducible exact HW.out _ (cur.out.at2 _ _ _ _)) | (with_reducible exact HW.out _ (cur.out.at1a _ _ _ _ _)) | (with_reducible exact HW.out _ (cur.out.at12 _ _ _ _ _ _ _ _)) | (with_reducible exact HW.out _ (cur.out.at21 _ _ _ _ _ _ _ _)))
      (first
        | (go_at_call 36; (with_reducible refine (Cl.out _ (by first | (with_reducible exact cur.out.old) | (with_reducible exact F1.out.old) | (with_reducible exact F2.out.old) | (with_reducible exact cur.out.a1 _) | (with_reducible exact cur.out.a2 _ _))).mono ?_); rintro e u1 ⟨A1, m1, c1, es1, rfl, hm1, hl1, hb1, hv1, hB1⟩; (first | (with_reducible (replace L2 := Lib.hid (L2.out.below hB1))) | (with_reducible (replace L2 := Lib.hid ((L2.out.below (below1 _ (.cells #[.bool false, .slice none 0 0] 69))).below hB1))) | (with_reducible (replace L2 := Lib.hid ((L2.out.below (below_2w _ (.cells #[.bool false, .slice none 0 0] 69) (.cells #[.bool false, .slice none 0 0] 69))).below hB1))) | skip); (first | (with_reducible (replace cur := Lib.hid (cur.out.below hB1))) | (with_reducible (replace cur := Lib.hid (cur.out.one.below hB1))) | (with_reducible (replace cur := Lib.hid (cur.out.two.below hB1))) | (with_reducible (replace cur := Lib.hid (F1.out.below hB1))) | (with_reducible (replace cur := Lib.hid (F2.out.below hB1)))); have L1 : Hid (Mv u1 Vl A1 m1 c1 es1) := ⟨hl1, hb1, hv1⟩; clear hl1 hb1 hv1 hB1; (first | (have kx := cur.out.first; have x0 := kx.c0; have x1 := kx.c1; have xf := kx.fz; have xl := kx.lt; clear kx) | skip); (first | (have ky := cur.out.second; have y0 := ky.1.c0; have y1 := ky.1.c1; have yf := ky.1.fz; have yl := ky.1.lt; have yx := ky.2; clear ky) | skip))
        | (go_at_call 36; (with_reducible refine (Ch.out _ (by first | (with_reducible exact cur.out.old) | (with_reducible exact F1.out.old) | (with_reducible exact F2.out.old) | (with_reducible exact cur.out.a1 _) | (with_reducible exact cur.out.a2 _ _))).mono ?_); rintro e u2 ⟨A2, m2, c2, es2, rfl, hm2, hl2, hb2, hv2, hB2⟩; (first | (with_reducible (replace L1 := Lib.hid (L1.out.below hB2))) | (with_reducible (replace L1 := Lib.hid ((L1.out.below (below1 _ (.cells #[.bool false, .slice none 0 0] 69))).below hB2))) | (with_reducible (replace L1 := Lib.hid ((L1.out.below (below_2w _ (.cells #[.bool false, .slice none 0 0] 69) (.cells #[.bool false, .slice none 0 0] 69))).below hB2))) | skip); (first | (with_reducible (replace cur := Lib.hid (cur.out.below hB2))) | (with_reducible (replace cur := Lib.hid (cur.out.one.below hB2))) | (with_reducible (replace cur := Lib.hid (cur.out.two.below hB2))) | (with_reducible (replace cur := Lib.hid (F1.out.below hB2))) | (with_reducible (replace cur := Lib.hid (F2.out.below hB2)))); have L2 : Hid (Mv u2 Vh A2 m2 c2 es2) := ⟨hl2, hb2, hv2⟩; clear hl2 hb2 hv2 hB2; (first | (have kx := cur.out.first; have x0 := kx.c0; have x1 := kx.c1; have xf := kx.fz; have xl := kx.lt; clear kx) | skip); (first | (have ky := cur.out.second; have y0 := ky.1.c0; have y1 := ky.1.c1; have yf := ky.1.fz; have yl := ky.1.lt; have yx := ky.2; clear ky) | skip)))
    all_goals (go_wp2_with fail)
    all_goals go_meet
    all_goals (refine ⟨_, _, m1, c1, m2, c2, A1, A2, es1, es2, rfl, rfl, by omega, by omega, ?_⟩)
    all_goals (first
      | (have t := RelV.new2 (g1 := false) (g2 := gh) cur.out L1.out L2.out; (with_reducible exact Lib.hid t))
      | (have t := (RelV.new2 (g1 := gh) (g2 := false) cur.out L2.out L1.out).swap; (with_reducible exact Lib.hid t))
      | (have t := RelV.new1 (g1 := false) (g2 := gh) cur.out L1.out L2.out; (with_reducible exact Lib.hid t))
      | (have t := (RelV.new1 (g1 := gh) (g2 := false) cur.out L2.out L1.out).swap; (with_reducible exact Lib.hid t))
      | (have t := (RelV.new0 (g1 := false) (g2 := gh) cur.out L1.out L2.out).1; (with_reducible exact Lib.hid t))
      | (have t := (RelV.new0 (g1 := false) (g2 := gh) cur.out L1.out L2.out).2; (with_reducible exact Lib.hid t))
      | (have t := (RelV.new0 (g1 := gh) (g2 := false) cur.out L2.out L1.out).1.swap; (with_reducible exact Lib.hid t))
      | (have t := (RelV.new0 (g1 := gh) (g2 := false) cur.out L2.out L1.out).2.swap; (with_reducible exact Lib.hid t)))
  case rest =>
    obtain ⟨u3, rfl⟩ : ∃ u3, u3 = wc := ⟨_, rfl⟩
    obtain ⟨p, q, ml, cl, mh, ch, Al, Ah, sl, sh_, rfl, rfl, hml, hmh, HR⟩ := hcut
    have hB3 := HR.out.1
    replace HS := Lib.hid (HS.out.trans (hB3.mono HS.out.size))
    replace HT := Lib.hid (HT.out.below hB3)
    replace HLn : Hid (Lim u3 A3 m3 c3 ts ∧ Lim u3 A4 m4 c4 vs) := ⟨HLn.out.1.below hB3, HLn.out.2.below hB3⟩
    obtain ⟨k, a, b, hw, hk9, sa, sb, n0, n1, nn⟩ := HNm.out
    obtain ⟨K, hK⟩ : ∃ K, k.natAbs = K := ⟨_, rfl⟩
    rw [hK] at nn hk9
    obtain ⟨kq, kk, ea1, eb1⟩ := nn.2 (by have := of_decide_eq_false HL9.out.2.1; omega)
    rw [HL9.out.2.2.2.1] at kq
    have HP : Hid (EpW z ⟨ga, val zs, ea⟩ ⟨gb, val us, eb⟩ k a b (val ts) (val vs)) := hw
    have HN : Hid ((blen a ≤ 64 * 140 ∧ blen b ≤ 64 * 140) ∧ k.natAbs = K ∧ Lz - k * (val vs : Int) = (a : Int) ∧ Hz - k * (val ts : Int) = (b : Int)) := ⟨⟨sa, sb⟩, hK, ea1, eb1⟩
    have H4 := goes_ff Al ml cl sl A4 m4 c4 vs K u3 HR.out.2.2.1.1 HLn.out.2 (by omega) (by omega) HT.out (by exact n1) (by show _ = _; rw [HR.out.2.2.1.2.2]; exact kq) (by omega)
    rw [kk] at H4
    replace H4 := Lib.hid H4
    have p0 := HR.out.2.1.c0
    have p1 := HR.out.2.1.c1
    have hkk : k.natAbs ≤ 100000 := by rw [hK]; omega
    clear hB3 cur F1 F2 Cl Ch HW hw sa sb n0 n1 nn ea1 eb1 kq kk hK HNm
    go_wp2_with fail
    refine H4.out.mono ?_
    rintro e w4 ⟨rfl, hB4⟩
    clear p0 p1 H4
    replace HS := Lib.hid (HS.out.trans (hB4.mono HS.out.size))
    replace HR := Lib.hid (HR.out.below hB4)
    replace HLn : Hid (Lim w4 A3 m3 c3 ts ∧ Lim w4 A4 m4 c4 vs) := ⟨HLn.out.1.below hB4, HLn.out.2.below hB4⟩
    clear hB4
    obtain ⟨gx, hgx⟩ : ∃ gx, decide (k * (val vs : Int) < 0) = gx := ⟨_, rfl⟩
    obtain ⟨gy, hgy⟩ : ∃ gy, decide (k * (val ts : Int) < 0) = gy := ⟨_, rfl⟩
    obtain ⟨Vx, hVx⟩ : ∃ V, (k * (val vs : Int)).natAbs = V := ⟨_, rfl⟩
    obtain ⟨Vy, hVy⟩ : ∃ V, (k * (val ts : Int)).natAbs = V := ⟨_, rfl⟩
    have eb0 : decide ((b : Int) < 0) = false := decide_eq_false (by omega)
    have ea0 : decide ((a : Int) < 0) = false := decide_eq_false (by omega)
    have T1 : Hid (∀ u, Below w4.heap.size w4 u → Calls Tryz.prog 39 #[.slice A4 m4 c4, .int .i64 k] u (WT u gx Vx 300)) := fun u hu =>
      (etimes_l A4 m4 c4 vs k _ u (HLn.out.2.below hu) (by omega) hkk rfl).mono fun _ _ h => h.wt hgx hVx (by omega)
    have T2 : Hid (∀ u, Below w4.heap.size w4 u → Calls Tryz.prog 39 #[.slice A3 m3 c3, .int .i64 k] u (WT u gy Vy 300)) := fun u hu =>
      (etimes_l A3 m3 c3 ts k _ u (HLn.out.1.below hu) (by omega) hkk rfl).mono fun _ _ h => h.wt hgy hVy (by omega)
    have G1 : Hid (∀ u A m c es, Below w4.heap.size w4 u → Mv u Vx A m c es → m ≤ 300 → Calls Tryz.prog 38 #[.agg #[.bool false, .slice Al ml cl], .agg #[.bool gx, .slice A m c]] u (WT u false a 100001)) := fun u A m c es hu hm hm9 => by
      have h := less_l Lz (k * (val vs : Int)) Al ml cl sl A m c es u (HR.out.2.2.1.1.below hu) hm.1 (by omega) (by omega) (by rw [HR.out.2.2.1.2.2, HL9.out.2.2.2.1]) (by rw [hm.2.2, hVx])
      rw [HL9.out.2.1, hgx] at h
      refine h.mono fun _ _ h => h.wt (by rw [HN.out.2.2.1]; exact ea0) (by rw [HN.out.2.2.1]; exact Int.natAbs_natCast a) (by omega)
    have G2 : Hid (∀ u A m c es, Below w4.heap.size w4 u → Mv u Vy A m c es → m ≤ 300 → Calls Tryz.prog 38 #[.agg #[.bool gh, .slice Ah mh ch], .agg #[.bool gy, .slice A m c]] u (WT u false b 100001)) := fun u A m c es hu hm hm9 => by
      have h := less_l Hz (k * (val ts : Int)) Ah mh ch sh_ A m c es u (HR.out.2.2.2.2.1.below hu) hm.1 (by omega) (by omega) (by rw [HR.out.2.2.2.2.2.2, HL9.out.2.2.2.2]) (by rw [hm.2.2, hVy])
      rw [HL9.out.2.2.1, hgy] at h
      refine h.mono fun _ _ h => h.wt (by rw [HN.out.2.2.2]; exact eb0) (by rw [HN.out.2.2.2]; exact Int.natAbs_natCast b) (by omega)
    have HV : Hid (∀ u, Below w4.heap.size w4 u → u.cell? ⟨p, 0, none⟩ = some (.bool false) ∧ u.cell? ⟨p, 1, none⟩ = some (.slice Al ml cl) ∧ u.cell? ⟨q, 0, none⟩ = some (.bool gh) ∧ u.cell? ⟨q, 1, none⟩ = some (.slice Ah mh ch)) := fun u hu => ⟨(HR.out.2.1.below hu).c0, (HR.out.2.1.below hu).c1, (HR.out.2.2.2.1.below hu).c0, (HR.out.2.2.2.1.below hu).c1⟩
    have cur := Lib.hid (below_drew w4)
    have hfd : ∀ (g : Bool) (A : Option Addr) (n c : Nat) (u : World), (Instr.field 69 (.agg #[.bool g, .slice A n c]) 1).run Tryz.prog u = .ok (.slice A n c) u := fun _ _ _ _ _ => by kernel_rfl
    have HA9 : Hid (blen a ≤ 64 * 140 ∧ blen b ≤ 64 * 140) := HN.out.1
    clear hgx hgy hVx hVy ea0 eb0 HLn HR HN HL9
    go_wp2_with fail
    go_cut [5, 6] from 18 (fun s5 s6 wx => ∃ (m1 c1 m2 c2 : Nat) (A1 A2 : Option Addr) (es1 es2 : List Nat), s5 = .slice A1 m1 c1 ∧ s6 = .slice A2 m2 c2 ∧ m1 ≤ 140 ∧ m2 ≤ 140 ∧ Hid (Below w4.heap.size w4 wx ∧ Mv wx a A1 m1 c1 es1 ∧ Mv wx b A2 m2 c2 es2))
    case first =>
      as_aux_lemma =>
      go_region_held3 (fun u => u.cell? ⟨p, 0, none⟩ = some (.bool false) ∧ u.cell? ⟨p, 1, none⟩ = some (.slice Al ml cl) ∧ u.cell? ⟨q, 0, none⟩ = some (.bool gh) ∧ u.cell? ⟨q, 1, none⟩ = some (.slice Ah mh ch)) (with_reducible exact HV.out _ cur.out)
        (first
          | (go_at_call 39; (with_reducible refine (T1.out _ cur.out).mono ?_); rintro e u1 ⟨Ax, mx, cx, sx, rfl, hmx, hlx, hbx, hvx, hB⟩; replace cur := Lib.hid (cur.out.trans (hB.mono cur.out.size)); (first | (with_reducible (replace M2 := Lib.hid (M2.out.below hB))) | skip); (first | (with_reducible (replace R1 := Lib.hid (R1.out.below hB))) | skip); (first | (with_reducible (replace R2 := Lib.hid (R2.out.below hB))) | skip); have M1 : Hid (Mv u1 Vx Ax mx cx sx) := ⟨hlx, hbx, hvx⟩; clear hlx hbx hvx hB)
          | (go_at_call 39; (with_reducible refine (T2.out _ cur.out).mono ?_); rintro e u2 ⟨Ay, my, cy, sy, rfl, hmy, hly, hby, hvy, hB⟩; replace cur := Lib.hid (cur.out.trans (hB.mono cur.out.size)); (first | (with_reducible (replace M1 := Lib.hid (M1.out.below hB))) | skip); (first | (with_reducible (replace R1 := Lib.hid (R1.out.below hB))) | skip); (first | (with_reducible (replace R2 := Lib.hid (R2.out.below hB))) | skip); have M2 : Hid (Mv u2 Vy Ay my cy sy) := ⟨hly, hby, hvy⟩; clear hly hby hvy hB)
          | (go_at_call 38; (with_reducible refine (G1.out _ Ax mx cx sx cur.out M1.out hmx).mono ?_); rintro e u3' ⟨Ap, mp, cp, sp, rfl, hmp, hlp, hbp, hvp, hB⟩; replace cur := Lib.hid (cur.out.trans (hB.mono cur.out.size)); (first | (with_reducible (replace M1 := Lib.hid (M1.out.below hB))) | skip); (first | (with_reducible (replace M2 := Lib.hid (M2.out.below hB))) | skip); (first | (with_reducible (replace R2 := Lib.hid (R2.out.below hB))) | skip); have R1 : Hid (Mv u3' a Ap mp cp sp) := ⟨hlp, hbp, hvp⟩; clear hlp hbp hvp hB)
          | (go_at_call 38; (with_reducible refine (G2.out _ Ay my cy sy cur.out M2.out hmy).mono ?_); rintro e u4' ⟨Aq, mq, cq, sq, rfl, hmq, hlq, hbq, hvq, hB⟩; replace cur := Lib.hid (cur.out.trans (hB.mono cur.out.size)); (first | (with_reducible (replace M1 := Lib.hid (M1.out.below hB))) | skip); (first | (with_reducible (replace M2 := Lib.hid (M2.out.below hB))) | skip); (first | (with_reducible (replace R1 := Lib.hid (R1.out.below hB))) | skip); have R2 : Hid (Mv u4' b Aq mq cq sq) := ⟨hlq, hbq, hvq⟩; clear hlq hbq hvq hB))
      all_goals (go_wp2_with fail)
      all_goals go_meet
      all_goals (exact ⟨mp, cp, mq, cq, Ap, Aq, sp, sq, rfl, rfl, bare_le R1.out.1 R1.out.2.1 (by rw [R1.out.2.2]; exact HA9.out.1), bare_le R2.out.1 R2.out.2.1 (by rw [R2.out.2.2]; exact HA9.out.2), Lib.hid ⟨cur.out, R1.out, R2.out⟩⟩)
    case rest =>
      clear cur T1 T2 G1 G2 HV hfd
      obtain ⟨u5, rfl⟩ : ∃ u5, u5 = wc := ⟨_, rfl⟩
      obtain ⟨ma', ca', mb', cb', Ap, Aq, sp, sq, rfl, rfl, hmp, hmq, HR⟩ := hcut
      replace HS := Lib.hid (HS.out.trans (HR.out.1.mono HS.out.size))
      obtain ⟨Pz, hPz⟩ : ∃ P, 2 ^ z = P := ⟨_, rfl⟩
      have HM : Hid (Mv u5 a Ap ma' ca' sp ∧ Mv u5 b Aq mb' cb' sq) := HR.out.2
      have H5 := Lib.hid (of_any 1 (by decide) u5)
      have HPz := Lib.hid hPz
      clear HR hPz
      go_wp2_with fail
      refine H5.out.mono ?_
      rintro e w6 ⟨A6, m6, c6, s6, rfl, hm6, hl6, hb6, hv6, hB6⟩
      replace HS := Lib.hid (HS.out.trans (hB6.mono HS.out.size))
      replace HM : Hid (Mv w6 a Ap ma' ca' sp ∧ Mv w6 b Aq mb' cb' sq) := ⟨HM.out.1.below hB6, HM.out.2.below hB6⟩
      have H6 := shl_all A6 m6 c6 s6 w6 hl6 (by omega) z (Or.inl (by rw [hv6]; have : blen 1 = 1 := rfl; omega))
      rw [hv6, Nat.one_mul, HPz.out] at H6
      replace H6 := Lib.hid H6
      clear hl6 hb6 hv6 hB6 H5
      go_wp2_with fail
      refine H6.out.mono ?_
      rintro e w7 ⟨A7, m7, c7, s7, rfl, hm7, hl7, hb7, hv7, hB7⟩
      replace HS := Lib.hid (HS.out.trans (hB7.mono HS.out.size))
      replace HM : Hid (Mv w7 a Ap ma' ca' sp ∧ Mv w7 b Aq mb' cb' sq) := ⟨HM.out.1.below hB7, HM.out.2.below hB7⟩
      obtain ⟨cv, hcv⟩ : ∃ cv, cmpZ b Pz = cv := ⟨_, rfl⟩
      have H7 := Lib.hid (cmp_b cv Aq mb' cb' sq A7 m7 c7 s7 w7 HM.out.2.1 hl7 (by omega) (by omega) (by show _ = _; rw [HM.out.2.2.2, hv7]; exact hcv))
      have HSp : Hid (SplitOk g1 (val xs) e1 g2 (val ys) e2 (z : Int) ⟨ga, val zs, ea⟩ ⟨gb, val us, eb⟩) := ⟨HK.out.1, HK.out.2.1, HK.out.2.2.1, HK.out.2.2.2.1, HK.out.2.2.2.2, by omega, by omega⟩
      clear hl7 hb7 hv7 hB7 H6 HK HA9
      by_cases hb : b ≤ Pz
      · have dc : decide ((0 : Int) < cv) = false := decide_eq_false (by rw [← hcv]; have := cmpZ_down hb; omega)
        have Hb := Lib.hid hb
        clear hcv hb
        go_wp2_with fail
        refine H7.out.mono ?_
        rintro e w8 ⟨rfl, hB8⟩
        have Hfin : Hid (SplitTold w (SplitP g1 (val xs) e1 g2 (val ys) e2 (z : Int)) (.returned (.tuple #[.int .i64 k, .slice Ap ma' ca', .slice Aq mb' cb', .int .i64 0])) w8) :=
          ⟨k, Ap, ma', ca', sp, Aq, mb', cb', sq, 0, rfl, by omega, by omega, HM.out.1.1.below hB8, HM.out.2.1.below hB8, HS.out.trans (hB8.mono HS.out.size), Or.inl ⟨_, _, _, _, HSp.out, by rw [Int.toNat_natCast, HM.out.1.2.2, HM.out.2.2.2]; exact HP.out, by rw [Int.toNat_natCast, HM.out.2.2.2, HPz.out]; exact Hb.out, rfl⟩⟩
        clear H7 hB8 HM HS HP HSp Hb HPz HT HG
        go_wp2
        exact bodyPost_ret (v := .tuple #[.int .i64 k, .slice Ap ma' ca', .slice Aq mb' cb', .int .i64 0]) (by simp [results, Tryz.results12, go_sem]) rfl Hfin.out
      · have dc : decide ((0 : Int) < cv) = true := decide_eq_true (by rw [← hcv, cmpZ_gt (by omega)]; decide)
        have Hb := Lib.hid hb
        clear hcv hb
        go_wp2_with fail
        refine H7.out.mono ?_
        rintro e w8 ⟨rfl, hB8⟩
        have Hfin := Lib.hid (split_nil (g1 := g1) (V1 := val xs) (e1 := e1) (g2 := g2) (V2 := val ys) (e2 := e2) (s := (z : Int)) (Or.inr ⟨_, _, HSp.out, k, a, b, _, _, by rw [Int.toNat_natCast]; exact HP.out, by rw [Int.toNat_natCast, HPz.out]; have := Hb.out; omega⟩) (HS.out.trans (hB8.mono HS.out.size)))
        clear H7 hB8 HM HS HP HSp Hb HPz HT HG
        go_wp2
        exact bodyPost_ret (v := .tuple #[.int .i64 0, .slice none 0 0, .slice none 0 0, .int .i64 1]) (by simp [results, Tryz.results12, go_sem]) rfl Hfin.out

/-- The contract of exps.Split. -/
theorem split_l (g1 : Bool) (A1 : Option Addr) (n1 c1 : Nat) (xs : List Nat) (e1 : Int) (g2 : Bool) (A2 : Option Addr) (n2 c2 : Nat) (ys : List Nat) (e2 : Int) (s : Int) (w : World) (hA : Lim w A1 n1 c1 xs) (hB : Lim w A2 n2 c2 ys) (hn1 : n1 ≤ 4294967296) (hn2 : n2 ≤ 4294967296) (hT : Tab w) (hs1 : -9223372036854775808 ≤ s) :
    Calls Tryz.prog 12 #[.agg #[.bool g1, .slice A1 n1 c1, .int .i64 e1, .bool g2, .slice A2 n2 c2, .int .i64 e2], .int .i64 s] w (SplitTold w (SplitP g1 (val xs) e1 g2 (val ys) e2 s)) := by
  by_cases hok : ∃ lo hi, EndsOk g1 (val xs) e1 g2 (val ys) e2 lo hi
  · by_cases h9 : 8900 < s
    · exact split_nob g1 A1 n1 c1 xs e1 g2 A2 n2 c2 ys e2 s w hA hB hn1 hn2 hT hok h9
    · by_cases h8 : s < 8
      · exact split_noc g1 A1 n1 c1 xs e1 g2 A2 n2 c2 ys e2 s w hA hB hn1 hn2 hT hok hs1 h8
      · obtain ⟨z, rfl⟩ := Int.eq_ofNat_of_zero_le (show 0 ≤ s by omega)
        obtain ⟨lo, hi, hok⟩ := hok
        by_cases hs : flU z lo < 0
        · exact split_neg g1 A1 n1 c1 xs e1 g2 A2 n2 c2 ys e2 z w hA hB hn1 hn2 hT lo hi hok (by omega) (by omega) hs
        · exact split_pos g1 A1 n1 c1 xs e1 g2 A2 n2 c2 ys e2 z w hA hB hn1 hn2 hT lo hi hok (by omega) (by omega) (by omega)
  · exact split_noa g1 A1 n1 c1 xs e1 g2 A2 n2 c2 ys e2 s w hA hB hn1 hn2 hT hok
end Go.Proofs.YtijhdlkfihjbiaaGreatDoor
