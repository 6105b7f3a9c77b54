/- The walk of iv.shorter (written by law_iv6.py). -/
import Derived.Test.YtnkbdjbcfkflpaaDoorIvShM
import Derived.Test.YtnkbdjbcfkflpaaDoorIvWholeN
import Derived.Test.YtnkbdjbcfkflpaaDoorIvScale
import Derived.Test.YtnkbdjbcfkflpaaDoorK2
namespace Go.Proofs.YtnkbdjbcfkflpaaDoor
open Go.RowKit

theorem mk_shift {d : Dy} (h : mk d.neg d.V d.e = some d) (h0 : d.V ≠ 0) {e : Int} (h1 : -100000 ≤ e) (h2 : e ≤ 100000) : mk d.neg d.V e = some ⟨d.neg, d.V, e⟩ := by
  have od : Odd d := by rw [← mk_is h]; exact nO_odd d.neg d.V d.e
  obtain ⟨m, hm⟩ := od.resolve_right (fun h => h0 (by rw [h]))
  have od' : Odd ⟨d.neg, d.V, e⟩ := Or.inl ⟨m, hm⟩
  have hs : nO d.neg d.V e = ⟨d.neg, d.V, e⟩ := nO_self od' (by show _ ≤ e; omega) (by show e ≤ _; omega)
  rw [mk_nO, hs]
  unfold toldD
  rw [if_neg h0, if_neg (by show ¬ (e < _ ∨ _ < e); omega)]
theorem nought_top {V : Nat} {A : Option Addr} {n c : Nat} {xs : List Nat} {w : World} (_h : Lim w A n c xs) (hb : Bare xs) (hv : val xs = V) (h0 : V = 0) : n = 0 := by
  have h1 : xs.length = 0 := by
    have h2 := tl_zero_iff.2 (hv.trans h0)
    unfold Bare at hb
    omega
  rw [← _h.len]; exact h1

set_option maxHeartbeats 4000000 in
set_option maxRecDepth 20000 in
theorem shorter_yes (b : Nat) (dir : Int) (d X : Dy) (U : Nat) (H B v : Bool) (V2 : Nat) (o : Dy) (g1 : Bool) (A1 : Option Addr) (n1 c1 : Nat) (xs1 : List Nat) (e1 : Int) (w : World) (l1 : Lim w A1 n1 c1 xs1) (b1 : n1 ≤ 30000) (hT : Tab w) (h1 : Hid (mk g1 (val xs1) e1 = some d)) (h0 : d.V ≠ 0) (hb1 : 1 ≤ b) (hb2 : b ≤ 4096) (hbl : blen d.V ≤ b + 4096) (hdir : dir = 2 ∨ dir = 3) (hs : Sp 6001 d) (hX : Hid (ShX d b dir U H B v V2 o X)) :
    Calls Tryd.prog 50 #[.agg #[.bool g1, .slice A1 n1 c1, .int .i64 e1], .int .i64 (b : Int), .int .i64 dir] w (Told w (some X) 30400) := by
  have HT := Lib.hid hT
  have HS := Lib.hid (Below.refl w.heap.size w)
  have H1 : Hid (Lim w A1 n1 c1 xs1) := l1
  have sp1 := hs.2.1
  have sp2 := hs.2.2
  have bV := blen_pos h0
  obtain ⟨T, hT9⟩ : ∃ T : Int, (blen d.V : Int) - 1 + d.e = T := ⟨_, rfl⟩
  have hf := hs.fine.held
  have HTop : Hid (topD d.V d.e = T) := by show _ = _; unfold topD; rw [hf]; exact hT9
  obtain ⟨un, hun⟩ : ∃ un : Int, (blen d.V : Int) + d.e - b = un := ⟨_, rfl⟩
  have hX1 := hX.out
  rw [ShX, hun] at hX1
  obtain ⟨x1, x2, x3, x4, x5, x6, x7, x8⟩ := hX1
  have oe := mk_at x6 (V := V2) (fun h => x7 (by rw [h] at x6; exact (mk_fine x6).2.2.1.2 rfl)) 0 (by decide) (by decide) (by
    have hle : V2 ≤ rU d.V ((b : Int) - blen d.V) 0 + 1 := by rw [x1, ← x5]; cases v <;> simp
    have hU2 : blen (rU d.V ((b : Int) - blen d.V) 0) ≤ 20000 := by
      unfold rU
      split
      · rw [blen_shl h0]; omega
      · exact Nat.le_trans (blen_mono (Nat.le_trans (Nat.div_le_self _ _) (Nat.div_le_self _ _))) (by omega)
    obtain ⟨K, hK⟩ : ∃ K, K = 20000 := ⟨_, rfl⟩
    have h7 := blen_le_iff.1 (show blen (rU d.V ((b : Int) - blen d.V) 0) ≤ K by omega)
    have h8 : (2 : Nat) ^ (K + 1) = 2 ^ K * 2 := Nat.pow_succ ..
    have h9 := blen_le_iff.2 (show V2 < 2 ^ (K + 1) by have := Nat.two_pow_pos K; omega)
    omega)
  obtain ⟨t1, ht1⟩ : ∃ t1 : Int, T - b = t1 := ⟨_, rfl⟩
  have w1 : IntKind.i64.wrap (T - (b : Int)) = t1 := by rw [IntKind.wrap_i64]; omega
  have w2 : IntKind.i64.wrap (t1 + 1) = un := by rw [IntKind.wrap_i64]; omega
  obtain ⟨t2, ht2⟩ : ∃ t2 : Int, un - 4096 = t2 := ⟨_, rfl⟩
  have w3 : IntKind.i64.wrap (un - 4096) = t2 := by rw [IntKind.wrap_i64]; omega
  obtain ⟨t3, ht3⟩ : ∃ t3 : Int, -un = t3 := ⟨_, rfl⟩
  have w4 : IntKind.i64.wrap (-un) = t3 := by rw [IntKind.wrap_i64]; omega
  have dl : decide (d.e < t2) = false := decide_eq_false (by omega)
  have hE : (b : Int) - blen d.V = d.e + t3 := by omega
  rw [hE] at x1 x2 x3
  have un1 : -100000 ≤ un := by omega
  have un2 : un ≤ 100000 := by omega
  have t31 : -100000 ≤ t3 := by omega
  have t32 : t3 ≤ 100000 := by omega
  have hm0 := mk_shift hs.1 h0 (e := d.e + t3) (by omega) (by omega)
  have G : Hid (rU d.V (d.e + t3) 0 = U ∧ rH d.V (d.e + t3) 0 = H ∧ rB d.V (d.e + t3) 0 = B ∧ awy d.neg dir (decide (U % 2 = 1)) H (B || false) = v ∧ U + v.toNat = V2 ∧ mk d.neg V2 0 = some o ∧ o.V ≠ 0 ∧ X = ⟨o.neg, o.V, o.e + un⟩ ∧ mk d.neg d.V (d.e + t3) = some ⟨d.neg, d.V, d.e + t3⟩ ∧ mk d.neg d.V d.e = some d ∧ (-4096 ≤ d.e + t3 ∧ d.e + t3 ≤ 4096) ∧ (0 ≤ o.e ∧ o.e ≤ 100000) ∧ (-100000 ≤ d.e ∧ d.e ≤ 100000) ∧ d.V ≠ 0 ∧ mk o.neg o.V o.e = some o) :=
    ⟨x1, x2, x3, x4, x5, x6, x7, x8, hm0, hs.1, ⟨by omega, by omega⟩, ⟨oe.2.2.1, oe.2.1⟩, ⟨by omega, by omega⟩, h0, mk_bareI x6⟩
  have hdir' : 0 ≤ dir ∧ dir ≤ 3 := by omega
  clear l1 hT x1 x2 x3 x4 x5 x6 x7 x8 oe hm0 hf hT9 hun ht1 ht2 ht3 hE hs hX sp1 sp2 bV h0 hbl
  have ba := below1 w (.cells #[.bool g1, .slice A1 n1 c1, .int .i64 e1] 36)
  replace HT : Hid (Tab (w.alloc (.cells #[.bool g1, .slice A1 n1 c1, .int .i64 e1] 36))) := HT.out.below ba
  replace H1 : Hid (Lim (w.alloc (.cells #[.bool g1, .slice A1 n1 c1, .int .i64 e1] 36)) A1 n1 c1 xs1) := H1.out.below ba
  replace HS := Lib.hid (HS.out.trans (ba.mono HS.out.size))
  clear ba
  have HD : Hid (Bd (w.alloc (.cells #[.bool g1, .slice A1 n1 c1, .int .i64 e1] 36)) w.heap.size 36 g1 A1 n1 c1 e1) := Bd.new w 36 g1 A1 n1 c1 e1
  have ba := below1 (w.alloc (.cells #[.bool g1, .slice A1 n1 c1, .int .i64 e1] 36)) (.cells #[.bool false, .slice none 0 0, .int .i64 0] 36)
  replace HT : Hid (Tab ((w.alloc (.cells #[.bool g1, .slice A1 n1 c1, .int .i64 e1] 36)).alloc (.cells #[.bool false, .slice none 0 0, .int .i64 0] 36))) := HT.out.below ba
  replace H1 : Hid (Lim ((w.alloc (.cells #[.bool g1, .slice A1 n1 c1, .int .i64 e1] 36)).alloc (.cells #[.bool false, .slice none 0 0, .int .i64 0] 36)) A1 n1 c1 xs1) := H1.out.below ba
  replace HD : Hid (Bd ((w.alloc (.cells #[.bool g1, .slice A1 n1 c1, .int .i64 e1] 36)).alloc (.cells #[.bool false, .slice none 0 0, .int .i64 0] 36)) w.heap.size 36 g1 A1 n1 c1 e1) := HD.out.below ba
  replace HS := Lib.hid (HS.out.trans (ba.mono HS.out.size))
  clear ba
  have HR : Hid (Bd ((w.alloc (.cells #[.bool g1, .slice A1 n1 c1, .int .i64 e1] 36)).alloc (.cells #[.bool false, .slice none 0 0, .int .i64 0] 36)) (w.heap.size + 1) 36 false none 0 0 0) := (by have h := Bd.new (w.alloc (.cells #[.bool g1, .slice A1 n1 c1, .int .i64 e1] 36)) 36 false none 0 0 0; rw [World.size_alloc] at h; exact h)
  have K := dbare_any g1 A1 n1 c1 xs1 e1 ((w.alloc (.cells #[.bool g1, .slice A1 n1 c1, .int .i64 e1] 36)).alloc (.cells #[.bool false, .slice none 0 0, .int .i64 0] 36)) H1.out (by omega) HT.out
  rw [h1.out] at K
  replace K := Lib.hid K
  clear h1
  have HD_0 := HD.out.c0
  have HD_1 := HD.out.c1
  have HD_2 := HD.out.c2
  go_enter Tryd.func50, Tryd.ntmps50
  go_wp2_with fail
  refine K.out.mono ?_
  rintro e w1 ⟨gd, Ad, md, cd, sd, Ed, rd, rfl, hmd, hld, hbd, ⟨rfl, rfl, hzd, rfl⟩, hB⟩
  clear HD_0 HD_1 HD_2
  replace HT : Hid (Tab w1) := HT.out.below hB
  replace H1 : Hid (Lim w1 A1 n1 c1 xs1) := H1.out.below hB
  replace HD : Hid (Bd w1 w.heap.size 36 g1 A1 n1 c1 e1) := HD.out.below hB
  replace HR : Hid (Bd w1 (w.heap.size + 1) 36 false none 0 0 0) := HR.out.below hB
  replace HS := Lib.hid (HS.out.trans (hB.mono HS.out.size))
  clear hB K
  have c0 := HD.out.c0
  have c1 := HD.out.c1
  have c2 := HD.out.c2
  have cf := HD.out.fz
  have HD2 : Hid (Bd (World.put w1 w.heap.size d.neg Ad md cd d.e) w.heap.size 36 d.neg Ad md cd d.e) := HD.out.put _ _ _ _ _
  have HR2 : Hid (Bd (World.put w1 w.heap.size d.neg Ad md cd d.e) (w.heap.size + 1) 36 false none 0 0 0) := HR.out.other (by omega) _ _ _ _ _
  have HL2 : Hid (Lim (World.put w1 w.heap.size d.neg Ad md cd d.e) Ad md cd sd) := HD.out.lim hld _ _ _ _ _
  have HT2 : Hid (Tab (World.put w1 w.heap.size d.neg Ad md cd d.e)) := HD.out.tab HT.out _ _ _ _ _
  have HS2 : Hid (Below w.heap.size w (World.put w1 w.heap.size d.neg Ad md cd d.e)) := below_put HS.out (Nat.le_refl _) _ _ _ _ _
  have HVd : Hid (val sd = d.V) := hzd
  clear hld hbd hzd HD HR HT HS H1
  have HD := HD2
  have HR := HR2
  have HLd := HL2
  have HT := HT2
  have HS := HS2
  clear HD2 HR2 HL2 HT2 HS2
  have K := Lib.hid (top_l T d.neg Ad md cd sd d.e (World.put w1 w.heap.size d.neg Ad md cd d.e) HLd.out (by omega) (by rw [HVd.out]; exact G.out.2.2.2.2.2.2.2.2.2.2.2.2.2.1) (by show _ = _; rw [HVd.out]; exact HTop.out))
  go_wp2_with fail
  refine K.out.mono ?_
  rintro e w3 ⟨rfl, hB⟩
  clear c0 c1 c2 cf
  replace HT : Hid (Tab w3) := HT.out.below hB
  replace HLd : Hid (Lim w3 Ad md cd sd) := HLd.out.below hB
  replace HD : Hid (Bd w3 w.heap.size 36 d.neg Ad md cd d.e) := HD.out.below hB
  replace HR : Hid (Bd w3 (w.heap.size + 1) 36 false none 0 0 0) := HR.out.below hB
  replace HS := Lib.hid (HS.out.trans (hB.mono HS.out.size))
  clear hB K
  have HD_0 := HD.out.c0
  have HD_1 := HD.out.c1
  have HD_2 := HD.out.c2
  have K := Lib.hid (iscale_yes d d.neg Ad md cd sd d.e t3 w3 HLd.out (by omega) HT.out (by rw [HVd.out]; exact G.out.2.2.2.2.2.2.2.2.2.1) G.out.2.2.2.2.2.2.2.2.2.2.2.2.2.1 G.out.2.2.2.2.2.2.2.2.2.2.2.2.1.1 G.out.2.2.2.2.2.2.2.2.2.2.2.2.1.2 t31 t32)
  go_wp2_with fail
  refine K.out.mono ?_
  rintro e w2 ⟨ge, Ae, me, ce, se, Ee, re, rfl, hme, hle, hbe, ⟨rfl, rfl, hze, rfl⟩, hB⟩
  clear HD_0 HD_1 HD_2
  replace HT : Hid (Tab w2) := HT.out.below hB
  replace HLd : Hid (Lim w2 Ad md cd sd) := HLd.out.below hB
  replace HD : Hid (Bd w2 w.heap.size 36 d.neg Ad md cd d.e) := HD.out.below hB
  replace HR : Hid (Bd w2 (w.heap.size + 1) 36 false none 0 0 0) := HR.out.below hB
  replace HS := Lib.hid (HS.out.trans (hB.mono HS.out.size))
  have HLe : Hid (Lim w2 Ae me ce se) := hle
  have HVe : Hid (val se = d.V) := hze
  clear hle hbe hze hB K
  clear HLd
  clear HVd
  have ba := below1 w2 (.cells #[.bool d.neg, .slice Ae me ce, .int .i64 (d.e + t3)] 36)
  replace HT : Hid (Tab (w2.alloc (.cells #[.bool d.neg, .slice Ae me ce, .int .i64 (d.e + t3)] 36))) := HT.out.below ba
  replace HD : Hid (Bd (w2.alloc (.cells #[.bool d.neg, .slice Ae me ce, .int .i64 (d.e + t3)] 36)) w.heap.size 36 d.neg Ad md cd d.e) := HD.out.below ba
  replace HR : Hid (Bd (w2.alloc (.cells #[.bool d.neg, .slice Ae me ce, .int .i64 (d.e + t3)] 36)) (w.heap.size + 1) 36 false none 0 0 0) := HR.out.below ba
  replace HLe : Hid (Lim (w2.alloc (.cells #[.bool d.neg, .slice Ae me ce, .int .i64 (d.e + t3)] 36)) Ae me ce se) := HLe.out.below ba
  replace HS := Lib.hid (HS.out.trans (ba.mono HS.out.size))
  clear ba
  have HE : Hid (Bd (w2.alloc (.cells #[.bool d.neg, .slice Ae me ce, .int .i64 (d.e + t3)] 36)) w2.heap.size 36 d.neg Ae me ce (d.e + t3)) := Bd.new w2 36 d.neg Ae me ce (d.e + t3)
  have HE_0 := HE.out.c0
  have HE_1 := HE.out.c1
  have HE_2 := HE.out.c2
  have K := Lib.hid (whole_yes d.neg Ae me ce se (d.e + t3) dir 0 ⟨d.neg, d.V, d.e + t3⟩ o H B v U V2 (w2.alloc (.cells #[.bool d.neg, .slice Ae me ce, .int .i64 (d.e + t3)] 36)) HLe.out (by omega) HT.out (by rw [HVe.out]; exact G.out.2.2.2.2.2.2.2.2.1) G.out.2.2.2.2.2.2.2.2.2.2.2.2.2.1 hdir' (by decide) (by decide) (by have h := G.out.2.2.2.2.2.2.2.2.2.2.1.1; show (0 : Int) - 4096 ≤ d.e + t3; omega) (by have h := G.out.2.2.2.2.2.2.2.2.2.2.1.2; show d.e + t3 ≤ 0 + 4096; omega) (Lib.hid G.out.1) (Lib.hid G.out.2.1) (Lib.hid G.out.2.2.1) (Lib.hid G.out.2.2.2.1) (Lib.hid G.out.2.2.2.2.1) G.out.2.2.2.2.2.1)
  go_wp2_with fail
  refine K.out.mono ?_
  rintro e w3 ⟨Ah, mh, ch, sh9, rfl, hmh, hlh, hbh, hvh, hB⟩
  clear HE_0 HE_1 HE_2
  replace HT : Hid (Tab w3) := HT.out.below hB
  replace HD : Hid (Bd w3 w.heap.size 36 d.neg Ad md cd d.e) := HD.out.below hB
  replace HR : Hid (Bd w3 (w.heap.size + 1) 36 false none 0 0 0) := HR.out.below hB
  replace HLe : Hid (Lim w3 Ae me ce se) := HLe.out.below hB
  replace HE : Hid (Bd w3 w2.heap.size 36 d.neg Ae me ce (d.e + t3)) := HE.out.below hB
  replace HS := Lib.hid (HS.out.trans (hB.mono HS.out.size))
  have HLh : Hid (Lim w3 Ah mh ch sh9) := hlh
  have HVh : Hid (val sh9 = o.V) := hvh
  clear hlh hbh hvh hB K
  clear HLe HE
  clear HVe
  have ba := below1 w3 (.cells #[.bool o.neg, .slice Ah mh ch, .int .i64 o.e] 36)
  replace HT : Hid (Tab (w3.alloc (.cells #[.bool o.neg, .slice Ah mh ch, .int .i64 o.e] 36))) := HT.out.below ba
  replace HD : Hid (Bd (w3.alloc (.cells #[.bool o.neg, .slice Ah mh ch, .int .i64 o.e] 36)) w.heap.size 36 d.neg Ad md cd d.e) := HD.out.below ba
  replace HR : Hid (Bd (w3.alloc (.cells #[.bool o.neg, .slice Ah mh ch, .int .i64 o.e] 36)) (w.heap.size + 1) 36 false none 0 0 0) := HR.out.below ba
  replace HLh : Hid (Lim (w3.alloc (.cells #[.bool o.neg, .slice Ah mh ch, .int .i64 o.e] 36)) Ah mh ch sh9) := HLh.out.below ba
  replace HS := Lib.hid (HS.out.trans (ba.mono HS.out.size))
  clear ba
  have HO : Hid (Bd (w3.alloc (.cells #[.bool o.neg, .slice Ah mh ch, .int .i64 o.e] 36)) w3.heap.size 36 o.neg Ah mh ch o.e) := Bd.new w3 36 o.neg Ah mh ch o.e
  have HO_0 := HO.out.c0
  have HO_1 := HO.out.c1
  have HO_2 := HO.out.c2
  have K := Lib.hid (iscale_yes o o.neg Ah mh ch sh9 o.e un (w3.alloc (.cells #[.bool o.neg, .slice Ah mh ch, .int .i64 o.e] 36)) HLh.out (by omega) HT.out (by rw [HVh.out]; exact G.out.2.2.2.2.2.2.2.2.2.2.2.2.2.2) G.out.2.2.2.2.2.2.1 (by have h := G.out.2.2.2.2.2.2.2.2.2.2.2.1.1; omega) G.out.2.2.2.2.2.2.2.2.2.2.2.1.2 un1 un2)
  go_wp2_with fail
  refine K.out.mono ?_
  rintro e w4 ⟨gx, Ax, mx, cx, sx, Ex, rx, rfl, hmx, hlx, hbx, ⟨rfl, rfl, hzx, rfl⟩, hB⟩
  clear HO_0 HO_1 HO_2
  have k2 := HR.out.below hB
  have hs6 := HS.out.trans (hB.mono HS.out.size)
  have Hfin : Hid (Told w (some X) 30400 (.returned (.tuple #[.agg #[.bool o.neg, .slice Ax mx cx, .int .i64 (o.e + un)], .int .i64 0])) (World.put w4 (w.heap.size + 1) o.neg Ax mx cx (o.e + un))) :=
    ⟨o.neg, Ax, mx, cx, sx, o.e + un, 0, rfl, by omega, k2.lim hlx _ _ _ _ _, hbx, by rw [G.out.2.2.2.2.2.2.2.1]; exact ⟨rfl, rfl, hzx, rfl⟩, below_put hs6 (Nat.le_succ _) _ _ _ _ _⟩
  have y0 := k2.c0
  have y1 := k2.c1
  have y2 := k2.c2
  have yf := k2.fz
  clear k2 hs6 hB hlx hbx hzx K G HTop HVh HS HT HD HR HLh HO
  go_wp2
  exact bodyPost_ret (v := .tuple #[.agg #[.bool o.neg, .slice Ax mx cx, .int .i64 (o.e + un)], .int .i64 0]) (by simp [results, Tryd.results50, go_sem, y0, y1, y2]) rfl Hfin.out
end Go.Proofs.YtnkbdjbcfkflpaaDoor
