/- The walk of iv.shorter of a nought (written by law_iv7.py). -/
import Derived.Test.YtnkbdjbcfkflpaaDoorIvShorter
import Derived.Test.YtnkbdjbcfkflpaaDoorIvAdd
namespace Go.Proofs.YtnkbdjbcfkflpaaDoor
open Go.RowKit

set_option maxHeartbeats 1000000 in
theorem top_nil (g : Bool) (A : Option Addr) (n c : Nat) (xs : List Nat) (e0 : Int) (w : World) (hA : Lim w A n c xs) (hn : n ≤ 4294967296) (h0 : val xs = 0) :
    Calls Tryd.prog 55 #[.agg #[.bool g, .slice A n c, .int .i64 e0]] w fun e w' => e = .returned (.tuple #[.int .i64 0, .bool false]) ∧ Below w.heap.size w w' := by
  have h1 := below1 w (.cells #[.bool g, .slice A n c, .int .i64 e0] 36)
  have H1 := Lib.hid h1
  have K := Lib.hid (bits_l 0 A n c xs (w.alloc (.cells #[.bool g, .slice A n c, .int .i64 e0] 36)) (hA.below h1) (by omega) (by show _ = _; rw [h0]; exact blen_nought))
  have b1 := Bd.new w 36 g A n c e0
  have c0 := b1.c0
  have c1 := b1.c1
  have c2 := b1.c2
  clear hA h1 h0 b1
  go_enter Tryd.func55, Tryd.ntmps55
  go_wp2_with fail
  refine K.out.mono ?_
  rintro e w' ⟨rfl, rfl⟩
  have Hfin := Lib.hid H1.out
  clear H1 K
  go_wp2
  go_ret2
  exact ⟨rfl, Hfin.out⟩

set_option maxHeartbeats 4000000 in
set_option maxRecDepth 20000 in
theorem shorter_nil (b : Nat) (dir : Int) (d : Dy) (g1 : Bool) (A1 : Option Addr) (n1 c1 : Nat) (xs1 : List Nat) (e1 : Int) (w : World) (l1 : Lim w A1 n1 c1 xs1) (b1 : n1 ≤ 30000) (hT : Tab w) (h1 : Hid (mk g1 (val xs1) e1 = some d)) (h0 : d.V = 0) (hb1 : 1 ≤ b) (hb2 : b ≤ 4096) (hdir : dir = 2 ∨ dir = 3) :
    Calls Tryd.prog 50 #[.agg #[.bool g1, .slice A1 n1 c1, .int .i64 e1], .int .i64 (b : Int), .int .i64 dir] w (Told w (some ⟨false, 0, 0⟩) 30400) := by
  have HT := Lib.hid hT
  have HS := Lib.hid (Below.refl w.heap.size w)
  have H1 : Hid (Lim w A1 n1 c1 xs1) := l1
  have hd9 : d = ⟨false, 0, 0⟩ := by
    have hf := (mk_fine h1.out).1.2.2 h0
    obtain ⟨g, V, e⟩ := d
    dsimp only at h0 hf
    rw [h0, hf.1, hf.2]
  subst hd9
  clear h0
  obtain ⟨t1, ht1⟩ : ∃ t1 : Int, (0 : Int) - b = t1 := ⟨_, rfl⟩
  have w0 : IntKind.i64.wrap ((0 : Int) - (b : Int)) = t1 := by rw [IntKind.wrap_i64]; omega
  have w1 : IntKind.i64.wrap (-(b : Int)) = t1 := by rw [IntKind.wrap_i64]; omega
  obtain ⟨un, hun⟩ : ∃ un : Int, t1 + 1 = un := ⟨_, rfl⟩
  have w2 : IntKind.i64.wrap (t1 + 1) = un := by rw [IntKind.wrap_i64]; omega
  obtain ⟨t2, ht2⟩ : ∃ t2 : Int, un - 4096 = t2 := ⟨_, rfl⟩
  have w3 : IntKind.i64.wrap (un - 4096) = t2 := by rw [IntKind.wrap_i64]; omega
  obtain ⟨t3, ht3⟩ : ∃ t3 : Int, -un = t3 := ⟨_, rfl⟩
  have w4 : IntKind.i64.wrap (-un) = t3 := by rw [IntKind.wrap_i64]; omega
  have dl : decide ((0 : Int) < t2) = false := decide_eq_false (by omega)
  have hdir' : 0 ≤ dir ∧ dir ≤ 3 := by omega
  clear l1 hT ht1 hun ht2 ht3
  have ba := below1 w (.cells #[.bool g1, .slice A1 n1 c1, .int .i64 e1] 36)
  replace HT : Hid (Tab (w.alloc (.cells #[.bool g1, .slice A1 n1 c1, .int .i64 e1] 36))) := HT.out.below ba
  replace H1 : Hid (Lim (w.alloc (.cells #[.bool g1, .slice A1 n1 c1, .int .i64 e1] 36)) A1 n1 c1 xs1) := H1.out.below ba
  replace HS := Lib.hid (HS.out.trans (ba.mono HS.out.size))
  clear ba
  have HD : Hid (Bd (w.alloc (.cells #[.bool g1, .slice A1 n1 c1, .int .i64 e1] 36)) w.heap.size 36 g1 A1 n1 c1 e1) := Bd.new w 36 g1 A1 n1 c1 e1
  have ba := below1 (w.alloc (.cells #[.bool g1, .slice A1 n1 c1, .int .i64 e1] 36)) (.cells #[.bool false, .slice none 0 0, .int .i64 0] 36)
  replace HT : Hid (Tab ((w.alloc (.cells #[.bool g1, .slice A1 n1 c1, .int .i64 e1] 36)).alloc (.cells #[.bool false, .slice none 0 0, .int .i64 0] 36))) := HT.out.below ba
  replace H1 : Hid (Lim ((w.alloc (.cells #[.bool g1, .slice A1 n1 c1, .int .i64 e1] 36)).alloc (.cells #[.bool false, .slice none 0 0, .int .i64 0] 36)) A1 n1 c1 xs1) := H1.out.below ba
  replace HD : Hid (Bd ((w.alloc (.cells #[.bool g1, .slice A1 n1 c1, .int .i64 e1] 36)).alloc (.cells #[.bool false, .slice none 0 0, .int .i64 0] 36)) w.heap.size 36 g1 A1 n1 c1 e1) := HD.out.below ba
  replace HS := Lib.hid (HS.out.trans (ba.mono HS.out.size))
  clear ba
  have HR : Hid (Bd ((w.alloc (.cells #[.bool g1, .slice A1 n1 c1, .int .i64 e1] 36)).alloc (.cells #[.bool false, .slice none 0 0, .int .i64 0] 36)) (w.heap.size + 1) 36 false none 0 0 0) := (by have h := Bd.new (w.alloc (.cells #[.bool g1, .slice A1 n1 c1, .int .i64 e1] 36)) 36 false none 0 0 0; rw [World.size_alloc] at h; exact h)
  have K := dbare_any g1 A1 n1 c1 xs1 e1 ((w.alloc (.cells #[.bool g1, .slice A1 n1 c1, .int .i64 e1] 36)).alloc (.cells #[.bool false, .slice none 0 0, .int .i64 0] 36)) H1.out (by omega) HT.out
  rw [h1.out] at K
  replace K := Lib.hid K
  clear h1
  have HD_0 := HD.out.c0
  have HD_1 := HD.out.c1
  have HD_2 := HD.out.c2
  go_enter Tryd.func50, Tryd.ntmps50
  go_wp2_with fail
  refine K.out.mono ?_
  rintro e w1 ⟨gd, Ad, md, cd, sd, Ed, rd, rfl, hmd, hld, hbd, ⟨hr, hg, hzd, he⟩, hB⟩
  dsimp only at hr hg hzd he
  subst hr hg he
  clear HD_0 HD_1 HD_2
  replace HT : Hid (Tab w1) := HT.out.below hB
  replace H1 : Hid (Lim w1 A1 n1 c1 xs1) := H1.out.below hB
  replace HD : Hid (Bd w1 w.heap.size 36 g1 A1 n1 c1 e1) := HD.out.below hB
  replace HR : Hid (Bd w1 (w.heap.size + 1) 36 false none 0 0 0) := HR.out.below hB
  replace HS := Lib.hid (HS.out.trans (hB.mono HS.out.size))
  clear hB K
  have c0 := HD.out.c0
  have c1 := HD.out.c1
  have c2 := HD.out.c2
  have cf := HD.out.fz
  have HD2 : Hid (Bd (World.put w1 w.heap.size false Ad md cd 0) w.heap.size 36 false Ad md cd 0) := HD.out.put _ _ _ _ _
  have HR2 : Hid (Bd (World.put w1 w.heap.size false Ad md cd 0) (w.heap.size + 1) 36 false none 0 0 0) := HR.out.other (by omega) _ _ _ _ _
  have HL2 : Hid (Lim (World.put w1 w.heap.size false Ad md cd 0) Ad md cd sd) := HD.out.lim hld _ _ _ _ _
  have HT2 : Hid (Tab (World.put w1 w.heap.size false Ad md cd 0)) := HD.out.tab HT.out _ _ _ _ _
  have HS2 : Hid (Below w.heap.size w (World.put w1 w.heap.size false Ad md cd 0)) := below_put HS.out (Nat.le_refl _) _ _ _ _ _
  have HVd : Hid (val sd = 0) := hzd
  clear hld hbd hzd HD HR HT HS H1
  have HD := HD2
  have HR := HR2
  have HLd := HL2
  have HT := HT2
  have HS := HS2
  clear HD2 HR2 HL2 HT2 HS2
  have K := Lib.hid (top_nil false Ad md cd sd 0 (World.put w1 w.heap.size false Ad md cd 0) HLd.out (by omega) HVd.out)
  go_wp2_with fail
  refine K.out.mono ?_
  rintro e w3 ⟨rfl, hB⟩
  clear c0 c1 c2 cf
  replace HT : Hid (Tab w3) := HT.out.below hB
  replace HLd : Hid (Lim w3 Ad md cd sd) := HLd.out.below hB
  replace HD : Hid (Bd w3 w.heap.size 36 false Ad md cd 0) := HD.out.below hB
  replace HR : Hid (Bd w3 (w.heap.size + 1) 36 false none 0 0 0) := HR.out.below hB
  replace HS := Lib.hid (HS.out.trans (hB.mono HS.out.size))
  clear hB K
  have HD_0 := HD.out.c0
  have HD_1 := HD.out.c1
  have HD_2 := HD.out.c2
  have K := Lib.hid (iscale_nought ⟨false, 0, 0⟩ false Ad md cd sd 0 t3 w3 HLd.out (by omega) HT.out (by rw [HVd.out]; rfl) rfl)
  go_wp2_with fail
  refine K.out.mono ?_
  rintro e w2 ⟨ge, Ae, me, ce, se, Ee, re, rfl, hme, hle, hbe, ⟨hr, hg, hze, he⟩, hB⟩
  dsimp only at hr hg hze he
  subst hr hg he
  clear HD_0 HD_1 HD_2
  replace HT : Hid (Tab w2) := HT.out.below hB
  replace HLd : Hid (Lim w2 Ad md cd sd) := HLd.out.below hB
  replace HD : Hid (Bd w2 w.heap.size 36 false Ad md cd 0) := HD.out.below hB
  replace HR : Hid (Bd w2 (w.heap.size + 1) 36 false none 0 0 0) := HR.out.below hB
  replace HS := Lib.hid (HS.out.trans (hB.mono HS.out.size))
  have HLe : Hid (Lim w2 Ae me ce se) := hle
  have HVe : Hid (val se = 0) := hze
  clear hle hbe hze hB K
  have ba := below1 w2 (.cells #[.bool false, .slice Ae me ce, .int .i64 0] 36)
  replace HT : Hid (Tab (w2.alloc (.cells #[.bool false, .slice Ae me ce, .int .i64 0] 36))) := HT.out.below ba
  replace HLd : Hid (Lim (w2.alloc (.cells #[.bool false, .slice Ae me ce, .int .i64 0] 36)) Ad md cd sd) := HLd.out.below ba
  replace HD : Hid (Bd (w2.alloc (.cells #[.bool false, .slice Ae me ce, .int .i64 0] 36)) w.heap.size 36 false Ad md cd 0) := HD.out.below ba
  replace HR : Hid (Bd (w2.alloc (.cells #[.bool false, .slice Ae me ce, .int .i64 0] 36)) (w.heap.size + 1) 36 false none 0 0 0) := HR.out.below ba
  replace HLe : Hid (Lim (w2.alloc (.cells #[.bool false, .slice Ae me ce, .int .i64 0] 36)) Ae me ce se) := HLe.out.below ba
  replace HS := Lib.hid (HS.out.trans (ba.mono HS.out.size))
  clear ba
  have HBe : Hid (Bd (w2.alloc (.cells #[.bool false, .slice Ae me ce, .int .i64 0] 36)) w2.heap.size 36 false Ae me ce 0) := Bd.new w2 36 false Ae me ce 0
  have HBe_0 := HBe.out.c0
  have HBe_1 := HBe.out.c1
  have HBe_2 := HBe.out.c2
  have K := Lib.hid (whole_nil false Ae me ce se 0 dir 0 ⟨false, 0, 0⟩ (w2.alloc (.cells #[.bool false, .slice Ae me ce, .int .i64 0] 36)) HLe.out (by omega) HT.out (by rw [HVe.out]; rfl) rfl hdir' (by decide) (by decide))
  go_wp2_with fail
  refine K.out.mono ?_
  rintro e w3 ⟨Ah, mh, ch, sh9, rfl, hmh, hlh, hbh, hvh, hB⟩
  clear HBe_0 HBe_1 HBe_2
  replace HT : Hid (Tab w3) := HT.out.below hB
  replace HLd : Hid (Lim w3 Ad md cd sd) := HLd.out.below hB
  replace HD : Hid (Bd w3 w.heap.size 36 false Ad md cd 0) := HD.out.below hB
  replace HR : Hid (Bd w3 (w.heap.size + 1) 36 false none 0 0 0) := HR.out.below hB
  replace HLe : Hid (Lim w3 Ae me ce se) := HLe.out.below hB
  replace HBe : Hid (Bd w3 w2.heap.size 36 false Ae me ce 0) := HBe.out.below hB
  replace HS := Lib.hid (HS.out.trans (hB.mono HS.out.size))
  have HLh : Hid (Lim w3 Ah mh ch sh9) := hlh
  have HVh : Hid (val sh9 = 0) := hvh
  clear hlh hbh hvh hB K
  have ba := below1 w3 (.cells #[.bool false, .slice Ah mh ch, .int .i64 0] 36)
  replace HT : Hid (Tab (w3.alloc (.cells #[.bool false, .slice Ah mh ch, .int .i64 0] 36))) := HT.out.below ba
  replace HLd : Hid (Lim (w3.alloc (.cells #[.bool false, .slice Ah mh ch, .int .i64 0] 36)) Ad md cd sd) := HLd.out.below ba
  replace HD : Hid (Bd (w3.alloc (.cells #[.bool false, .slice Ah mh ch, .int .i64 0] 36)) w.heap.size 36 false Ad md cd 0) := HD.out.below ba
  replace HR : Hid (Bd (w3.alloc (.cells #[.bool false, .slice Ah mh ch, .int .i64 0] 36)) (w.heap.size + 1) 36 false none 0 0 0) := HR.out.below ba
  replace HLe : Hid (Lim (w3.alloc (.cells #[.bool false, .slice Ah mh ch, .int .i64 0] 36)) Ae me ce se) := HLe.out.below ba
  replace HBe : Hid (Bd (w3.alloc (.cells #[.bool false, .slice Ah mh ch, .int .i64 0] 36)) w2.heap.size 36 false Ae me ce 0) := HBe.out.below ba
  replace HLh : Hid (Lim (w3.alloc (.cells #[.bool false, .slice Ah mh ch, .int .i64 0] 36)) Ah mh ch sh9) := HLh.out.below ba
  replace HS := Lib.hid (HS.out.trans (ba.mono HS.out.size))
  clear ba
  have HO : Hid (Bd (w3.alloc (.cells #[.bool false, .slice Ah mh ch, .int .i64 0] 36)) w3.heap.size 36 false Ah mh ch 0) := Bd.new w3 36 false Ah mh ch 0
  have HO_0 := HO.out.c0
  have HO_1 := HO.out.c1
  have HO_2 := HO.out.c2
  have K := Lib.hid (iscale_nought ⟨false, 0, 0⟩ false Ah mh ch sh9 0 un (w3.alloc (.cells #[.bool false, .slice Ah mh ch, .int .i64 0] 36)) HLh.out (by omega) HT.out (by rw [HVh.out]; rfl) rfl)
  go_wp2_with fail
  refine K.out.mono ?_
  rintro e w4 ⟨gx, Ax, mx, cx, sx, Ex, rx, rfl, hmx, hlx, hbx, ⟨hr, hg, hzx, he⟩, hB⟩
  dsimp only at hr hg hzx he
  subst hr hg he
  clear HO_0 HO_1 HO_2
  have k2 := HR.out.below hB
  have hs6 := HS.out.trans (hB.mono HS.out.size)
  have Hfin : Hid (Told w (some ⟨false, 0, 0⟩) 30400 (.returned (.tuple #[.agg #[.bool false, .slice Ax mx cx, .int .i64 0], .int .i64 0])) (World.put w4 (w.heap.size + 1) false Ax mx cx 0)) :=
    ⟨false, Ax, mx, cx, sx, 0, 0, rfl, by omega, k2.lim hlx _ _ _ _ _, hbx, ⟨rfl, rfl, hzx, rfl⟩, below_put hs6 (Nat.le_succ _) _ _ _ _ _⟩
  have y0 := k2.c0
  have y1 := k2.c1
  have y2 := k2.c2
  have yf := k2.fz
  clear k2 hs6 hB hlx hbx hzx K HVh HVe HVd HS HT HLd HD HR HLe HBe HLh HO
  go_wp2
  exact bodyPost_ret (v := .tuple #[.agg #[.bool false, .slice Ax mx cx, .int .i64 0], .int .i64 0]) (by simp [results, Tryd.results50, go_sem, y0, y1, y2]) rfl Hfin.out
end Go.Proofs.YtnkbdjbcfkflpaaDoor
