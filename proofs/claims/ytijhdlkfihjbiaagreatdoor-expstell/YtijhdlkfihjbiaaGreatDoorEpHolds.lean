/- The walks of planimeterlaw13.Holds and Thin, as layer 14 asks them: exponents that differ a little, any scale (written by law_eholds.py). -/
import Derived.Test.YtijhdlkfihjbiaaGreatDoorK6
import Derived.Test.YtijhdlkfihjbiaaGreatDoorEpUn
namespace Go.Proofs.YtijhdlkfihjbiaaGreatDoor
open Go.RowKit

/-- So many 2^-q, as parts of 2^-s. -/
theorem un_at {N s j : Nat} {q : Int} (hs : s ≤ 9000) (hq : (s : Int) = q + (j : Int)) (hq2 : -9000 ≤ q) : dw false N (-q) = ((N : Int) * ((2 ^ j : Nat) : Int)) * (us s : Int) := by
  rw [dw_shift (k := j) (e := -(s : Int)) false (by rw [held_id (by omega) (by omega), held_id (by omega) (by omega)]; omega), un_one, Int.natCast_mul]
/-- How long a sum is. -/
theorem sum_digs {og fg rg : Bool} {oV fV rV k : Nat} {oE fE : Int} (ho : oV < 2 ^ k) (hf : fV < 2 ^ k) (hr : dw rg rV oE = dw og oV oE + dw fg fV fE) (h1 : -10000 ≤ oE) (h2 : oE ≤ 10000) (h3 : oE ≤ fE) (h4 : fE ≤ oE + 16) : rV < 2 ^ (k + 17) := by
  obtain ⟨j, hj⟩ : ∃ j : Nat, fE = oE + (j : Int) := ⟨(fE - oE).toNat, by omega⟩
  rw [dw_shift (k := j) (e := oE) (f := fE) fg (by rw [held_id (by omega) (by omega), held_id (by omega) (by omega)]; omega)] at hr
  have p : 0 < 2 ^ sh oE := Nat.two_pow_pos _
  have e : ∀ (g : Bool) (V : Nat), dw g V oE = (if g then -(V : Int) else (V : Int)) * ((2 ^ sh oE : Nat) : Int) := fun g V => by
    cases g
    · show ((V * 2 ^ sh oE : Nat) : Int) = (V : Int) * _
      rw [Int.natCast_mul]
    · show -((V * 2 ^ sh oE : Nat) : Int) = -(V : Int) * _
      rw [Int.natCast_mul, Int.neg_mul]
  rw [e, e, e, ← Int.add_mul] at hr
  have h := Int.eq_of_mul_eq_mul_right (by omega) hr
  have f1 : fV * 2 ^ j < 2 ^ k * 65536 := Nat.lt_of_lt_of_le (Nat.mul_lt_mul_of_pos_right hf (Nat.two_pow_pos j)) (Nat.mul_le_mul_left _ (Nat.pow_le_pow_right (n := 2) (by decide) (show j ≤ 16 by omega)))
  have e17 : 2 ^ (k + 17) = 2 ^ k * 131072 := Nat.pow_add ..
  rw [e17]
  generalize fV * 2 ^ j = F at *
  generalize 2 ^ k = K at *
  cases rg <;> cases og <;> cases fg <;> simp only [if_true, Bool.false_eq_true, if_false] at h <;> omega

set_option maxHeartbeats 8000000 in
set_option maxRecDepth 20000 in
theorem eholds_l (g1 : Bool) (A1 : Option Addr) (m1 c1 : Nat) (zs : List Nat) (e1 : Int) (g2 : Bool) (A2 : Option Addr) (m2 c2 : Nat) (us_ : List Nat) (e2 : Int) (og : Bool) (Ao : Option Addr) (mo co : Nat) (os : List Nat) (oE : Int) (fg : Bool) (Af : Option Addr) (mf cf : Nat) (fs : List Nat) (fE : Int) (s : Nat) (Lo Hi : Int) (w : World)
    (h1 : Lim w A1 m1 c1 zs) (h2 : Lim w A2 m2 c2 us_) (ho : Dig w Ao mo co os) (hf : Dig w Af mf cf fs) (bo : D.Bare os) (bf : D.Bare fs) (hm1 : m1 ≤ 160) (hm2 : m2 ≤ 160) (hmo : mo ≤ 60) (hmf : mf ≤ 60) (hoE1 : -10000 ≤ oE) (hoE2 : oE ≤ 10000) (hfE1 : oE ≤ fE) (hfE2 : fE ≤ oE + 16) (ho0 : D.val os ≠ 0) (hs : s ≤ 9000)
    (u1 : Un s Lo ⟨g1, val zs, e1⟩) (u2 : Un s Hi ⟨g2, val us_, e2⟩) (l1 : Lo.natAbs < 2 ^ (s + 4000)) (l2 : Hi.natAbs < 2 ^ (s + 4000))
    (k1 : dw g1 (val zs) e1 ≤ dw og (D.val os) oE + dw fg (D.val fs) fE) (k2 : dw og (D.val os) oE + dw (!fg) (D.val fs) fE ≤ dw g2 (val us_) e2) :
    Calls Tryz.prog 13 #[.agg #[.bool g1, .slice A1 m1 c1, .int .i64 e1, .bool g2, .slice A2 m2 c2, .int .i64 e2], .agg #[.bool og, .slice Ao mo co, .int .i64 oE], .agg #[.bool fg, .slice Af mf cf, .int .i64 fE]] w fun e w' => e = .returned (.bool true) ∧ Below w.heap.size w w' := by
  obtain ⟨⟨bg, bV, bE⟩, n1, v1, x1, y1, z1⟩ := un_nOX u1 hs l1
  obtain ⟨⟨tg, tV, tE⟩, n2, v2, x2, y2, z2⟩ := un_nOX u2 hs l2
  dsimp only at n1 x1 y1 z1 n2 x2 y2 z2
  obtain ⟨⟨rg, rV, rE⟩, r1, _, _, r2, r4, _, r3⟩ := gadd_spec og fg (D.val os) (D.val fs) oE fE (by omega) (by omega) (by omega) (by omega) (by omega) (by omega)
  obtain ⟨⟨sg, sV, sE⟩, s1, _, _, s2, s4, _, s3⟩ := gadd_spec og (!fg) (D.val os) (D.val fs) oE fE (by omega) (by omega) (by omega) (by omega) (by omega) (by omega)
  dsimp only at r1 r2 r4 s1 s2 s4
  have hrE : rE = oE := by rcases r4 with h | h; omega; exact absurd h ho0
  have hsE : sE = oE := by rcases s4 with h | h; omega; exact absurd h ho0
  have do60 := dig_lt ho hmo
  have df60 := dig_lt hf hmf
  have rl := sum_digs do60 df60 (hrE ▸ r1) hoE1 hoE2 hfE1 hfE2
  have sl := sum_digs do60 df60 (hsE ▸ s1) hoE1 hoE2 hfE1 hfE2
  obtain ⟨va, hva⟩ : ∃ v, cmpI (dw bg bV bE) (dw rg rV rE) = v := ⟨_, rfl⟩
  obtain ⟨vb, hvb⟩ : ∃ v, cmpI (dw sg sV sE) (dw tg tV tE) = v := ⟨_, rfl⟩
  have wa : dw bg bV bE = dw g1 (val zs) e1 := by have a := v1.2.2; have b := u1.2.2; dsimp only at a b; rw [a, b]
  have wb : dw tg tV tE = dw g2 (val us_) e2 := by have a := v2.2.2; have b := u2.2.2; dsimp only at a b; rw [a, b]
  have ca : decide (va ≤ (0 : Int)) = true := decide_eq_true (by rw [← hva]; exact cmpI_le (by rw [wa, r1]; exact k1))
  have cb : decide (vb ≤ (0 : Int)) = true := decide_eq_true (by rw [← hvb]; exact cmpI_le (by rw [wb, s1]; exact k2))
  have h0 : HoldT3 w g1 A1 m1 c1 e1 g2 A2 m2 c2 e2 og Ao mo co oE fg Af mf cf fE _ := HoldT3.start
  have cur := Lib.hid (h0.below (below_drew _))
  have HLs : Hid (Lim w A1 m1 c1 zs ∧ Lim w A2 m2 c2 us_ ∧ Dig w Ao mo co os ∧ Dig w Af mf cf fs) := ⟨h1, h2, ho, hf⟩
  have K1 : Hid (∀ u, Below w.heap.size w u → Calls Tryz.prog 43 #[.agg #[.bool g1, .slice A1 m1 c1, .int .i64 e1]] u (NTold u ⟨bg, bV, bE⟩ 640)) := fun u hu => by
    have h := lof_l g1 A1 m1 c1 zs e1 u (h1.below hu) (by omega)
    rw [n1] at h
    exact h.mono fun e w' ⟨A, m, c, ds, k1, k2, k3⟩ => ⟨A, m, c, ds, k1, by omega, k3⟩
  have K2 : Hid (∀ u, Below w.heap.size w u → Calls Tryz.prog 43 #[.agg #[.bool g2, .slice A2 m2 c2, .int .i64 e2]] u (NTold u ⟨tg, tV, tE⟩ 640)) := fun u hu => by
    have h := lof_l g2 A2 m2 c2 us_ e2 u (h2.below hu) (by omega)
    rw [n2] at h
    exact h.mono fun e w' ⟨A, m, c, ds, k1, k2, k3⟩ => ⟨A, m, c, ds, k1, by omega, k3⟩
  have tight : ∀ {u w' : World} {o : Dy} {e : Ending}, o.V < 2 ^ (16 * 60 + 17) → NTold u o 100001 e w' → NTold u o 62 e w' := fun ho h => by
    obtain ⟨A, m, c, ds, k1, k2, k3, k4, k5, k6⟩ := h
    exact ⟨A, m, c, ds, k1, dlen_le k3 k4 k5 ho (by omega), k3, k4, k5, k6⟩
  have K3 : Hid (∀ u, Below w.heap.size w u → Calls Tryz.prog 21 #[.agg #[.bool og, .slice Ao mo co, .int .i64 oE], .agg #[.bool fg, .slice Af mf cf, .int .i64 fE]] u (NTold u ⟨rg, rV, rE⟩ 62)) := fun u hu =>
    (r3 Ao mo co os Af mf cf fs u (ho.below hu) (hf.below hu) bo bf (by omega) (by omega) rfl rfl).mono fun e w' h => tight rl h
  have K4 : Hid (∀ u, Below w.heap.size w u → Calls Tryz.prog 21 #[.agg #[.bool og, .slice Ao mo co, .int .i64 oE], .agg #[.bool (!fg), .slice Af mf cf, .int .i64 fE]] u (NTold u ⟨sg, sV, sE⟩ 62)) := fun u hu =>
    (s3 Ao mo co os Af mf cf fs u (ho.below hu) (hf.below hu) bo bf (by omega) (by omega) rfl rfl).mono fun e w' h => tight sl h
  have K5 : Hid (∀ u A m c ds B p d es, Dig u A m c ds → D.Bare ds → D.val ds = bV → m ≤ 640 → Dig u B p d es → D.Bare es → D.val es = rV → p ≤ 62 → Calls Tryz.prog 30 #[.agg #[.bool bg, .slice A m c, .int .i64 bE], .agg #[.bool rg, .slice B p d, .int .i64 rE]] u fun e w' => e = .returned (.int .i64 va) ∧ Below u.heap.size u w') := fun u A m c ds B p d es a1 a2 a3 a4 a5 a6 a7 a8 =>
    gcmp_any va bg A m c ds bE rg B p d es rE u a1 a5 a2 a6 (by omega) (by omega) (by omega) (by omega) (by omega) (by omega) (by rw [a3, a7]; exact hva)
  have K6 : Hid (∀ u A m c ds B p d es, Dig u A m c ds → D.Bare ds → D.val ds = sV → m ≤ 62 → Dig u B p d es → D.Bare es → D.val es = tV → p ≤ 640 → Calls Tryz.prog 30 #[.agg #[.bool sg, .slice A m c, .int .i64 sE], .agg #[.bool tg, .slice B p d, .int .i64 tE]] u fun e w' => e = .returned (.int .i64 vb) ∧ Below u.heap.size u w') := fun u A m c ds B p d es a1 a2 a3 a4 a5 a6 a7 a8 =>
    gcmp_any vb sg A m c ds sE tg B p d es tE u a1 a5 a2 a6 (by omega) (by omega) (by omega) (by omega) (by omega) (by omega) (by rw [a3, a7]; exact hvb)
  have K7 : Hid (∀ u, Calls Tryz.prog 44 #[.agg #[.bool fg, .slice Af mf cf, .int .i64 fE]] u fun e w' => e = .returned (.agg #[.bool (!fg), .slice Af mf cf, .int .i64 fE]) ∧ Below u.heap.size u w') := fun u => lminus_l fg Af mf cf fE u
  clear h1 h2 ho hf bo bf u1 u2 l1 l2 k1 k2 n1 v1 x1 y1 z1 n2 v2 x2 y2 z2 r1 r2 r3 r4 s1 s2 s3 s4 do60 df60 rl sl hrE hsE hva hvb wa wb h0 tight hoE1 hoE2 hfE1 hfE2 ho0 HLs
  go_enter Tryz.func13, Tryz.ntmps13
  go_wp2_with fail
  go_region_held3 (fun u => u.cell? ⟨w.heap.size, 0, none⟩ = some (.bool g1) ∧ u.cell? ⟨w.heap.size, 1, none⟩ = some (.slice A1 m1 c1) ∧ u.cell? ⟨w.heap.size, 2, none⟩ = some (.int .i64 e1) ∧ u.cell? ⟨w.heap.size, 3, none⟩ = some (.bool g2) ∧ u.cell? ⟨w.heap.size, 4, none⟩ = some (.slice A2 m2 c2) ∧ u.cell? ⟨w.heap.size, 5, none⟩ = some (.int .i64 e2) ∧
      u.cell? ⟨w.heap.size + 1, 0, none⟩ = some (.bool og) ∧ u.cell? ⟨w.heap.size + 1, 1, none⟩ = some (.slice Ao mo co) ∧ u.cell? ⟨w.heap.size + 1, 2, none⟩ = some (.int .i64 oE) ∧
      u.cell? ⟨w.heap.size + 1 + 1, 0, none⟩ = some (.bool fg) ∧ u.cell? ⟨w.heap.size + 1 + 1, 1, none⟩ = some (.slice Af mf cf) ∧ u.cell? ⟨w.heap.size + 1 + 1, 2, none⟩ = some (.int .i64 fE))
    (with_reducible exact cur.out.cells)
    (first
      | (go_at_call 43; (with_reducible refine (K1.out _ cur.out.old).mono ?_); rintro e ua ⟨Aa, ma, ca, da, rfl, hma, hla, hba, hva, hB⟩; (with_reducible (replace cur := Lib.hid (cur.out.below hB))); have La := Lib.hid hla; clear hla; clear hB)
      | (go_at_call 21; (with_reducible refine (K3.out _ cur.out.old).mono ?_); rintro e ub ⟨Ab, mb, cb_, db, rfl, hmb, hlb, hbb, hvb, hB⟩; (with_reducible (replace cur := Lib.hid (cur.out.below hB))); replace La := Lib.hid (La.out.below hB); clear hB)
      | (go_at_call 30; (with_reducible refine (K5.out _ Aa ma ca da Ab mb cb_ db La.out hba hva hma hlb hbb hvb hmb).mono ?_); rintro e uc ⟨rfl, hB⟩; (with_reducible (replace cur := Lib.hid (cur.out.below hB))); clear hB)
      | (go_at_call 44; (with_reducible refine (K7.out _).mono ?_); rintro e ud ⟨rfl, hB⟩; (with_reducible (replace cur := Lib.hid (cur.out.below hB))); clear hB)
      | (go_at_call 21; (with_reducible refine (K4.out _ cur.out.old).mono ?_); rintro e uf ⟨Ac, mc, cc, dc, rfl, hmc, hlc, hbc, hvc, hB⟩; (with_reducible (replace cur := Lib.hid (cur.out.below hB))); have Lc := Lib.hid hlc; clear hlc; clear hB)
      | (go_at_call 43; (with_reducible refine (K2.out _ cur.out.old).mono ?_); rintro e ug ⟨Ad, md, cd, dd, rfl, hmd, hld, hbd, hvd, hB⟩; (with_reducible (replace cur := Lib.hid (cur.out.below hB))); replace Lc := Lib.hid (Lc.out.below hB); clear hB)
      | (go_at_call 30; (with_reducible refine (K6.out _ Ac mc cc dc Ad md cd dd Lc.out hbc hvc hmc hld hbd hvd hmd).mono ?_); rintro e uh ⟨rfl, hB⟩; (with_reducible (replace cur := Lib.hid (cur.out.below hB))); clear hB))
  all_goals (
    have Hfin := Lib.hid cur.out.old
    clear K1 K2 K3 K4 K5 K6 K7 cur
    go_wp2
    go_ret
    exact ⟨rfl, Hfin.out⟩)

set_option maxHeartbeats 8000000 in
set_option maxRecDepth 20000 in
theorem ethin_l (g1 : Bool) (A1 : Option Addr) (m1 c1 : Nat) (zs : List Nat) (e1 : Int) (g2 : Bool) (A2 : Option Addr) (m2 c2 : Nat) (us_ : List Nat) (e2 : Int) (N s j : Nat) (q : Int) (Lo Hi : Int) (w : World)
    (h1 : Lim w A1 m1 c1 zs) (h2 : Lim w A2 m2 c2 us_) (hm1 : m1 ≤ 300) (hm2 : m2 ≤ 300) (hT : Tab w) (hs : s ≤ 9000) (hN : N < 18446744073709551616)
    (u1 : Un s Lo ⟨g1, val zs, e1⟩) (u2 : Un s Hi ⟨g2, val us_, e2⟩) (l1 : Lo.natAbs < 2 ^ (s + 4000)) (l2 : Hi.natAbs < 2 ^ (s + 4000)) (hq : (s : Int) = q + (j : Int)) (hq2 : -9000 ≤ q) (k1 : Lo ≤ Hi) (k2 : Hi - Lo ≤ (N : Int) * ((2 ^ j : Nat) : Int)) :
    Calls Tryz.prog 15 #[.agg #[.bool g1, .slice A1 m1 c1, .int .i64 e1, .bool g2, .slice A2 m2 c2, .int .i64 e2], .int .u64 (N : Int), .int .i64 q] w fun e w' => e = .returned (.bool true) ∧ Below w.heap.size w w' := by
  obtain ⟨⟨bg, bV, bE⟩, hb⟩ := un_mkdX u1 hs l1 (!g1)
  have ub_ := un_neg u1 hb
  have hl1' : (-Lo).natAbs < 2 ^ (s + 4000) := by rw [Int.natAbs_neg]; exact l1
  obtain ⟨dd, hd1, hd2⟩ := un_addX u2 ub_ hs l2 hl1'
  dsimp only at hd1
  have a1 := below1 w (.cells #[.bool g1, .slice A1 m1 c1, .int .i64 e1, .bool g2, .slice A2 m2 c2, .int .i64 e2] 34)
  have HI0 := Lib.hid (Ib.new w g1 A1 m1 c1 e1 g2 A2 m2 c2 e2)
  have HM : Hid (∀ u, Below (w.alloc (.cells #[.bool g1, .slice A1 m1 c1, .int .i64 e1, .bool g2, .slice A2 m2 c2, .int .i64 e2] 34)).heap.size (w.alloc (.cells #[.bool g1, .slice A1 m1 c1, .int .i64 e1, .bool g2, .slice A2 m2 c2, .int .i64 e2] 34)) u → Calls Tryz.prog 47 #[.agg #[.bool g1, .slice A1 m1 c1, .int .i64 e1]] u (Tells1 u bg bV m1 bE)) := fun u hu => minus_any ⟨bg, bV, bE⟩ g1 A1 m1 c1 zs e1 u ((h1.below a1).below hu) (by omega) ((hT.below a1).below hu) hb
  have HA2 : Hid (∀ u A m c es, Below (w.alloc (.cells #[.bool g1, .slice A1 m1 c1, .int .i64 e1, .bool g2, .slice A2 m2 c2, .int .i64 e2] 34)).heap.size (w.alloc (.cells #[.bool g1, .slice A1 m1 c1, .int .i64 e1, .bool g2, .slice A2 m2 c2, .int .i64 e2] 34)) u → Mq u bV A m c es → m ≤ m1 → Calls Tryz.prog 46 #[.agg #[.bool g2, .slice A2 m2 c2, .int .i64 e2], .agg #[.bool bg, .slice A m c, .int .i64 bE]] u (Told u (some dd) 66000)) := fun u A m c es hu q1 q2 => by
    refine (dadd_any (some dd) g2 A2 m2 c2 us_ e2 bg A m c es bE u ((h2.below a1).below hu) q1.1 (by omega) (by omega) ((hT.below a1).below hu) (by show _ = _; rw [q1.2.2]; exact hd1)).mono ?_
    rintro e w' ⟨g9, A9, m9, c9, z9, E9, r9, k1, k2, k3⟩
    exact ⟨g9, A9, m9, c9, z9, E9, r9, k1, by omega, k3⟩
  obtain ⟨va, hva⟩ : ∃ v, cmpI (Hi + -Lo) 0 = v := ⟨_, rfl⟩
  have ca : decide ((0 : Int) ≤ va) = true := decide_eq_true (by
    rw [← hva]
    rcases Int.lt_trichotomy (Hi + -Lo) 0 with h | h | h
    · omega
    · rw [cmpI_eq h]; decide
    · rw [cmpI_gt h]; decide)
  obtain ⟨vb, hvb⟩ : ∃ v, cmpI (Hi + -Lo) ((N : Int) * ((2 ^ j : Nat) : Int)) = v := ⟨_, rfl⟩
  have cb : decide (vb ≤ (0 : Int)) = true := decide_eq_true (by rw [← hvb]; exact cmpI_le (by omega))
  obtain ⟨ss, hss⟩ : ∃ x : Int, -q = x := ⟨_, rfl⟩
  have ws : IntKind.i64.wrap (-q) = ss := by rw [hss, IntKind.wrap_i64]; omega
  have hss1 : -9000 ≤ ss := by omega
  have hss2 : ss ≤ 9000 := by omega
  have hN0 : dw false N ss = ((N : Int) * ((2 ^ j : Nat) : Int)) * (us s : Int) := by rw [← hss]; exact un_at hs hq hq2
  have HK : Hid (Un s (Hi + -Lo) dd ∧ cmpI (Hi + -Lo) 0 = va ∧ cmpI (Hi + -Lo) ((N : Int) * ((2 ^ j : Nat) : Int)) = vb ∧ dw false N ss = ((N : Int) * ((2 ^ j : Nat) : Int)) * (us s : Int) ∧ Tab (w.alloc (.cells #[.bool g1, .slice A1 m1 c1, .int .i64 e1, .bool g2, .slice A2 m2 c2, .int .i64 e2] 34)) ∧ Below w.heap.size w (w.alloc (.cells #[.bool g1, .slice A1 m1 c1, .int .i64 e1, .bool g2, .slice A2 m2 c2, .int .i64 e2] 34))) := ⟨hd2, hva, hvb, hN0, hT.below a1, a1⟩
  clear h1 h2 hT u1 u2 l1 l2 k1 k2 hb ub_ hl1' hd1 hd2 a1 hva hvb hss hN0 hq hq2
  have cur := Lib.hid ((HoldU.start (w.alloc (.cells #[.bool g1, .slice A1 m1 c1, .int .i64 e1, .bool g2, .slice A2 m2 c2, .int .i64 e2] 34))).below (below_drew _))
  have F1 := (HoldU.start (w.alloc (.cells #[.bool g1, .slice A1 m1 c1, .int .i64 e1, .bool g2, .slice A2 m2 c2, .int .i64 e2] 34))).one.below (below_drew _)
  rw [World.size_alloc] at F1
  replace F1 := Lib.hid F1
  go_enter Tryz.func15, Tryz.ntmps15
  go_wp2_with fail
  go_cut [7, 8] from 9 (fun s7 s8 wx => ∃ (p m4 c4 : Nat) (A4 : Option Addr) (g4 : Bool) (E4 : Int) (es4 : List Nat), s7 = .pointer (some ⟨p, 0, none⟩) ∧ s8 = .int .i64 0 ∧ m4 ≤ 66000 ∧ Hid (RelO (w.alloc (.cells #[.bool g1, .slice A1 m1 c1, .int .i64 e1, .bool g2, .slice A2 m2 c2, .int .i64 e2] 34)) p g4 A4 m4 c4 E4 (val es4) es4 wx ∧ dd = ⟨g4, val es4, E4⟩))
  case first =>
    as_aux_lemma =>
    go_region_held3 (fun u => u.cell? ⟨w.heap.size, 0, none⟩ = some (.bool g1) ∧ u.cell? ⟨w.heap.size, 1, none⟩ = some (.slice A1 m1 c1) ∧ u.cell? ⟨w.heap.size, 2, none⟩ = some (.int .i64 e1) ∧ u.cell? ⟨w.heap.size, 3, none⟩ = some (.bool g2) ∧ u.cell? ⟨w.heap.size, 4, none⟩ = some (.slice A2 m2 c2) ∧ u.cell? ⟨w.heap.size, 5, none⟩ = some (.int .i64 e2))
      (first | (with_reducible exact HI0.out.all6 cur.out.old) | (with_reducible exact HI0.out.all6 F1.out.old) | (with_reducible exact HI0.out.all6 (cur.out.a1 _)) | (with_reducible exact HI0.out.all6 (cur.out.at1 _ _ _ _ _)))
      (first
        | (go_at_call 47; (with_reducible refine (HM.out _ (by first | (with_reducible exact cur.out.old) | (with_reducible exact F1.out.old) | (with_reducible exact cur.out.a1 _))).mono ?_); rintro e u1 ⟨A3, m3, c3, es1, rfl, hm3, hl1, hb1, hv1, hB1⟩; (first | (with_reducible (replace cur := Lib.hid (cur.out.below hB1))) | (with_reducible (replace cur := Lib.hid (cur.out.one.below hB1))) | (with_reducible (replace cur := Lib.hid (F1.out.below hB1)))); have L1 : Hid (Mq u1 bV A3 m3 c3 es1) := ⟨hl1, hb1, hv1⟩; clear hl1 hb1 hv1 hB1; (first | (have kx := cur.out.first; have x0 := kx.c0; have x1 := kx.c1; have x2 := kx.c2; have xf := kx.fz; have xl := kx.lt; clear kx) | skip))
        | (go_at_call 46; (with_reducible refine (HA2.out _ A3 m3 c3 es1 (by first | (with_reducible exact cur.out.old) | (with_reducible exact F1.out.old) | (with_reducible exact cur.out.a1 _)) (by first | (with_reducible exact L1.out) | (with_reducible exact L1.out.below (below1 _ _))) hm3).mono ?_); rintro e u2 ⟨g4, A4, m4, c4, es2, E4, r2, rfl, hm4, hl2, hb2, ⟨rfl, hg2, hV2, hE2⟩, hB2⟩; (first | (with_reducible (replace cur := Lib.hid (cur.out.below hB2))) | (with_reducible (replace cur := Lib.hid (cur.out.one.below hB2))) | (with_reducible (replace cur := Lib.hid (F1.out.below hB2)))); have L2 : Hid (Mq u2 (val es2) A4 m4 c4 es2 ∧ dd = ⟨g4, val es2, E4⟩) := ⟨⟨hl2, hb2, rfl⟩, by rw [hg2, hV2, hE2]⟩; clear hl2 hb2 hg2 hV2 hE2 hB2; (first | (have kx := cur.out.first; have x0 := kx.c0; have x1 := kx.c1; have x2 := kx.c2; have xf := kx.fz; have xl := kx.lt; clear kx) | skip)))
    all_goals (go_wp2_with fail)
    all_goals go_meet
    all_goals (refine ⟨_, m4, c4, A4, g4, E4, es2, rfl, rfl, hm4, ?_⟩)
    all_goals (first
      | (have t := RelO.last (g := g4) (E := E4) cur.out L2.out.1; have t2 := And.intro t L2.out.2; (with_reducible exact Lib.hid t2))
      | (have t := RelO.ahead (g := g4) (E := E4) cur.out L2.out.1; have t2 := And.intro t L2.out.2; (with_reducible exact Lib.hid t2)))
  case rest =>
    clear cur F1 HM HA2 HI0
    obtain ⟨ux, rfl⟩ : ∃ ux, ux = wc := ⟨_, rfl⟩
    obtain ⟨px, mx, cx, Ax, gx, Ex, sx, rfl, rfl, hmx, HRx⟩ := hcut
    have HS := Lib.hid (HK.out.2.2.2.2.2.trans (HRx.out.1.1.mono HK.out.2.2.2.2.2.size))
    have HT := Lib.hid (HK.out.2.2.2.2.1.below HRx.out.1.1)
    have HU : Hid (Un s (Hi + -Lo) ⟨gx, val sx, Ex⟩ ∧ cmpI (Hi + -Lo) 0 = va ∧ cmpI (Hi + -Lo) ((N : Int) * ((2 ^ j : Nat) : Int)) = vb ∧ dw false N ss = ((N : Int) * ((2 ^ j : Nat) : Int)) * (us s : Int)) := ⟨by rw [← HRx.out.2]; exact HK.out.1, HK.out.2.1, HK.out.2.2.1, HK.out.2.2.2.1⟩
    have HX : Hid (Bd ux px 32 gx Ax mx cx Ex) := HRx.out.1.2.1
    have HXl : Hid (Lim ux Ax mx cx sx) := HRx.out.1.2.2.1.1
    clear HRx HK
    have HX_0 := HX.out.c0
    have HX_1 := HX.out.c1
    have HX_2 := HX.out.c2
    have H1 := Lib.hid (sign_l va gx Ax mx cx sx Ex ux HXl.out (by omega) (by show _ = _; have h := un_sg HU.out.1; rw [HU.out.2.1] at h; exact h))
    go_wp2_with fail
    refine H1.out.mono ?_
    rintro e w1 ⟨rfl, hB⟩
    clear HX_0 HX_1 HX_2
    replace HT : Hid (Tab w1) := HT.out.below hB
    replace HX : Hid (Bd w1 px 32 gx Ax mx cx Ex) := HX.out.below hB
    replace HXl : Hid (Lim w1 Ax mx cx sx) := HXl.out.below hB
    replace HS := Lib.hid (HS.out.trans (hB.mono HS.out.size))
    clear hB H1
    have HX_0 := HX.out.c0
    have HX_1 := HX.out.c1
    have HX_2 := HX.out.c2
    have hln := lim_new1 w1 46 N (N : Int) rfl hN
    have bln := below1 w1 (.cells #[.int .u64 (N : Int)] 46)
    have H2 := Lib.hid (dcmp_l vb gx Ax mx cx sx Ex false (some ⟨w1.heap.size, 0, none⟩) 1 1 [N] ss (w1.alloc (.cells #[.int .u64 (N : Int)] 46)) (HXl.out.below bln) hln (by omega) (by decide) (HT.out.below bln) (by show _ = _; rw [show val [N] = N by simp [val], HU.out.2.2.2, HU.out.1.2.2, cmpI_mul (us_pos s)]; exact HU.out.2.2.1))
    replace HS := Lib.hid (HS.out.trans (bln.mono HS.out.size))
    clear hln bln
    go_wp2_with fail
    refine H2.out.mono ?_
    rintro e w2 ⟨rfl, hB⟩
    have Hfin := Lib.hid (HS.out.trans (hB.mono HS.out.size))
    clear HX_0 HX_1 HX_2
    clear hB H2 HS HU HT HX HXl
    go_wp2
    go_ret
    exact ⟨rfl, Hfin.out⟩
end Go.Proofs.YtijhdlkfihjbiaaGreatDoor
