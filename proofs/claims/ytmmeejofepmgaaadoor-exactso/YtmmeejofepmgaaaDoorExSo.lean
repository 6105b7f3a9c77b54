/- The walk of the law ExactSo (written by law_eso.py). -/
import Derived.Test.YtmmeejofepmgaaaDoorExSoM
import Derived.Deep.RegionHeld3
namespace Go.Proofs.YtmmeejofepmgaaaDoor
open Go.RowKit

/-- A dyad in a block, with its list. -/
def BL (u : World) (p : Nat) (g : Bool) (A : Option Addr) (m c : Nat) (zs : List Nat) (E : Int) : Prop := Bd u p 35 g A m c E ∧ Lim u A m c zs
theorem BL.below {u u' : World} {p : Nat} {g : Bool} {A : Option Addr} {m c : Nat} {zs : List Nat} {E : Int} (h : BL u p g A m c zs E) (hb : Below u.heap.size u u') : BL u' p g A m c zs E := ⟨h.1.below hb, h.2.below hb⟩
theorem BL.new {u : World} {g : Bool} {A : Option Addr} {m c : Nat} {zs : List Nat} {E : Int} (h : Lim u A m c zs) : BL (u.alloc (.cells #[.bool g, .slice A m c, .int .i64 E] 35)) u.heap.size g A m c zs E := ⟨Bd.new u _ _ _ _ _ _, h.alloc _⟩
theorem small_mk {m : Nat} {e : Int} (hm : m ≠ 0) (hm9 : m < 4096) (h1 : -40 < e) (h2 : e < 40) : ∃ V E, mk false m e = some ⟨false, V, E⟩ ∧ V % 2 = 1 ∧ blen V ≤ 12 ∧ -60 ≤ E ∧ E ≤ 60 := by
  have hb : blen m ≤ 12 := blen_le_iff.2 hm9
  have hl := low_le_blen m
  have ho : m / 2 ^ low m % 2 = 1 := by
    obtain ⟨q, hq⟩ := low_spec (Nat.pos_of_ne_zero hm)
    have h5 := Nat.mul_div_cancel_left (2 * q + 1) (Nat.two_pow_pos (low m))
    rw [← hq] at h5
    omega
  refine ⟨m / 2 ^ low m, e + low m, ?_, ho, Nat.le_trans (blen_mono (Nat.div_le_self _ _)) hb, by omega, by omega⟩
  unfold mk
  rw [held_id (by omega) (by omega)]
  unfold toldD
  rw [if_neg (fun h => hm (odd_part_zero.1 h)), if_neg (by omega)]

set_option maxHeartbeats 2500000 in
set_option maxRecDepth 20000 in
theorem eso_any (HPow : PowerMeets) (HIs : IsMeets) (r : Nat) (ei mi : Int) (ki ti : Nat) (w : World) (hT : Tab w) (hr : r ≤ 4294967295) (he1 : -32768 ≤ ei) (he2 : ei ≤ 32767) (hm1 : -128 ≤ mi) (hm2 : mi ≤ 127) (hk : ki ≤ 255) (ht : ti ≤ 255) :
    Calls Tryd.prog 4 #[.int .u32 (r : Int), .int .i16 ei, .int .i8 mi, .int .u8 (ki : Int), .int .u8 (ti : Int)] w fun e w' => e = .returned (.bool true) ∧ Below w.heap.size w w' := by
  have H1 := Lib.hid (ealive_any HPow w hT)
  have HT := Lib.hid hT
  have HP := Lib.hid HPow
  have HI := Lib.hid HIs
  obtain ⟨rr, hrr⟩ : ∃ x, r % 4096 = x := ⟨_, rfl⟩
  have err : (r : Int) % 4096 = (rr : Int) := by omega
  have hrr9 : rr < 4096 := by omega
  obtain ⟨eE, heE⟩ : ∃ x, ei.tmod 40 = x := ⟨_, rfl⟩
  obtain ⟨i, hi⟩ : ∃ x, mi.tmod 40 = x := ⟨_, rfl⟩
  have be : -40 < eE ∧ eE < 40 := by
    rw [← heE]
    have h1 := Int.lt_tmod_of_pos ei (show (0 : Int) < 40 by decide)
    have h2 := Int.tmod_lt_of_pos ei (show (0 : Int) < 40 by decide)
    omega
  have bi : -40 < i ∧ i < 40 := by
    rw [← hi]
    have h1 := Int.lt_tmod_of_pos mi (show (0 : Int) < 40 by decide)
    have h2 := Int.tmod_lt_of_pos mi (show (0 : Int) < 40 by decide)
    omega
  obtain ⟨be1, be2⟩ := be
  obtain ⟨bi1, bi2⟩ := bi
  obtain ⟨nn, hnn⟩ : ∃ x, 1 + ki % 12 = x := ⟨_, rfl⟩
  obtain ⟨t, htt⟩ : ∃ x, 1 + ti % 5 = x := ⟨_, rfl⟩
  have enn : 1 + (ki : Int) % 12 = (nn : Int) := by omega
  have ett : 1 + (ti : Int) % 5 = (t : Int) := by omega
  have hn1 : 1 ≤ nn := by omega
  have hn9 : nn ≤ 12 := by omega
  have ht1 : 1 ≤ t := by omega
  have ht9 : t ≤ 5 := by omega
  obtain ⟨it, hit⟩ : ∃ x, i * (t : Int) = x := ⟨_, rfl⟩
  have bit : -200 ≤ it ∧ it ≤ 200 := by
    rw [← hit]
    have h9 : t = 1 ∨ t = 2 ∨ t = 3 ∨ t = 4 ∨ t = 5 := by omega
    rcases h9 with rfl | rfl | rfl | rfl | rfl <;> omega
  obtain ⟨bit1, bit2⟩ := bit
  obtain ⟨nt, hnt⟩ : ∃ x, nn * t = x := ⟨_, rfl⟩
  have ent : (nn : Int) * (t : Int) = (nt : Int) := by rw [← hnt]; exact (Int.natCast_mul _ _).symm
  have hnt9 : nt ≤ 60 := by rw [← hnt]; exact Nat.mul_le_mul hn9 ht9
  have hnt1 : 1 ≤ nt := by rw [← hnt]; exact Nat.mul_pos hn1 ht1
  have Hit := Lib.hid (And.intro hit hnt)
  clear hT HPow HIs hrr hnn htt
  go_enter Tryd.func4, Tryd.ntmps4
  go_wp2_with fail
  refine H1.out.mono ?_
  rintro e w1 ⟨rfl, hB1⟩
  replace HT := Lib.hid (HT.out.below hB1)
  have HS := Lib.hid hB1
  clear hB1 H1
  by_cases hr0 : r = 0
  · subst hr0
    have Hfin := Lib.hid HS.out
    clear HT HS HP HI Hit
    go_wp2
    go_ret
    exact ⟨rfl, Hfin.out⟩
  · have b0 : ((r : Int) == 0) = false := beq_eq_false_iff_ne.2 (by omega)
    have a2 := below1 w1 (.cells #[.int .u64 (rr : Int)] 39)
    have l1 := lim_new1 w1 39 rr (rr : Int) rfl (by omega)
    have v1 : val [rr] = rr := by simp [val]
    have h3 := make_any false (some ⟨w1.heap.size, 0, none⟩) 1 1 [rr] eE _ l1 (by decide) (HT.out.below a2)
    rw [v1] at h3
    have H3 := Lib.hid h3
    replace HT := Lib.hid (HT.out.below a2)
    replace HS := Lib.hid (HS.out.trans (a2.mono HS.out.size))
    clear a2 l1 v1 h3 hr0
    by_cases hz : rr = 0
    · subst hz
      rw [show mk false 0 eE = some ⟨false, 0, 0⟩ from rfl] at H3
      go_wp2_with fail
      refine H3.out.mono ?_
      rintro e w2 ⟨g2, A1, m1, c1, xs, E, r2, rfl, hm1', hl1, hb1, his, hB2⟩
      obtain ⟨rfl, rfl, hv1, rfl⟩ := his
      have hv1' : val xs = 0 := hv1
      have k2 := hB2.trans ((below1 w2 (.cells #[.bool false, .slice A1 m1 c1, .int .i64 0] 35)).mono hB2.size)
      have HBx := Lib.hid (BL.new (g := false) (E := 0) hl1)
      have HSg := Lib.hid (sign_l 0 false A1 m1 c1 xs 0 _ HBx.out.2 (by omega) (by show sgD _ _ = _; rw [hv1']; rfl))
      have s0 := HBx.out.1.c0
      have s1 := HBx.out.1.c1
      have s2 := HBx.out.1.c2
      replace HS := Lib.hid (HS.out.trans (k2.mono HS.out.size))
      clear hB2 hl1 hb1 hv1 hv1' k2 H3 HT HP HI HBx
      go_wp2_with fail
      refine HSg.out.mono ?_
      rintro e w3 ⟨rfl, hB⟩
      have Hfin := Lib.hid (HS.out.trans (hB.mono HS.out.size))
      clear hB HS HSg s0 s1 s2 Hit
      go_wp2
      go_ret
      exact ⟨rfl, Hfin.out⟩
    · obtain ⟨V, E, hmk, hodd, hb12, bE1, bE2⟩ := small_mk hz hrr9 be1 be2
      rw [hmk] at H3
      go_wp2_with fail
      refine H3.out.mono ?_
      rintro e w2 ⟨g2, A1, m1, c1, xs, E', r2, rfl, hm1', hl1, hb1, his, hB2⟩
      obtain ⟨rfl, rfl, hv1, he9⟩ := his
      simp only at he9 hv1
      subst he9
      have k2 := hB2.trans ((below1 w2 (.cells #[.bool false, .slice A1 m1 c1, .int .i64 E'] 35)).mono hB2.size)
      have HBx := Lib.hid (BL.new (g := false) (E := E') hl1)
      have hVn : V ≠ 0 := by omega
      have HSg := Lib.hid (sign_l 1 false A1 m1 c1 xs E' _ HBx.out.2 (by omega) (by show sgD _ _ = _; rw [hv1]; unfold sgD; rw [if_neg hVn]; rfl))
      have s0 := HBx.out.1.c0
      have s1 := HBx.out.1.c1
      have s2 := HBx.out.1.c2
      replace HS := Lib.hid (HS.out.trans (k2.mono HS.out.size))
      replace HT := Lib.hid (HT.out.below k2)
      have HXv := Lib.hid (And.intro hv1 (And.intro hodd hb12))
      clear hB2 hl1 hb1 hv1 k2 H3 hmk hodd hb12 hz hVn
      go_wp2_with fail
      refine HSg.out.mono ?_
      rintro e w3 ⟨rfl, hB⟩
      replace HS := Lib.hid (HS.out.trans (hB.mono HS.out.size))
      replace HT := Lib.hid (HT.out.below hB)
      replace HBx := Lib.hid (HBx.out.below hB)
      clear hB HSg s0 s1 s2
      go_wp2_with fail
      refine (dof_nat 1 (by decide) false 1 0 _ HT.out rfl).mono ?_
      rintro e w4 ⟨B, mB, dB, ys, rfl, hmB, hlB, hbB, hvB, hB4⟩
      have k4 := hB4.trans ((below1 w4 (.cells #[.bool false, .slice B mB dB, .int .i64 0] 35)).mono hB4.size)
      have hlt : w2.heap.size < w4.heap.size := (HBx.out.below hB4).1.lt
      have HH : Hid (Held2 w w2.heap.size false A1 m1 c1 xs E' w4.heap.size false B mB dB ys 0 (w4.alloc (.cells #[.bool false, .slice B mB dB, .int .i64 0] 35))) :=
        ⟨(HBx.out.below k4).1, Bd.new w4 _ _ _ _ _ _, (HBx.out.below k4).2, hlB.alloc _, HT.out.below k4, HS.out.trans (k4.mono HS.out.size)⟩
      have hw4 : w.heap.size ≤ w4.heap.size := Nat.le_trans HS.out.size hB4.size
      have HY0 : Hid (val ys = V ^ 0 ∧ Bare ys) := ⟨by rw [hvB]; rfl, hbB⟩
      have Hlt := Lib.hid (And.intro hlt hw4)
      clear hB4 k4 hlB hbB hvB HT HS HBx hlt hw4
      go_wp2
      go_loopw [14, 16] (fun f jv wr => ∃ (j mY dY : Nat) (Y : Option Addr) (qs : List Nat), f = .int .i64 0 ∧ jv = .int .i64 (j : Int) ∧ j ≤ nn ∧ mY ≤ 1 + j ∧ Hid (val qs = V ^ j ∧ Bare qs) ∧ Hid (Held2 w w2.heap.size false A1 m1 c1 xs E' w4.heap.size false Y mY dY qs (E' * (j : Int)) wr)) (fun _ jv _ => nn - (intOf jv).toNat)
      case atStart => exact ⟨0, mB, dB, B, ys, rfl, rfl, Nat.zero_le _, by omega, HY0, by rw [show E' * ((0 : Nat) : Int) = 0 from Int.mul_zero _]; exact HH⟩
      case round =>
        obtain ⟨wR, rfl⟩ : ∃ wR, wR = wr := ⟨_, rfl⟩
        obtain ⟨j, mY, dY, Y, qs, rfl, rfl, hj, hmY, HQv, HR⟩ := hrel
        clear HH HY0
        by_cases hjn : j < nn
        · obtain ⟨T, hTT⟩ : ∃ T, E' * (j : Int) = T := ⟨_, rfl⟩
          rw [hTT] at HR
          have x0 := HR.out.1.c0
          have x1 := HR.out.1.c1
          have x2 := HR.out.1.c2
          have y0 := HR.out.2.1.c0
          have y1 := HR.out.2.1.c1
          have y2 := HR.out.2.1.c2
          have hmo := mulO_small (j := j) HXv.out.2.1 HXv.out.2.2 bE1 bE2 (by omega)
          rw [hTT] at hmo
          have HM := Lib.hid (dmul_any (some ⟨false, V ^ (j + 1), E' * ((j + 1 : Nat) : Int)⟩) false Y mY dY qs T false A1 m1 c1 xs E' _ HR.out.2.2.2.1 HR.out.2.2.1 (by omega) (by omega) HR.out.2.2.2.2.1 (by show mulO _ _ = _; rw [HQv.out.1, HXv.out.1]; exact hmo))
          clear hmo
          go_wp2_with fail
          refine HM.out.mono ?_
          rintro e w6 ⟨g6, A6, m6, c6, us, E6, r6, rfl, hm6, hl6, hb6, his6, hB6⟩
          obtain ⟨rfl, rfl, hv6, he6⟩ := his6
          simp only at hv6 he6
          have k6 := HR.out.below hB6
          have z0 := k6.2.1.c0
          have z1 := k6.2.1.c1
          have z2 := k6.2.1.c2
          have zf := k6.2.1.fz
          have HR6 := Lib.hid (k6.turn2 (by have := Hlt.out.1; omega) (by have := Hlt.out.2; omega) hl6 false E6)
          have HQ6 : Hid (val us = V ^ (j + 1) ∧ Bare us) := ⟨hv6, hb6⟩
          have HE6 := Lib.hid he6
          clear HM hB6 hl6 hb6 hv6 k6 HR HQv x0 x1 x2 y0 y1 y2 he6 hTT
          go_wp2
          go_roundw
          case rel => exact ⟨j + 1, m6, c6, A6, us, rfl, by go_num, by omega, by omega, HQ6, by rw [← HE6.out]; exact HR6⟩
          case measure => simp [intOf]; omega
        · obtain rfl : j = nn := by omega
          obtain ⟨T, hTT⟩ : ∃ T, E' * (j : Int) = T := ⟨_, rfl⟩
          rw [hTT] at HR
          have hTb := abs_mul_le (e := E') (m := j) (L := 60 * 12) (Nat.mul_le_mul (by omega) hn9)
          rw [hTT] at hTb
          have hmkY : mk false (val qs) T = some ⟨false, V ^ j, T⟩ := by
            rw [HQv.out.1]
            exact mk_odd_self (d := ⟨false, V ^ j, T⟩) (Or.inl ⟨V ^ j / 2, by have := odd_pow HXv.out.2.1 j; show V ^ j = _; omega⟩) (by show -1073741824 ≤ T; omega) (by show T ≤ 1073741824; omega)
          have hmkX : mk false (val xs) E' = some ⟨false, V, E'⟩ := by
            rw [HXv.out.1]
            exact mk_odd_self (d := ⟨false, V, E'⟩) (Or.inl ⟨V / 2, by have := HXv.out.2.1; show V = _; omega⟩) (by show -1073741824 ≤ E'; omega) (by show E' ≤ 1073741824; omega)
          have hV0 : 0 < V := by have := HXv.out.2.1; omega
          have hVj : V ^ j ≠ 0 := Nat.ne_of_gt (Nat.pow_pos hV0)
          have sgY : 0 < sgD false (V ^ j) := by unfold sgD; rw [if_neg hVj]; decide
          have sgX : 0 < sgD false V := by unfold sgD; rw [if_neg (by omega)]; decide
          have HMy := Lib.hid hmkY
          have HF : Hid (0 < V ∧ V ^ j ≠ 0 ∧ 0 < sgD false (V ^ j) ∧ 0 < sgD false V ∧ E' * (j : Int) = T) := ⟨hV0, hVj, sgY, sgX, hTT⟩
          have hA1 := HP.out false Y mY dY qs T i j _ HR.out.2.2.2.1 (by omega) HR.out.2.2.2.2.1 (by omega) (by omega) (by omega) (by omega)
          rw [hmkY] at hA1
          have HA1 := Lib.hid hA1
          have HA2 : Hid (∀ u, Held2 w w2.heap.size false A1 m1 c1 xs E' w4.heap.size false Y mY dY qs T u → Calls Tryd.prog 19 #[.agg #[.bool false, .slice A1 m1 c1, .int .i64 E'], .agg #[.int .i64 i, .int .i64 1]] u (PowTold u (some ⟨false, V, E'⟩) i 1)) := fun u hu => by
            have h := HP.out false A1 m1 c1 xs E' i 1 u hu.2.2.1 (by omega) hu.2.2.2.2.1 (by omega) (by omega) (by decide) (by decide)
            rw [hmkX] at h
            exact h
          have HA3 : Hid (∀ u, Held2 w w2.heap.size false A1 m1 c1 xs E' w4.heap.size false Y mY dY qs T u → Calls Tryd.prog 19 #[.agg #[.bool false, .slice Y mY dY, .int .i64 T], .agg #[.int .i64 it, .int .i64 (nt : Int)]] u (PowTold u (some ⟨false, V ^ j, T⟩) it nt)) := fun u hu => by
            have h := HP.out false Y mY dY qs T it nt u hu.2.2.2.1 (by omega) hu.2.2.2.2.1 (by omega) (by omega) (by omega) (by omega)
            rw [hmkY] at h
            exact h
          clear hA1 hmkY hmkX hV0 hVj sgY sgX HP HQv HXv
          have y0 := HR.out.2.1.c0
          have y1 := HR.out.2.1.c1
          have y2 := HR.out.2.1.c2
          have dj : decide ((j : Int) < (j : Int)) = false := decide_eq_false (by omega)
          have dj2 : decide (j < j) = false := decide_eq_false (by omega)
          have HTT := Lib.hid hTT
          clear hTT
          go_wp2_with fail
          refine HA1.out.mono ?_
          rintro e w7 ⟨Aa, ma, ca, za, ga, Ea, oka, ra, rfl, hma, hla, hba, hBa, hpa⟩
          replace HR := Lib.hid ((HR.out.below hBa).below (below1 w7 (.cells #[.bool ga, .slice Aa ma ca, .int .i64 Ea] 35)))
          have Ba := Lib.hid (BL.new (g := ga) (E := Ea) hla)
          have HPa := Lib.hid hpa
          have HZa := Lib.hid hba
          clear HA1 hla hba hBa hpa y0 y1 y2
          have x0 := HR.out.1.c0
          have x1 := HR.out.1.c1
          have x2 := HR.out.1.c2
          go_wp2_with fail
          refine (HA2.out _ HR.out).mono ?_
          rintro e w8 ⟨Ab, mb, cb, bs, gb, Eb, okb, rb, rfl, hmb, hlb, hbb, hBb, hpb⟩
          have kb8 := hBb.trans ((below1 w8 (.cells #[.bool gb, .slice Ab mb cb, .int .i64 Eb] 35)).mono hBb.size)
          replace HR := Lib.hid (HR.out.below kb8)
          replace Ba := Lib.hid (Ba.out.below kb8)
          have Bb := Lib.hid (BL.new (g := gb) (E := Eb) hlb)
          have HPb := Lib.hid hpb
          clear HA2 hlb hbb hBb hpb kb8 x0 x1 x2
          have y0 := HR.out.2.1.c0
          have y1 := HR.out.2.1.c1
          have y2 := HR.out.2.1.c2
          go_wp2_with fail
          refine (HA3.out _ HR.out).mono ?_
          rintro e w9 ⟨Ac, mc, cc, cs, gc, Ec, okc, rc, rfl, hmc, hlc, hbc, hBc, hpc⟩
          have kc9 := hBc.trans ((below1 w9 (.cells #[.bool gc, .slice Ac mc cc, .int .i64 Ec] 35)).mono hBc.size)
          replace HR := Lib.hid (HR.out.below kc9)
          replace Ba := Lib.hid (Ba.out.below kc9)
          replace Bb := Lib.hid (Bb.out.below kc9)
          have Bc := Lib.hid (BL.new (g := gc) (E := Ec) hlc)
          have hall : ra = 0 ∧ rb = 0 ∧ rc = 0 ∧ (oka = okb ∧ ga = gb ∧ val za = val bs ∧ Ea = Eb) ∧ (oka = okc ∧ ga = gc ∧ val za = val cs ∧ Ea = Ec) ∧ (oka = true → ExIs (V ^ j) T i j ⟨ga, val za, Ea⟩) := by
            obtain ⟨f1, f2, f3, f4, f5⟩ := HF.out
            have pa := HPa.out
            have pb := HPb.out
            have pc := hpc
            unfold PowIs at pa pb pc
            simp only at pa pb pc
            rw [if_pos ⟨f3, by omega⟩, Int.toNat_natCast] at pa
            rw [if_pos ⟨f4, by decide⟩, show (1 : Int).toNat = 1 from rfl] at pb
            rw [if_pos ⟨f3, by omega⟩, Int.toNat_natCast] at pc
            have hj0 : j ≠ 0 := by omega
            have ex1 : ∀ d, ExIs (V ^ j) T i j d ↔ ExIs V E' i 1 d := fun d => by rw [← f5]; exact ex_root hj0
            have ex2 : ∀ d, ExIs (V ^ j) T it nt d ↔ ExIs V E' i 1 d := fun d => by
              rw [← Hit.out.1, ← Hit.out.2, ex_times (by omega)]
              exact ex1 d
            have q1 := pow_one_answer f1 (by decide) ex1 (fun d => Iff.rfl) pa.2 pb.2
            have q2 := pow_one_answer f1 (by decide) ex1 ex2 pa.2 pc.2
            refine ⟨pa.1, pb.1, pc.1, q1, q2, fun h9 => ?_⟩
            rcases pa.2 with ⟨_, h8⟩ | ⟨h8, _⟩
            · exact h8
            · rw [h8] at h9; exact absurd h9 (by decide)
          obtain ⟨rfl, rfl, rfl, q1, q2, q3⟩ := hall
          obtain ⟨rfl, rfl, qv1, rfl⟩ := q1
          obtain ⟨rfl, rfl, qv2, rfl⟩ := q2
          have HC1 := Lib.hid (dcmp_l 0 ga Aa ma ca za Ea ga Ab mb cb bs Ea _ Ba.out.2 Bb.out.2 (by omega) (by omega) HR.out.2.2.2.2.1 (by show _ = _; rw [qv1]; exact cmpI_eq rfl))
          have HC2 : Hid (∀ u, Held2 w w2.heap.size false A1 m1 c1 xs E' w4.heap.size false Y mY dY qs T u → BL u w7.heap.size ga Aa ma ca za Ea → BL u w9.heap.size ga Ac mc cc cs Ea → Calls Tryd.prog 20 #[.agg #[.bool ga, .slice Aa ma ca, .int .i64 Ea], .agg #[.bool ga, .slice Ac mc cc, .int .i64 Ea]] u fun e w' => e = .returned (.int .i64 0) ∧ Below u.heap.size u w') := fun u hu h1 h2 =>
            dcmp_l 0 ga Aa ma ca za Ea ga Ac mc cc cs Ea u h1.2 h2.2 (by omega) (by omega) hu.2.2.2.2.1 (by show _ = _; rw [qv2]; exact cmpI_eq rfl)
          have HEx := Lib.hid q3
          have bk : (oka == oka) = true := by simp
          clear HA3 hlc hbc hBc hpc kc9 y0 y1 y2 qv1 qv2 q3 HPa HPb
          have s0 := Ba.out.1.c0
          have s1 := Ba.out.1.c1
          have s2 := Ba.out.1.c2
          have t0 := Bb.out.1.c0
          have t1 := Bb.out.1.c1
          have t2 := Bb.out.1.c2
          go_wp2_with fail
          refine HC1.out.mono ?_
          rintro e w10 ⟨rfl, hB⟩
          replace HR := Lib.hid (HR.out.below hB)
          replace Ba := Lib.hid (Ba.out.below hB)
          replace Bc := Lib.hid (Bc.out.below hB)
          clear HC1 Bb hB s0 s1 s2 t0 t1 t2
          have s0 := Ba.out.1.c0
          have s1 := Ba.out.1.c1
          have s2 := Ba.out.1.c2
          have t0 := Bc.out.1.c0
          have t1 := Bc.out.1.c1
          have t2 := Bc.out.1.c2
          go_wp2_with fail
          refine (HC2.out _ HR.out Ba.out Bc.out).mono ?_
          rintro e w11 ⟨rfl, hB⟩
          replace HR := Lib.hid (HR.out.below hB)
          replace Ba := Lib.hid (Ba.out.below hB)
          clear HC2 Bc hB s0 s1 s2 t0 t1 t2
          cases oka with
          | false =>
            have Hfin := Lib.hid HR.out.2.2.2.2.2
            clear HR Ba HEx HZa HF HMy HTT HI Hit
            go_wp2
            go_ret
            exact ⟨rfl, Hfin.out⟩
          | true =>
            have hex := HEx.out rfl
            obtain ⟨hg, ho, hE1, hE2, hbk, hrc⟩ := hex
            simp only at hg ho hE1 hE2 hrc
            subst hg
            have hEa := brk_e ho hbk
            have hmkA : mk false (val za) Ea = some ⟨false, val za, Ea⟩ := mk_odd_self (d := ⟨false, val za, Ea⟩) (Or.inl ⟨val za / 2, by show val za = _; omega⟩) hE1 hE2
            have hI1 := HI.out false Y mY dY qs T i j false Aa ma ca za Ea _ HR.out.2.2.2.1 Ba.out.2 (by omega) (by omega) HR.out.2.2.2.2.1 (by omega) (by omega) (by omega) (by omega)
            have HI1 := Lib.hid hI1
            have HX1 : Hid (∀ v, cmpR (mk false (val qs) T) i (mk false (val za) Ea) (j : Int) = (v, 0) → v = 0) := fun v hv => by
              obtain ⟨x, b, a1, a2, _, _, _, _, _, _, a3⟩ := cmpR_ok hv
              rw [HMy.out] at a1
              rw [hmkA] at a2
              obtain rfl := Option.some.inj a1
              obtain rfl := Option.some.inj a2
              rw [a3, Int.toNat_natCast]
              exact hrc
            have HX2 : Hid (∀ v, cmpR (mk false (val qs) T) i (mk false (val (1 :: za)) (Ea - 64)) (j : Int) = (v, 0) → v ≠ 0) := fun v hv => by
              obtain ⟨x, b, a1, a2, _, _, _, _, _, _, a3⟩ := cmpR_ok hv
              have hv1 : val (1 :: za) = 1 + 18446744073709551616 * val za := rfl
              have hm : mk false (val (1 :: za)) (Ea - 64) = some ⟨false, 1 + 18446744073709551616 * val za, Ea - 64⟩ := by
                rw [hv1]
                exact mk_odd_self (d := ⟨false, 1 + 18446744073709551616 * val za, Ea - 64⟩) (Or.inl ⟨9223372036854775808 * val za, by show 1 + 18446744073709551616 * val za = _; omega⟩) (by show -1073741824 ≤ Ea - 64; omega) (by show Ea - 64 ≤ 1073741824; omega)
              rw [HMy.out] at a1
              rw [hm] at a2
              obtain rfl := Option.some.inj a1
              obtain rfl := Option.some.inj a2
              rw [a3, Int.toNat_natCast]
              exact not_both (Nat.pos_of_ne_zero HF.out.2.1) (by omega) ho hEa hE2 hrc
            have wE : IntKind.i64.wrap (Ea - 64) = Ea - 64 := by rw [IntKind.wrap_i64]; omega
            have HEb := Lib.hid (And.intro hEa hE2)
            clear hbk hrc HEx HZa hI1 HF HMy HTT Hit hEa hE1 hE2 hmkA ho
            have s0 := Ba.out.1.c0
            have s1 := Ba.out.1.c1
            have s2 := Ba.out.1.c2
            have y0 := HR.out.2.1.c0
            have y1 := HR.out.2.1.c1
            have y2 := HR.out.2.1.c2
            go_wp2_with fail
            refine HI1.out.mono ?_
            rintro e w12 ⟨so, v9, l, rfl, hB, hc9, hso⟩
            replace HR := Lib.hid (HR.out.below hB)
            replace Ba := Lib.hid (Ba.out.below hB)
            have hso2 : l = 0 → so = true := fun h9 => by
              have h8 := hso h9
              rw [h9] at hc9
              rw [HX1.out v9 hc9] at h8
              exact h8
            have HSo := Lib.hid hso2
            clear HI1 hB hso hso2 hc9 s0 s1 s2 y0 y1 y2 HX1
            have k0 := HR.out.below (below_drew _)
            have K0 : Hid (Held2 w w2.heap.size false A1 m1 c1 xs E' w4.heap.size false Y mY dY qs T w12.drew ∧ BL w12.drew w7.heap.size false Aa ma ca za Ea) := ⟨HR.out.below (below_drew _), Ba.out.below (below_drew _)⟩
            obtain ⟨A9, c9, w14, hrun, hB14, hl14⟩ := app_head Aa ma ca za w12.drew K0.out.2.2 (by omega)
            have a13 := below1 w12.drew (.cells #[.int .u64 1] 39)
            have K1 : Hid (Held2 w w2.heap.size false A1 m1 c1 xs E' w4.heap.size false Y mY dY qs T (w12.drew.alloc (.cells #[.int .u64 1] 39)) ∧ BL (w12.drew.alloc (.cells #[.int .u64 1] 39)) w7.heap.size false Aa ma ca za Ea) := ⟨K0.out.1.below a13, K0.out.2.below a13⟩
            have K2 : Hid (Held2 w w2.heap.size false A1 m1 c1 xs E' w4.heap.size false Y mY dY qs T w14 ∧ BL w14 w7.heap.size false Aa ma ca za Ea) := ⟨K0.out.1.below hB14, K0.out.2.below hB14⟩
            have hI2 := HI.out false Y mY dY qs T i j false A9 (1 + ma) c9 (1 :: za) (Ea - 64) w14 K2.out.1.2.2.2.1 hl14 (by omega) (by omega) K2.out.1.2.2.2.2.1 (by omega) (by omega) (by omega) (by omega)
            have HI2 := Lib.hid hI2
            have Hrun := Lib.hid hrun
            clear k0 hrun hB14 hl14 a13 hI2 HI HR Ba
            go_wp2_with fail
            refine wp_region_noPanic ?_
            refine wp_region_held_drew (S := fun w' => Six w' w4.heap.size false Y mY dY T w7.heap.size false Aa ma ca Ea) (by kernel_rfl) (K0.out.1.2.1.six K0.out.2.1) (fun hHeld => ?_)
            refine wpAnyH_take (i := 0) (v := ?_) rfl (by kernel_rfl) (by kernel_rfl) (by kernel_rfl) (fun _ _ _ h => h) (Or.inl ⟨by rfl, ?_⟩) hHeld ?_
            rotate_left
            · intro w' hSw
              (try dsimp only at hSw)
              go_simp
              all_goals (with_reducible rfl)
            simp only [List.getElem_toArray, List.getElem_cons_zero, Act.put, List.setIfInBounds_toArray, List.set_cons_zero, List.set_cons_succ]
            refine wpAnyH_take (i := 1) (v := ?_) rfl (by kernel_rfl) (by kernel_rfl) (by kernel_rfl) (fun _ _ _ h => h) (Or.inl ⟨by rfl, ?_⟩) hHeld ?_
            rotate_left
            · intro w' hSw
              (try dsimp only at hSw)
              go_simp
              all_goals (with_reducible rfl)
            simp only [List.getElem_toArray, List.getElem_cons_succ, List.getElem_cons_zero, Act.put, List.setIfInBounds_toArray, List.set_cons_zero, List.set_cons_succ]
            refine wpAnyH_take (i := 2) (v := ?_) rfl (by kernel_rfl) (by kernel_rfl) (by kernel_rfl) (fun _ _ _ h => h) (Or.inl ⟨by rfl, ?_⟩) hHeld ?_
            rotate_left
            · intro w' hSw
              (try dsimp only at hSw)
              go_simp
              all_goals (with_reducible rfl)
            simp only [List.getElem_toArray, List.getElem_cons_succ, List.getElem_cons_zero, Act.put, List.setIfInBounds_toArray, List.set_cons_zero, List.set_cons_succ]
            refine wpAnyH_take (i := 3) (v := ?_) rfl (by kernel_rfl) (by kernel_rfl) (by kernel_rfl) (fun _ _ _ h => h) (Or.inl ⟨by rfl, ?_⟩) hHeld ?_
            rotate_left
            · intro w' hSw
              (try dsimp only at hSw)
              go_simp
              all_goals (with_reducible rfl)
            simp only [List.getElem_toArray, List.getElem_cons_succ, List.getElem_cons_zero, Act.put, List.setIfInBounds_toArray, List.set_cons_zero, List.set_cons_succ]
            refine wpAnyH_take (i := 5) (v := ?_) rfl (by kernel_rfl) (by kernel_rfl) (by kernel_rfl) (fun _ _ _ h => h) (Or.inl ⟨by rfl, ?_⟩) hHeld ?_
            rotate_left
            · intro w' hSw
              (try dsimp only at hSw)
              go_simp
              all_goals (with_reducible rfl)
            simp only [List.getElem_toArray, List.getElem_cons_succ, List.getElem_cons_zero, Act.put, List.setIfInBounds_toArray, List.set_cons_zero, List.set_cons_succ]
            refine wpAnyH_take (i := 6) (v := ?_) rfl (by kernel_rfl) (by kernel_rfl) (by kernel_rfl) (fun _ _ _ h => h) (Or.inl ⟨by rfl, ?_⟩) hHeld ?_
            rotate_left
            · intro w' hSw
              (try dsimp only at hSw)
              go_simp
              all_goals (with_reducible rfl)
            simp only [List.getElem_toArray, List.getElem_cons_succ, List.getElem_cons_zero, Act.put, List.setIfInBounds_toArray, List.set_cons_zero, List.set_cons_succ]
            refine wpAnyH_take (i := 8) (v := ?_) rfl (by kernel_rfl) (by kernel_rfl) (by kernel_rfl) (fun _ _ _ h => h) (Or.inl ⟨by rfl, ?_⟩) hHeld ?_
            rotate_left
            · intro w' hSw
              (try dsimp only at hSw)
              go_simp
              all_goals (with_reducible rfl)
            simp only [List.getElem_toArray, List.getElem_cons_succ, List.getElem_cons_zero, Act.put, List.setIfInBounds_toArray, List.set_cons_zero, List.set_cons_succ]
            refine wpAnyH_take (i := 9) (v := ?_) rfl (by kernel_rfl) (by kernel_rfl) (by kernel_rfl) (fun _ _ _ h => h) (Or.inl ⟨by rfl, ?_⟩) hHeld ?_
            rotate_left
            · intro w' hSw
              (try dsimp only at hSw)
              go_simp
              all_goals (with_reducible rfl)
            simp only [List.getElem_toArray, List.getElem_cons_succ, List.getElem_cons_zero, Act.put, List.setIfInBounds_toArray, List.set_cons_zero, List.set_cons_succ]
            refine wpAnyH_take (i := 10) (v := ?_) rfl (by kernel_rfl) (by kernel_rfl) (by kernel_rfl) (fun _ _ _ h => h) (Or.inl ⟨by rfl, ?_⟩) hHeld ?_
            rotate_left
            · intro w' hSw
              (try dsimp only at hSw)
              go_simp
              all_goals (with_reducible rfl)
            simp only [List.getElem_toArray, List.getElem_cons_succ, List.getElem_cons_zero, Act.put, List.setIfInBounds_toArray, List.set_cons_zero, List.set_cons_succ]
            refine wpAnyH_ready (rs := [4]) (by kernel_rfl) (by simp) ?_
            refine AllReadyH.cons rfl (fun K' hK' => ?_) AllReadyH.nil
            go_simp
            refine hK'.out _ _ ?_ (fun hHeld => ?_)
            · exact K1.out.1.2.1.six K1.out.2.1
            clear hK' K'
            refine wpAnyH_ready (rs := [7]) (by kernel_rfl) (by simp) ?_
            refine AllReadyH.cons rfl (fun K' hK' => ?_) AllReadyH.nil
            rw [if_pos (by rfl)]
            refine oper_app (s := .tmp 156) (x := .tmp 158) rfl rfl rfl Hrun.out ?_
            refine hK'.out _ _ ?_ (fun hHeld => ?_)
            · exact K2.out.1.2.1.six K2.out.2.1
            clear hK' K'
            simp only [List.getElem_toArray, List.getElem_cons_succ, List.getElem_cons_zero, Act.put, List.setIfInBounds_toArray, List.set_cons_zero, List.set_cons_succ]
            refine wpAnyH_take (i := 11) (v := ?_) rfl (by kernel_rfl) (by kernel_rfl) (by kernel_rfl) (fun _ _ _ h => h) (Or.inl ⟨by rfl, ?_⟩) hHeld ?_
            rotate_left
            · intro w' hSw
              (try dsimp only at hSw)
              go_simp
              all_goals (with_reducible rfl)
            simp only [List.getElem_toArray, List.getElem_cons_succ, List.getElem_cons_zero, Act.put, List.setIfInBounds_toArray, List.set_cons_zero, List.set_cons_succ]
            refine wpAnyH_ready (rs := [12]) (by kernel_rfl) (by simp) ?_
            refine AllReadyH.cons rfl (fun K' hK' => ?_) AllReadyH.nil
            go_simp
            refine HI2.out.mono ?_
            rintro e w15 ⟨nt9, v15, o15, rfl, hB15, hc15, hn15⟩
            have K3 : Hid (Held2 w w2.heap.size false A1 m1 c1 xs E' w4.heap.size false Y mY dY qs T w15 ∧ BL w15 w7.heap.size false Aa ma ca za Ea) := ⟨K2.out.1.below hB15, K2.out.2.below hB15⟩
            have hno : o15 = 0 → nt9 = false := fun h9 => by
              have h8 := hn15 h9
              rw [h9] at hc15
              rw [decide_eq_false (HX2.out v15 hc15)] at h8
              exact h8
            refine hK'.out _ _ ?_ (fun hHeld => ?_)
            · exact K3.out.1.2.1.six K3.out.2.1
            clear hK' K' hB15 hc15 hn15 HX2 HI2 Hrun K0 K1 K2
            refine wpAnyH_take (i := 13) (v := ?_) rfl (by kernel_rfl) (by kernel_rfl) (by kernel_rfl) (fun _ _ _ h => h) (Or.inl ⟨by rfl, ?_⟩) hHeld ?_
            rotate_left
            · intro w' hSw
              (try dsimp only at hSw)
              go_simp
              all_goals (with_reducible rfl)
            simp only [List.getElem_toArray, List.getElem_cons_succ, List.getElem_cons_zero, Act.put, List.setIfInBounds_toArray, List.set_cons_zero, List.set_cons_succ]
            refine wpAnyH_take (i := 14) (v := ?_) rfl (by kernel_rfl) (by kernel_rfl) (by kernel_rfl) (fun _ _ _ h => h) (Or.inl ⟨by rfl, ?_⟩) hHeld ?_
            rotate_left
            · intro w' hSw
              (try dsimp only at hSw)
              go_simp
              all_goals (with_reducible rfl)
            simp only [List.getElem_toArray, List.getElem_cons_succ, List.getElem_cons_zero, Act.put, List.setIfInBounds_toArray, List.set_cons_zero, List.set_cons_succ]
            refine wpAnyH_take (i := 15) (v := ?_) rfl (by kernel_rfl) (by kernel_rfl) (by kernel_rfl) (fun _ _ _ h => h) (Or.inl ⟨by rfl, ?_⟩) hHeld ?_
            rotate_left
            · intro w' hSw
              (try dsimp only at hSw)
              go_simp
              all_goals (with_reducible rfl)
            simp only [List.getElem_toArray, List.getElem_cons_succ, List.getElem_cons_zero, Act.put, List.setIfInBounds_toArray, List.set_cons_zero, List.set_cons_succ]
            refine wpAnyH_take (i := 16) (v := ?_) rfl (by kernel_rfl) (by kernel_rfl) (by kernel_rfl) (fun _ _ _ h => h) (Or.inl ⟨by rfl, ?_⟩) hHeld ?_
            rotate_left
            · intro w' hSw
              (try dsimp only at hSw)
              go_simp
              all_goals (with_reducible rfl)
            simp only [List.getElem_toArray, List.getElem_cons_succ, List.getElem_cons_zero, Act.put, List.setIfInBounds_toArray, List.set_cons_zero, List.set_cons_succ]
            refine wpAnyH_take (i := 17) (v := ?_) rfl (by kernel_rfl) (by kernel_rfl) (by kernel_rfl) (fun _ _ _ h => h) (Or.inl ⟨by rfl, ?_⟩) hHeld ?_
            rotate_left
            · intro w' hSw
              (try dsimp only at hSw)
              go_simp
              all_goals (with_reducible rfl)
            simp only [List.getElem_toArray, List.getElem_cons_succ, List.getElem_cons_zero, Act.put, List.setIfInBounds_toArray, List.set_cons_zero, List.set_cons_succ]
            refine wpAnyH_done (by kernel_rfl) ?_ _
            refine NoPanic.normal ?_
            have Hfin := Lib.hid K3.out.1.2.2.2.2.2
            have hso := HSo.out
            clear K3 hHeld HSo HEb
            by_cases l0 : l = 0
            · obtain rfl := hso l0
              subst l0
              clear hso
              by_cases o0 : o15 = 0
              · obtain rfl := hno o0
                subst o0
                clear hno
                go_wp2
                go_ret
                exact ⟨rfl, Hfin.out⟩
              · have d0 : (o15 == 0) = false := beq_eq_false_iff_ne.2 o0
                clear hno
                go_wp2
                all_goals first
                  | (exact absurd rfl o0)
                  | (go_ret; exact ⟨rfl, Hfin.out⟩)
            · have d1 : (l == 0) = false := beq_eq_false_iff_ne.2 l0
              clear hso
              by_cases o0 : o15 = 0
              · obtain rfl := hno o0
                subst o0
                clear hno
                go_wp2
                all_goals first
                  | (exact absurd rfl l0)
                  | (go_ret; exact ⟨rfl, Hfin.out⟩)
              · have d0 : (o15 == 0) = false := beq_eq_false_iff_ne.2 o0
                clear hno
                go_wp2
                all_goals first
                  | (exact absurd rfl l0)
                  | (exact absurd rfl o0)
                  | (go_ret; exact ⟨rfl, Hfin.out⟩)

theorem walk_exactSo' (HPow : PowerMeets) (HIs : IsMeets) (r ei mi ki ti : Int) (w : World) (hT : Tab w) (hr1 : 0 ≤ r) (hr2 : r ≤ 4294967295) (he1 : -32768 ≤ ei) (he2 : ei ≤ 32767) (hm1 : -128 ≤ mi) (hm2 : mi ≤ 127) (hk1 : 0 ≤ ki) (hk2 : ki ≤ 255) (ht1 : 0 ≤ ti) (ht2 : ti ≤ 255) :
    Calls Tryd.prog 4 #[.int .u32 r, .int .i16 ei, .int .i8 mi, .int .u8 ki, .int .u8 ti] w fun e w' => e = .returned (.bool true) ∧ Below w.heap.size w w' := by
  obtain ⟨r, rfl⟩ := Int.eq_ofNat_of_zero_le hr1
  obtain ⟨ki, rfl⟩ := Int.eq_ofNat_of_zero_le hk1
  obtain ⟨ti, rfl⟩ := Int.eq_ofNat_of_zero_le ht1
  exact eso_any HPow HIs r ei mi ki ti w hT (by omega) he1 he2 hm1 hm2 (by omega) (by omega)
end Go.Proofs.YtmmeejofepmgaaaDoor
