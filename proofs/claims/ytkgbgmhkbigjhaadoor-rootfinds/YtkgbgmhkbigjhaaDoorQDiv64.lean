/- The walks of math/bits.LeadingZeros64 and of math/bits.Div64. -/
import Derived.Test.YtkgbgmhkbigjhaaDoorQMath
import Derived.Test.YtkgbgmhkbigjhaaDoorPBits
import Derived.BigQuiet
import Derived.Deep.CutBlock
import Derived.Deep.LoopGhost
import Derived.Deep.Light
namespace Go.Proofs.YtkgbgmhkbigjhaaDoor
open Go.RowKit

theorem lead_any (x s : Nat) (w : World) (hx : x < 18446744073709551616) (hs : Hid (s + blen x = 64)) :
    Calls Tryd.prog 57 #[.int .u64 (x : Int)] w fun e w' => e = .returned (.int .i64 (s : Int)) ∧ w = w' := by
  have hL := len_any x w hx
  have h1 := hs.out
  generalize blen x = b at hL h1
  have HL := Lib.hid hL
  have e1 : (64 : Int) - (b : Int) = (s : Int) := by omega
  have h2 : b ≤ 64 := by omega
  clear hL h1 hs
  go_enter Tryd.func57, Tryd.ntmps57
  go_wp2_with fail
  refine HL.out.mono ?_
  rintro e w' ⟨rfl, rfl⟩
  go_wp2
  go_ret
  exact ⟨rfl, rfl⟩

theorem ret_two {a b c d : Int} (h1 : a = c) (h2 : b = d) : Ending.returned (.tuple #[.int .u64 a, .int .u64 b]) = .returned (.tuple #[.int .u64 c, .int .u64 d]) := by rw [h1, h2]

theorem div64_low (lo y q r : Nat) (w : World) (hlo : lo < 18446744073709551616) (hy : y < 18446744073709551616) (hr : r < y) (hq : Hid (lo = q * y + r)) :
    Calls Tryd.prog 55 #[.int .u64 0, .int .u64 (lo : Int), .int .u64 (y : Int)] w fun e w' => e = .returned (.tuple #[.int .u64 (q : Int), .int .u64 (r : Int)]) ∧ ∃ k, w' = w.drewN k := by
  have hy0 : 0 < y := by omega
  have e1 : (lo : Int) / (y : Int) = (q : Int) := by
    have : lo / y = q := by rw [hq.out, Nat.add_comm, Nat.add_mul_div_right _ _ hy0, Nat.div_eq_of_lt hr, Nat.zero_add]
    rw [← this]; simp
  have e2 : (lo : Int) % (y : Int) = (r : Int) := by
    have : lo % y = r := by rw [hq.out, Nat.add_comm, Nat.add_mul_mod_self_right, Nat.mod_eq_of_lt hr]
    rw [← this]; simp
  have b1 : ((y : Int) == 0) = false := beq_eq_false_iff_ne.2 (by omega)
  have b2 : decide ((y : Int) ≤ 0) = false := by simp; omega
  have b3 : decide (y ≤ 0) = false := by simp; omega
  have b4 : (y : Int) ≠ 0 := by omega
  have hq2 : q < 18446744073709551616 := by
    have h1 := hq.out
    have h2 : q * 1 ≤ q * y := Nat.mul_le_mul_left _ hy0
    omega
  have HE := Lib.hid (And.intro (wrapN q hq2) e2)
  clear hq
  go_enter Tryd.func55, Tryd.ntmps55
  go_wp2
  go_quiet (fail)
  go_wp2
  go_ret2
  exact ⟨ret_two rfl HE.out.2, _, rfl⟩

set_option maxHeartbeats 2000000 in
set_option maxRecDepth 100000 in
theorem div64_high (hi lo y q r s : Nat) (w : World) (hhi : hi < y) (hh0 : 0 < hi) (hlo : lo < 18446744073709551616) (hy : y < 18446744073709551616) (hr : r < y) (hq : Hid (hi * 18446744073709551616 + lo = q * y + r)) (hs : Hid (s + blen y = 64)) :
    Calls Tryd.prog 55 #[.int .u64 (hi : Int), .int .u64 (lo : Int), .int .u64 (y : Int)] w fun e w' => e = .returned (.tuple #[.int .u64 (q : Int), .int .u64 (r : Int)]) ∧ ∃ k, w' = w.drewN k := by
  have hs64 : s ≤ 63 := by have := blen_pos (show y ≠ 0 by omega); have := hs.out; omega
  obtain ⟨n1, n2, n3, n4, n5, n6⟩ := norm_parts hs.out (show y ≠ 0 by omega) hhi hlo
  have Hlead := Lib.hid (lead_any y s w hy hs)
  have e0 : IntKind.u64.wrap (64 - (s : Int)) = ((64 - s : Nat) : Int) := by rw [IntKind.wrap_u64]; omega
  have eY : IntKind.u64.wrap ((y : Int) * 2 ^ s) = ((y * 2 ^ s : Nat) : Int) := by rw [← wrapN _ n1]; simp
  have eU : bits BinOp.or IntKind.u64 (IntKind.u64.wrap ((hi : Int) * 2 ^ s)) ((lo : Int) / 2 ^ (64 - s)) = ((hi * 2 ^ s + lo / 2 ^ (64 - s) : Nat) : Int) := by
    have a1 : IntKind.u64.wrap ((hi : Int) * 2 ^ s) = ((hi * 2 ^ s : Nat) : Int) := by rw [← wrapN _ n3]; simp
    have a2 : (lo : Int) / 2 ^ (64 - s) = ((lo / 2 ^ (64 - s) : Nat) : Int) := by simp
    rw [a1, a2, bits_or_u64_nat _ _ n3 (by omega), ← Nat.shiftLeft_eq, ← Nat.shiftLeft_add_eq_or_of_lt n4, Nat.shiftLeft_eq]
  have eL : IntKind.u64.wrap ((lo : Int) * 2 ^ s) = ((lo * 2 ^ s % 18446744073709551616 : Nat) : Int) := by rw [← wrapM]; simp
  have HY : Hid (∃ Y, y * 2 ^ s = Y) := ⟨_, rfl⟩
  have hLb : lo * 2 ^ s % 18446744073709551616 < 18446744073709551616 := Nat.mod_lt _ (by decide)
  have HP : Hid (0 < 2 ^ s) := Nat.pow_pos (by decide)
  generalize hYe : y * 2 ^ s = Y at n1 n2 n5 eY
  generalize hi * 2 ^ s + lo / 2 ^ (64 - s) = u at n5 n6 eU
  generalize lo * 2 ^ s % 18446744073709551616 = L at n6 eL hLb
  have HN := Lib.hid n6
  have HYe := Lib.hid hYe
  clear n3 n4 n6 hYe
  obtain ⟨y1, y0, hy1, hy0⟩ : ∃ y1 y0, Y = y1 * 4294967296 + y0 ∧ y0 < 4294967296 := ⟨Y / 4294967296, Y % 4294967296, by omega, by omega⟩
  obtain ⟨u1, u0, hu1, hu0⟩ : ∃ u1 u0, L = u1 * 4294967296 + u0 ∧ u0 < 4294967296 := ⟨L / 4294967296, L % 4294967296, by omega, by omega⟩
  have f1 : (Y : Int) / 4294967296 = (y1 : Int) := by omega
  have f2 : bits BinOp.and IntKind.u64 (Y : Int) 4294967295 = (y0 : Int) := by rw [maskN _ n1]; omega
  have f3 : (L : Int) / 4294967296 = (u1 : Int) := by omega
  have f4 : bits BinOp.and IntKind.u64 (L : Int) 4294967295 = (u0 : Int) := by rw [maskN _ hLb]; omega
  have b1 : ((y : Int) == 0) = false := beq_eq_false_iff_ne.2 (by omega)
  have b2 : decide ((y : Int) ≤ (hi : Int)) = false := by simp; omega
  have b3 : ((hi : Int) == 0) = false := beq_eq_false_iff_ne.2 (by omega)
  have g1 : 2147483648 ≤ y1 := by omega
  have g2 : y1 < 4294967296 := by omega
  have g3 : u1 < 4294967296 := by omega
  have Hy1 := Lib.hid hy1
  have Hu1 := Lib.hid hu1
  clear hy1 hu1
  obtain ⟨Q1, hQ1⟩ : ∃ Q, Q = (u * 4294967296 + u1) / Y := ⟨_, rfl⟩
  obtain ⟨r1, hr1⟩ : ∃ r, r = (u * 4294967296 + u1) % Y := ⟨_, rfl⟩
  have HR1 : Hid (u * 4294967296 + u1 = Q1 * Y + r1) := by rw [hQ1, hr1]; exact (Nat.div_add_mod' _ _).symm
  have hr1b : r1 < Y := by rw [hr1]; exact Nat.mod_lt _ (by omega)
  have hQ1b : Q1 < 4294967296 := by rw [hQ1]; exact quot_less (by omega) (by omega)
  have HQ1 := Lib.hid hQ1
  obtain ⟨Q0, hQ0⟩ : ∃ Q, Q = (r1 * 4294967296 + u0) / Y := ⟨_, rfl⟩
  obtain ⟨r0, hr0⟩ : ∃ r, r = (r1 * 4294967296 + u0) % Y := ⟨_, rfl⟩
  have HR0 : Hid (r1 * 4294967296 + u0 = Q0 * Y + r0) := by rw [hQ0, hr0]; exact (Nat.div_add_mod' _ _).symm
  have hr0b : r0 < Y := by rw [hr0]; exact Nat.mod_lt _ (by omega)
  have hQ0b : Q0 < 4294967296 := by rw [hQ0]; exact quot_less (by omega) (by omega)
  have HQ0 := Lib.hid hQ0
  have Hend : Hid (Q1 * 4294967296 + Q0 = q ∧ r0 / 2 ^ s = r) := halves HP.out HYe.out.symm HN.out Hu1.out HR1.out HR0.out hr0b hq.out hr
  clear hQ1 hr1 hQ0 hr0 HY
  obtain ⟨qa, ra, pa, hqp, hqe, hra, hqd⟩ : ∃ qa ra pa : Nat, qa * y1 = pa ∧ pa + ra = u ∧ ra < y1 ∧ u / y1 = qa := ⟨u / y1, u % y1, u / y1 * y1, rfl, Nat.div_add_mod' _ _, Nat.mod_lt _ (by omega), rfl⟩
  have e1 : (u : Int) / (y1 : Int) = (qa : Int) := by rw [← hqd]; simp
  have e2 : (qa : Int) * (y1 : Int) = (pa : Int) := by rw [← hqp]; simp
  have e3 : (u : Int) - (pa : Int) = (ra : Int) := by omega
  have Hqa : Hid (qa * y1 + ra = u) := by rw [hqp]; exact hqe
  have Hqb : Hid (Q1 ≤ qa) := by
    rw [HQ1.out, ← hqd]
    have h := guess_ge (lo := u1) (hi := u) (P := 4294967296) (v := y1) (W := u * 4294967296 + u1) (V := Y) (by omega) (by omega) (by have := Hy1.out; omega) (by omega)
    exact h
  have hqa : qa ≤ 8589934592 := by
    rw [← hqd]
    have : u / y1 ≤ u / 2147483648 := Nat.div_le_div_left g1 (by decide)
    omega
  have hra : ra < 4294967296 := by omega
  have hpab : pa < 18446744073709551616 := by omega
  clear hqp hqe hqd
  go_enter Tryd.func55, Tryd.ntmps55
  go_upto_block 0 with (go_at_call 57; refine Hlead.out.mono ?_; rintro e w' ⟨rfl, rfl⟩)
  clear f1 f2 f3 f4 e0 eY eU eL b1 b2 b3
  go_cut [15, 16] from 19 (fun s15 s16 w' => s15 = .int .u64 (Q1 : Int) ∧ (∃ z, s16 = .int .u64 z) ∧ w' = w)
  case first =>
    go_wp2_with fail
    go_loopg [15, 16] qa (fun g a b wx => wx = w ∧ ∃ qa ra : Nat, qa = g ∧ a = .int .u64 qa ∧ b = .int .u64 ra ∧ ra < 4294967296 ∧ qa ≤ 8589934592 ∧ Hid (qa * y1 + ra = u) ∧ Hid (Q1 ≤ qa))
    case atStart => exact ⟨rfl, _, _, rfl, rfl, rfl, hra, hqa, Hqa, Hqb⟩
    case round =>
      clear e1 e2 e3 hqa hra Hqa Hqb
      obtain ⟨rfl, qa, ra, rfl, rfl, rfl, hra, hqa, HE, HG⟩ := hrel
      obtain ⟨p, hp⟩ : ∃ p, qa * y0 = p := ⟨_, rfl⟩
      obtain ⟨t, ht⟩ : ∃ t, 4294967296 * ra + u1 = t := ⟨_, rfl⟩
      obtain ⟨m, hm⟩ : ∃ m, 4294967296 * ra = m := ⟨_, rfl⟩
      obtain ⟨rb, hrb⟩ : ∃ rb, ra + y1 = rb := ⟨_, rfl⟩
      have ep : (qa : Int) * (y0 : Int) = (p : Int) := by rw [← hp]; simp
      have em : 4294967296 * (ra : Int) = (m : Int) := by omega
      have et : (m : Int) + (u1 : Int) = (t : Int) := by omega
      have er : (ra : Int) + (y1 : Int) = (rb : Int) := by omega
      have htb : t < 18446744073709551616 := by omega
      have hmb : m < 18446744073709551616 := by omega
      have hrbb : rb < 18446744073709551616 := by omega
      have Hp := Lib.hid hp
      have Ht := Lib.hid ht
      have Hrb := Lib.hid hrb
      have HE2 : Hid (0 < qa → (qa - 1) * y1 + rb = u) := by
        intro h0
        have h1 := HE.out
        have h2 : (qa - 1) * y1 + y1 = qa * y1 := by rw [← Nat.succ_mul]; congr 1; omega
        omega
      have Hbr : Hid (4294967296 ≤ rb → Q1 < qa → qa - 1 = Q1) := by
        intro h1 h2
        have h3 := HE2.out (by omega)
        have h4 := HQ1.out
        refine Eq.trans ?_ h4.symm
        refine quot_eq ?_ (by omega) (by omega)
        rw [Hy1.out]
        exact (half_le h3).2 (half_break h3 h1 (by rw [← Hy1.out]; exact n5) hy0)
      have hgr : Hid (4294967296 ≤ qa → Q1 < qa) := by
        intro h1
        rw [HQ1.out]; exact quot_less (half_big h1 n5 (by omega)) (by omega)
      have hgs : Hid (t < p → Q1 < qa) := by
        intro h1
        rw [HQ1.out]
        refine quot_less ?_ (by omega)
        rcases Nat.lt_or_ge (u * 4294967296 + u1) (qa * Y) with h | h
        · exact h
        · rw [Hy1.out] at h
          have := (half_le HE.out).1 h
          rw [Hp.out, Ht.out] at this
          omega
      have hge : Hid (p ≤ t → qa = Q1) := by
        intro h1
        have h4 := HQ1.out
        refine Eq.trans ?_ h4.symm
        refine quot_eq ?_ (by rw [← h4]; exact HG.out) (by omega)
        rw [Hy1.out]
        refine (half_le HE.out).2 ?_
        rw [Hp.out, Ht.out]
        exact h1
      have hpb : Hid (¬ 4294967296 ≤ qa → p < 18446744073709551616) := by
        intro h1
        rw [← Hp.out]
        have : qa * y0 ≤ 4294967295 * 4294967295 := Nat.mul_le_mul (by omega) (by omega)
        omega
      have Hra := Lib.hid hra
      clear hp ht hm hrb hra
      by_cases hbig : 4294967296 ≤ qa
      · have hlt := hgr.out hbig
        have d1 : decide ((4294967296 : Int) ≤ (qa : Int)) = true := by simp; omega
        have d2 : decide (4294967296 ≤ qa) = true := by simp; omega
        clear hbig ep
        by_cases hbr : 4294967296 ≤ rb
        · have Hend := Lib.hid (Hbr.out hbr hlt)
          have d3 : decide ((4294967296 : Int) ≤ (rb : Int)) = true := by simp; omega
          have d4 : decide (4294967296 ≤ rb) = true := by simp; omega
          clear hbr
          go_wp2
          go_meet
          exact ⟨by rw [← Hend.out]; go_num, ⟨_, rfl⟩, rfl⟩
        · have d3 : decide ((4294967296 : Int) ≤ (rb : Int)) = false := by simp; omega
          have d4 : decide (4294967296 ≤ rb) = false := by simp; omega
          have Hrl := Lib.hid (show rb < 4294967296 by omega)
          have HE3 := Lib.hid (HE2.out (by omega))
          clear hbr
          go_wp2
          go_roundg (qa - 1)
          case rel => exact ⟨rfl, qa - 1, rb, rfl, by go_num, by go_num, Hrl.out, by omega, HE3.out, by show _ ≤ _; omega⟩
          case measure => omega
      · have hpb2 := hpb.out hbig
        have d1 : decide ((4294967296 : Int) ≤ (qa : Int)) = false := by simp; omega
        have d2 : decide (4294967296 ≤ qa) = false := by simp; omega
        clear hbig
        by_cases hgt : t < p
        · have hlt := hgs.out hgt
          by_cases hbr : 4294967296 ≤ rb
          · have Hend := Lib.hid (Hbr.out hbr hlt)
            have d3 : decide ((4294967296 : Int) ≤ (rb : Int)) = true := by simp; omega
            have d4 : decide (4294967296 ≤ rb) = true := by simp; omega
            clear hbr
            go_wp2
            go_meet
            exact ⟨by rw [← Hend.out]; go_num, ⟨_, rfl⟩, rfl⟩
          · have d3 : decide ((4294967296 : Int) ≤ (rb : Int)) = false := by simp; omega
            have d4 : decide (4294967296 ≤ rb) = false := by simp; omega
            have Hrl := Lib.hid (show rb < 4294967296 by omega)
            have HE3 := Lib.hid (HE2.out (by omega))
            clear hbr
            go_wp2
            go_roundg (qa - 1)
            case rel => exact ⟨rfl, qa - 1, rb, rfl, by go_num, by go_num, Hrl.out, by omega, HE3.out, by show _ ≤ _; omega⟩
            case measure => omega
        · have hend := hge.out (by omega)
          have Hend := Lib.hid hend
          clear hend
          go_wp2
          go_meet
          exact ⟨by rw [← Hend.out], ⟨_, rfl⟩, rfl⟩
  case rest =>
    obtain ⟨rfl, ⟨z, rfl⟩, rfl⟩ := hcut
    clear e1 e2 e3 hqa hra Hqa Hqb hpab Hlead
    obtain ⟨ka1, kb1, kc1, k1, k2, k3, k4⟩ : ∃ a b c : Nat, IntKind.u64.wrap ((u : Int) * 4294967296) = (a : Int) ∧ IntKind.u64.wrap ((a : Int) + (u1 : Int)) = (b : Int) ∧ IntKind.u64.wrap ((Q1 : Int) * (Y : Int)) = (c : Int) ∧ IntKind.u64.wrap ((b : Int) - (c : Int)) = (r1 : Int) := by
      have h := HR1.out
      have e := Int.natCast_mul Q1 Y
      generalize Q1 * Y = P at h e
      refine ⟨u * 4294967296 % 18446744073709551616, (u * 4294967296 % 18446744073709551616 + u1) % 18446744073709551616, P % 18446744073709551616, ?_, ?_, ?_, ?_⟩
      · rw [IntKind.wrap_u64]; omega
      · rw [IntKind.wrap_u64]; omega
      · rw [← e, IntKind.wrap_u64]; omega
      · rw [IntKind.wrap_u64]; omega
    obtain ⟨qa, ra, pa, hqp, hqe, hra, hqd⟩ : ∃ qa ra pa : Nat, qa * y1 = pa ∧ pa + ra = r1 ∧ ra < y1 ∧ r1 / y1 = qa := ⟨r1 / y1, r1 % y1, r1 / y1 * y1, rfl, Nat.div_add_mod' _ _, Nat.mod_lt _ (by omega), rfl⟩
    have e1 : (r1 : Int) / (y1 : Int) = (qa : Int) := by rw [← hqd]; simp
    have e2 : (qa : Int) * (y1 : Int) = (pa : Int) := by rw [← hqp]; simp
    have e3 : (r1 : Int) - (pa : Int) = (ra : Int) := by omega
    have Hqa : Hid (qa * y1 + ra = r1) := by rw [hqp]; exact hqe
    have Hqb : Hid (Q0 ≤ qa) := by
      rw [HQ0.out, ← hqd]
      have h := guess_ge (lo := u0) (hi := r1) (P := 4294967296) (v := y1) (W := r1 * 4294967296 + u0) (V := Y) (by omega) (by omega) (by have := Hy1.out; omega) (by omega)
      exact h
    have hqa : qa ≤ 8589934592 := by
      rw [← hqd]
      have : r1 / y1 ≤ r1 / 2147483648 := Nat.div_le_div_left g1 (by decide)
      omega
    have hra : ra < 4294967296 := by omega
    have hpab : pa < 18446744073709551616 := by omega
    clear hqp hqe hqd
    go_upto_block 2 with fail
    clear k1 k2 k3 k4
    go_cut [18, 16] from 19 (fun s18 s16 w' => s18 = .int .u64 (Q0 : Int) ∧ (∃ z, s16 = .int .u64 z) ∧ w' = wc)
    case first =>
      go_wp2_with fail
      go_loopg [18, 16] qa (fun g a b wx => wx = wc ∧ ∃ qa ra : Nat, qa = g ∧ a = .int .u64 qa ∧ b = .int .u64 ra ∧ ra < 4294967296 ∧ qa ≤ 8589934592 ∧ Hid (qa * y1 + ra = r1) ∧ Hid (Q0 ≤ qa))
      case atStart => exact ⟨rfl, _, _, rfl, rfl, rfl, hra, hqa, Hqa, Hqb⟩
      case round =>
        clear e1 e2 e3 hqa hra Hqa Hqb
        obtain ⟨rfl, qa, ra, rfl, rfl, rfl, hra, hqa, HE, HG⟩ := hrel
        obtain ⟨p, hp⟩ : ∃ p, qa * y0 = p := ⟨_, rfl⟩
        obtain ⟨t, ht⟩ : ∃ t, 4294967296 * ra + u0 = t := ⟨_, rfl⟩
        obtain ⟨m, hm⟩ : ∃ m, 4294967296 * ra = m := ⟨_, rfl⟩
        obtain ⟨rb, hrb⟩ : ∃ rb, ra + y1 = rb := ⟨_, rfl⟩
        have ep : (qa : Int) * (y0 : Int) = (p : Int) := by rw [← hp]; simp
        have em : 4294967296 * (ra : Int) = (m : Int) := by omega
        have et : (m : Int) + (u0 : Int) = (t : Int) := by omega
        have er : (ra : Int) + (y1 : Int) = (rb : Int) := by omega
        have htb : t < 18446744073709551616 := by omega
        have hmb : m < 18446744073709551616 := by omega
        have hrbb : rb < 18446744073709551616 := by omega
        have Hp := Lib.hid hp
        have Ht := Lib.hid ht
        have Hrb := Lib.hid hrb
        have HE2 : Hid (0 < qa → (qa - 1) * y1 + rb = r1) := by
          intro h0
          have h1 := HE.out
          have h2 : (qa - 1) * y1 + y1 = qa * y1 := by rw [← Nat.succ_mul]; congr 1; omega
          omega
        have Hbr : Hid (4294967296 ≤ rb → Q0 < qa → qa - 1 = Q0) := by
          intro h1 h2
          have h3 := HE2.out (by omega)
          have h4 := HQ0.out
          refine Eq.trans ?_ h4.symm
          refine quot_eq ?_ (by omega) (by omega)
          rw [Hy1.out]
          exact (half_le h3).2 (half_break h3 h1 (by rw [← Hy1.out]; exact hr1b) hy0)
        have hgr : Hid (4294967296 ≤ qa → Q0 < qa) := by
          intro h1
          rw [HQ0.out]; exact quot_less (half_big h1 hr1b (by omega)) (by omega)
        have hgs : Hid (t < p → Q0 < qa) := by
          intro h1
          rw [HQ0.out]
          refine quot_less ?_ (by omega)
          rcases Nat.lt_or_ge (r1 * 4294967296 + u0) (qa * Y) with h | h
          · exact h
          · rw [Hy1.out] at h
            have := (half_le HE.out).1 h
            rw [Hp.out, Ht.out] at this
            omega
        have hge : Hid (p ≤ t → qa = Q0) := by
          intro h1
          have h4 := HQ0.out
          refine Eq.trans ?_ h4.symm
          refine quot_eq ?_ (by rw [← h4]; exact HG.out) (by omega)
          rw [Hy1.out]
          refine (half_le HE.out).2 ?_
          rw [Hp.out, Ht.out]
          exact h1
        have hpb : Hid (¬ 4294967296 ≤ qa → p < 18446744073709551616) := by
          intro h1
          rw [← Hp.out]
          have : qa * y0 ≤ 4294967295 * 4294967295 := Nat.mul_le_mul (by omega) (by omega)
          omega
        have Hra := Lib.hid hra
        clear hp ht hm hrb hra
        by_cases hbig : 4294967296 ≤ qa
        · have hlt := hgr.out hbig
          have d1 : decide ((4294967296 : Int) ≤ (qa : Int)) = true := by simp; omega
          have d2 : decide (4294967296 ≤ qa) = true := by simp; omega
          clear hbig ep
          by_cases hbr : 4294967296 ≤ rb
          · have Hend := Lib.hid (Hbr.out hbr hlt)
            have d3 : decide ((4294967296 : Int) ≤ (rb : Int)) = true := by simp; omega
            have d4 : decide (4294967296 ≤ rb) = true := by simp; omega
            clear hbr
            go_wp2
            go_meet
            exact ⟨by rw [← Hend.out]; go_num, ⟨_, rfl⟩, rfl⟩
          · have d3 : decide ((4294967296 : Int) ≤ (rb : Int)) = false := by simp; omega
            have d4 : decide (4294967296 ≤ rb) = false := by simp; omega
            have Hrl := Lib.hid (show rb < 4294967296 by omega)
            have HE3 := Lib.hid (HE2.out (by omega))
            clear hbr
            go_wp2
            go_roundg (qa - 1)
            case rel => exact ⟨rfl, qa - 1, rb, rfl, by go_num, by go_num, Hrl.out, by omega, HE3.out, by show _ ≤ _; omega⟩
            case measure => omega
        · have hpb2 := hpb.out hbig
          have d1 : decide ((4294967296 : Int) ≤ (qa : Int)) = false := by simp; omega
          have d2 : decide (4294967296 ≤ qa) = false := by simp; omega
          clear hbig
          by_cases hgt : t < p
          · have hlt := hgs.out hgt
            by_cases hbr : 4294967296 ≤ rb
            · have Hend := Lib.hid (Hbr.out hbr hlt)
              have d3 : decide ((4294967296 : Int) ≤ (rb : Int)) = true := by simp; omega
              have d4 : decide (4294967296 ≤ rb) = true := by simp; omega
              clear hbr
              go_wp2
              go_meet
              exact ⟨by rw [← Hend.out]; go_num, ⟨_, rfl⟩, rfl⟩
            · have d3 : decide ((4294967296 : Int) ≤ (rb : Int)) = false := by simp; omega
              have d4 : decide (4294967296 ≤ rb) = false := by simp; omega
              have Hrl := Lib.hid (show rb < 4294967296 by omega)
              have HE3 := Lib.hid (HE2.out (by omega))
              clear hbr
              go_wp2
              go_roundg (qa - 1)
              case rel => exact ⟨rfl, qa - 1, rb, rfl, by go_num, by go_num, Hrl.out, by omega, HE3.out, by show _ ≤ _; omega⟩
              case measure => omega
          · have hend := hge.out (by omega)
            have Hend := Lib.hid hend
            clear hend
            go_wp2
            go_meet
            exact ⟨by rw [← Hend.out], ⟨_, rfl⟩, rfl⟩
    case rest =>
      obtain ⟨rfl, ⟨z2, rfl⟩, rfl⟩ := hcut
      clear e1 e2 e3 hqa hra Hqa Hqb hpab
      obtain ⟨ka2, kb2, kc2, k1, k2, k3, k4⟩ : ∃ a b c : Nat, IntKind.u64.wrap ((r1 : Int) * 4294967296) = (a : Int) ∧ IntKind.u64.wrap ((a : Int) + (u0 : Int)) = (b : Int) ∧ IntKind.u64.wrap ((Q0 : Int) * (Y : Int)) = (c : Int) ∧ IntKind.u64.wrap ((b : Int) - (c : Int)) = (r0 : Int) := by
        have h := HR0.out
        have e := Int.natCast_mul Q0 Y
        generalize Q0 * Y = P at h e
        refine ⟨r1 * 4294967296 % 18446744073709551616, (r1 * 4294967296 % 18446744073709551616 + u0) % 18446744073709551616, P % 18446744073709551616, ?_, ?_, ?_, ?_⟩
        · rw [IntKind.wrap_u64]; omega
        · rw [IntKind.wrap_u64]; omega
        · rw [← e, IntKind.wrap_u64]; omega
        · rw [IntKind.wrap_u64]; omega
      have m1 : (Q1 : Int) * 4294967296 + (Q0 : Int) = (q : Int) := by have := Hend.out.1; omega
      have m2 : (r0 : Int) / 2 ^ s = (r : Int) := by rw [← Hend.out.2]; simp
      go_wp2
      go_ret2
      exact ⟨rfl, 0, rfl⟩

/-- Any two limbs by a greater one than the upper. -/
theorem div64_any (hi lo y q r : Nat) (w : World) (hhi : hi < y) (hlo : lo < 18446744073709551616) (hy : y < 18446744073709551616) (hr : r < y) (hq : Hid (hi * 18446744073709551616 + lo = q * y + r)) :
    Calls Tryd.prog 55 #[.int .u64 (hi : Int), .int .u64 (lo : Int), .int .u64 (y : Int)] w fun e w' => e = .returned (.tuple #[.int .u64 (q : Int), .int .u64 (r : Int)]) ∧ ∃ k, w' = w.drewN k := by
  rcases Nat.eq_zero_or_pos hi with h0 | h0
  · subst h0
    exact div64_low lo y q r w hlo hy hr (by have := hq.out; rw [Nat.zero_mul, Nat.zero_add] at this; exact this)
  · have h1 := blen_le_iff.2 (show y < 2 ^ 64 from hy)
    exact div64_high hi lo y q r (64 - blen y) w hhi h0 hlo hy hr hq (by show 64 - blen y + blen y = 64; omega)
end Go.Proofs.YtkgbgmhkbigjhaaDoor
