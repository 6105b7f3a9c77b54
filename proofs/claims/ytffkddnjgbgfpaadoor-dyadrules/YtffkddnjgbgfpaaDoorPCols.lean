/- The walk of prod.columns: the product of any two numbers. -/
import Derived.Test.YtffkddnjgbgfpaaDoorPBits
namespace Go.Proofs.YtffkddnjgbgfpaaDoor
open Go.RowKit

set_option maxHeartbeats 4000000 in
set_option maxRecDepth 100000 in
theorem columns_any (A : Option Addr) (n c : Nat) (xs : List Nat) (B : Option Addr) (m d : Nat) (ys : List Nat) (w : World) (hA : Lim w A n c xs) (hB : Lim w B m d ys) (hn1 : 1 ≤ n) (hm1 : 1 ≤ m) (hn : n ≤ 1000000) (hm : m ≤ 1000000) :
    Calls Tryd.prog 40 #[.slice A n c, .slice B m d] w (Tells w (val xs * val ys) (n + m)) := by
  have HA := Lib.hid hA
  have HB := Lib.hid hB
  obtain ⟨L, hL⟩ : ∃ L, n + m = L := ⟨_, rfl⟩
  rw [hL]
  have hmk := run_make_row' (P := Tryd.prog) 22 36 (.int .u64 0) 8 Tryd.underlying22 info64 rfl .i64 .i64 L (by omega) (by omega)
  have e0 : (n : Int) + (m : Int) = (L : Int) := by omega
  clear hA hB
  go_enter Tryd.func40, Tryd.ntmps40
  go_wp2
  clear hmk e0
  go_loopw [6, 7, 8, 24] (fun s6 s7 s8 i wr => ∃ (k lo mi : Nat) (zs : List Nat), k ≤ L ∧ i = .int .i64 k ∧ s6 = .int .u64 lo ∧ s7 = .int .u64 mi ∧ s8 = .int .u64 0 ∧ lo < 18446744073709551616 ∧ mi < 18446744073709551616 ∧ Hid (zs.length = k) ∧ Fill w wr w.heap.size 36 L zs ∧ Hid (val zs + pw k * (lo + 18446744073709551616 * mi) = cols xs ys k)) (fun _ _ _ i _ => L - (intOf i).toNat)
  case atStart => exact ⟨0, 0, 0, [], Nat.zero_le _, rfl, rfl, rfl, rfl, by decide, by decide, rfl, Fill.start w _ _, by simp [Hid, val, cols]⟩
  case round =>
    obtain ⟨w1, rfl⟩ : ∃ w1, w1 = wr := ⟨_, rfl⟩
    obtain ⟨k, lo, mi, zs, hk, rfl, rfl, rfl, rfl, hlo, hmi, Hzl, hF, HE⟩ := hrel
    have HF := Lib.hid hF
    by_cases hlt : k < L
    · obtain ⟨f, hf⟩ : ∃ f, f = k + 1 - m := ⟨_, rfl⟩
      obtain ⟨la, hla⟩ : ∃ la, la = min k (n - 1) := ⟨_, rfl⟩
      have e1 : max (0 : Int) ((k : Int) - (m : Int) + 1) = (f : Int) := by omega
      have e2 : min (k : Int) ((n : Int) - 1) = (la : Int) := by omega
      have Hfirst : Hid (csum xs ys k f = 0) := by
        rcases Nat.lt_or_ge (k + 1) m with h | h
        · rw [show f = 0 from by omega]; rfl
        · exact csum_first (by have := HB.out.len; omega)
      have Hlast : Hid (csum xs ys k (k + 1) = csum xs ys k (la + 1)) := by
        rcases Nat.lt_or_ge k (n - 1) with h | h
        · rw [show la = k from by omega]; rfl
        · exact csum_last (by have := HA.out.len; omega) (by omega)
      have d1 : f ≤ la + 1 := by omega
      have d2 : la < n := by omega
      have d3 : la ≤ k := by omega
      have d4 : k < f + m := by omega
      clear hf hla hF
      go_wp2
      clear e1 e2
      go_loopw [6, 7, 8, 12] (fun s6 s7 s8 i wr2 => ∃ (j lo2 mi2 hi q : Nat), f ≤ j ∧ j ≤ la + 1 ∧ i = .int .i64 j ∧ s6 = .int .u64 lo2 ∧ s7 = .int .u64 mi2 ∧ s8 = .int .u64 hi ∧ hi ≤ j ∧ lo2 < 18446744073709551616 ∧ mi2 < 18446744073709551616 ∧ wr2 = w1.drewN q ∧ Hid (lo2 + 18446744073709551616 * mi2 + 340282366920938463463374607431768211456 * hi = (lo + 18446744073709551616 * mi) + csum xs ys k j)) (fun _ _ _ i _ => la + 1 - (intOf i).toNat)
      case atStart => exact ⟨f, lo, mi, 0, 0, Nat.le_refl _, d1, rfl, rfl, rfl, rfl, Nat.zero_le _, hlo, hmi, rfl, by rw [Hfirst.out]; simp [Hid]⟩
      case round =>
        obtain ⟨j, lo2, mi2, hi, q, hfj, hj, rfl, rfl, rfl, rfl, hhi, hlo2, hmi2, rfl, HI⟩ := hrel
        by_cases hjl : j ≤ la
        · obtain ⟨b, o, hAe, hb, hcl⟩ := (HF.out.lim HA.out).at_ (by omega)
          subst hAe
          have c1 := hcl j (by omega)
          clear hcl
          obtain ⟨b', o', hBe, hb', hcl⟩ := (HF.out.lim HB.out).at_ (by omega)
          subst hBe
          obtain ⟨dd, hdd⟩ : ∃ dd, k - j = dd := ⟨_, rfl⟩
          have c2 := hcl dd (by omega)
          clear hcl
          have hxw := HA.out.words.getD j
          have hyw := HB.out.words.getD dd
          have Hcs : Hid (csum xs ys k (j + 1) = csum xs ys k j + xs.getD j 0 * ys.getD dd 0) := by rw [← hdd]; rfl
          have e3 : (k : Int) - (j : Int) = (dd : Int) := by omega
          have e4 : (j : Int) < (n : Int) := by omega
          have e5 : (dd : Int) < (m : Int) := by omega
          have e6 : (j : Int) ≤ (la : Int) := by omega
          generalize xs.getD j 0 = x at c1 hxw Hcs
          generalize ys.getD dd 0 = y at c2 hyw Hcs
          obtain ⟨h, l, hp, hl⟩ : ∃ h l, l + 18446744073709551616 * h = x * y ∧ l < 18446744073709551616 := ⟨x * y / 18446744073709551616, x * y % 18446744073709551616, by omega, by omega⟩
          obtain ⟨s1, t1, hs1, hs1', ht1⟩ : ∃ s t, s + 18446744073709551616 * t = lo2 + l + 0 ∧ s < 18446744073709551616 ∧ t ≤ 1 := ⟨(lo2 + l) % 18446744073709551616, (lo2 + l) / 18446744073709551616, by omega, by omega, by omega⟩
          have hh : h < 18446744073709551616 := by
            have h1 : x * y < 18446744073709551616 * 18446744073709551616 := Nat.mul_lt_mul'' hxw hyw
            omega
          obtain ⟨s2, t2, hs2, hs2', ht2⟩ : ∃ s t, s + 18446744073709551616 * t = mi2 + h + t1 ∧ s < 18446744073709551616 ∧ t ≤ 1 := ⟨(mi2 + h + t1) % 18446744073709551616, (mi2 + h + t1) / 18446744073709551616, by omega, by omega, by omega⟩
          have HI2 := Lib.hid (acc_step hp hs1 hs2 HI.out)
          rw [← Hcs.out] at HI2
          have hadd1 := add64 lo2 l 0 s1 t1 (by decide) hs1 hs1'
          rw [show ((0 : Nat) : Int) = 0 from rfl] at hadd1
          have hadd2 := add64 mi2 h t1 s2 t2 ht1 hs2 hs2'
          have Hmul := Lib.hid (mul64_any x y h l hxw hyw hp hl)
          clear hp hs1 hs2 HI hdd Hcs
          go_wp2
          go_quiet ((go_at_call 46; exact quiet_more (Hmul.out _)))
          go_wp2
          go_roundw
          case rel => exact ⟨j + 1, s1, s2, hi + t2, _, by omega, by omega, by go_num, rfl, rfl, by go_num, by omega, hs1', hs2', rfl, HI2⟩
          case measure => simp [intOf]; omega
        · obtain rfl : j = la + 1 := by omega
          have c2 := HF.out.cell (j := k) (by omega)
          have c3 := HF.out.frozen k
          have HF' := Lib.hid ((HF.out.drewN q).push (z := lo2) Hzl.out.symm (by omega) hlo2)
          have Hlen : Hid ((zs ++ [lo2]).length = k + 1) := by have := Hzl.out; simp [Hid]; omega
          rw [← Hlast.out] at HI
          have HE2 : Hid (val (zs ++ [lo2]) + pw (k + 1) * (mi2 + 18446744073709551616 * hi) = cols xs ys (k + 1)) := by
            rw [val_snoc, Hzl.out]; exact col_step HE.out HI.out
          have hhi2 : hi < 18446744073709551616 := by omega
          clear HI HE Hfirst Hlast
          go_wp2
          go_roundw
          case rel => exact ⟨k + 1, mi2, hi, zs ++ [lo2], by omega, by go_num, rfl, rfl, rfl, hmi2, hhi2, Hlen, HF'.out, HE2⟩
          case measure => simp [intOf]; omega
    · obtain rfl : k = L := by omega
      have hlim := hF.done Hzl.out
      have HV : Hid (val zs = val xs * val ys) := by
        have h1 := HE.out
        rw [cols_val (by have := HA.out.len; have := HB.out.len; omega)] at h1
        refine col_end h1 ?_
        have := mul_lt_pw HA.out.words HB.out.words
        rw [HA.out.len, HB.out.len, hL] at this
        exact this
      have hbel := hF.below
      clear HE hF
      go_wp2_with fail
      refine (pbare_any (tl zs) _ _ _ zs _ hlim (by omega) rfl).mono ?_
      rintro e w' ⟨rfl, rfl⟩
      go_wp2
      go_ret
      exact tells_trim hlim hbel HV.out (Nat.le_refl _) rfl
end Go.Proofs.YtffkddnjgbgfpaaDoor
