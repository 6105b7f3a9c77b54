/- The walks of prod.addTo and prod.Sum. -/
import Derived.Test.YtimajgbkmblfmaaPRMul
import Derived.Test.YtimajgbkmblfmaaPBits
namespace Go.Proofs.Ytimajgbkmblfmaa
open Go.RowKit

set_option maxHeartbeats 4000000 in
set_option maxRecDepth 100000 in
/-- addTo lays xs onto the row at block g, which the caller made. -/
theorem addto_any (w0 w : World) (t L : Nat) (zs : List Nat) (A : Option Addr) (n c : Nat) (xs : List Nat) (hK : Keep .u64 w0 w w0.heap.size t L zs) (hW : Words zs) (hA : Lim w0 A n c xs) (hnL : n ≤ L) (hL : L ≤ 1000000000) (hfit : val zs + val xs < pw L) :
    Calls Try.prog 28 #[.slice (some ⟨w0.heap.size, 0, none⟩) L L, .slice A n c] w fun e w' => e = .returned (.tuple #[]) ∧ ∃ us, Keep .u64 w0 w' w0.heap.size t L us ∧ Words us ∧ val us = val zs + val xs := by
  have HK := Lib.hid hK
  have HW := Lib.hid hW
  have HA := Lib.hid hA
  have Hfit := Lib.hid hfit
  clear hK hW hA hfit
  go_enter Try.func28, Try.ntmps28
  go_wp2
  go_loopw [4, 10] (fun cy i wr => ∃ (k cn : Nat) (us : List Nat), k ≤ n ∧ i = .int .i64 k ∧ cy = .int .u64 cn ∧ cn ≤ 1 ∧ Hid (Keep .u64 w0 wr w0.heap.size t L us) ∧ Hid (Words us) ∧ Hid (val us + pw k * cn = val zs + val (xs.take k))) (fun _ i _ => n - (intOf i).toNat)
  case atStart => exact ⟨0, 0, zs, Nat.zero_le _, rfl, rfl, Nat.zero_le _, HK, HW, by simp [Hid, val]⟩
  case round =>
    obtain ⟨w1, rfl⟩ : ∃ w1, w1 = wr := ⟨_, rfl⟩
    obtain ⟨k, cn, us, hk, rfl, rfl, hcn, HK1, HW1, HE1⟩ := hrel
    by_cases hlt : k < n
    · obtain ⟨b, o, hAe, hb, hcl⟩ := HA.out.at_ (by omega)
      subst hAe
      have c1 := (HK1.out.below.cell (p := ⟨b, o + k, none⟩) hb).trans (hcl k hlt)
      clear hcl
      have c2 := HK1.out.cell (j := k) (by omega)
      have c3 := HK1.out.frozen k
      have hxw := HA.out.words.getD k
      have hyw := HW1.out.getD k
      obtain ⟨x, hx⟩ : ∃ x, xs.getD k 0 = x := ⟨_, rfl⟩
      obtain ⟨y, hy⟩ : ∃ y, us.getD k 0 = y := ⟨_, rfl⟩
      rw [hx] at c1 hxw
      rw [hy] at c2 hyw
      obtain ⟨s, u, hst, hs, ht⟩ : ∃ s t, s + 18446744073709551616 * t = y + x + cn ∧ s < 18446744073709551616 ∧ t ≤ 1 := ⟨(y + x + cn) % 18446744073709551616, (y + x + cn) / 18446744073709551616, by omega, by omega, by omega⟩
      have hadd := add64 y x cn s u hcn hst hs
      have HK2 := Lib.hid (HK1.out.set (z := s) (show k < L by omega))
      have HW2 : Hid (Words (us.set k s)) := HW1.out.set k hs
      have HE2 : Hid (val (us.set k s) + pw (k + 1) * u = val zs + val (xs.take (k + 1))) := by
        have h1 := val_set us k s (by rw [HK1.out.len]; omega)
        rw [hy] at h1
        have h2 := set_step hst h1 HE1.out
        show _ = _
        rw [val_take_succ', hx, ← Nat.add_assoc]
        exact h2
      clear hx hy hst HE1
      go_wp2
      go_roundw
      case rel => exact ⟨k + 1, u, us.set k s, by omega, by go_num, rfl, ht, HK2, HW2, HE2⟩
      case measure => simp [intOf]; omega
    · obtain rfl : k = n := by omega
      have HE1' : Hid (val us + pw k * cn = val zs + val xs) := by
        have h1 := HE1.out
        rw [List.take_of_length_le (by have := HA.out.len; omega)] at h1
        exact h1
      clear HE1
      go_wp2
      go_loopw [4, 7] (fun cy i wr => ∃ (j cn2 : Nat) (vs : List Nat), j ≤ L ∧ i = .int .i64 j ∧ cy = .int .u64 cn2 ∧ cn2 ≤ 1 ∧ Hid (Keep .u64 w0 wr w0.heap.size t L vs) ∧ Hid (Words vs) ∧ Hid (val vs + pw j * cn2 = val zs + val xs)) (fun _ i _ => L - (intOf i).toNat)
      case atStart => exact ⟨k, cn, us, hnL, rfl, rfl, hcn, HK1, HW1, HE1'⟩
      case round =>
        obtain ⟨w2, rfl⟩ : ∃ w2, w2 = wr := ⟨_, rfl⟩
        obtain ⟨j, cn2, vs, hj, rfl, rfl, hcn2, HK2, HW2, HE2⟩ := hrel
        have h01 : cn2 = 0 ∨ cn2 = 1 := by omega
        rcases h01 with rfl | rfl
        · have Hfin : Hid (∃ us, Keep .u64 w0 w2 w0.heap.size t L us ∧ Words us ∧ val us = val zs + val xs) := ⟨vs, HK2.out, HW2.out, by have := HE2.out; rw [Nat.mul_zero, Nat.add_zero] at this; exact this⟩
          clear HE2
          go_wp2
          go_end0
          exact ⟨rfl, Hfin.out⟩
        · have hjL : j < L := by
            rcases Nat.lt_or_ge j L with h | h
            · exact h
            · obtain rfl : j = L := by omega
              have h1 := HE2.out
              have h2 := Hfit.out
              rw [Nat.mul_one] at h1
              omega
          have c2 := HK2.out.cell (j := j) hjL
          have c3 := HK2.out.frozen j
          have hyw := HW2.out.getD j
          obtain ⟨y, hy⟩ : ∃ y, vs.getD j 0 = y := ⟨_, rfl⟩
          rw [hy] at c2 hyw
          obtain ⟨s, u, hst, hs, ht⟩ : ∃ s t, s + 18446744073709551616 * t = y + 0 + 1 ∧ s < 18446744073709551616 ∧ t ≤ 1 := ⟨(y + 1) % 18446744073709551616, (y + 1) / 18446744073709551616, by omega, by omega, by omega⟩
          have hadd := add64 y 0 1 s u (by decide) hst hs
          rw [show ((0 : Nat) : Int) = 0 from rfl, show ((1 : Nat) : Int) = 1 from rfl] at hadd
          have HK3 := Lib.hid (HK2.out.set (z := s) hjL)
          have HW3 : Hid (Words (vs.set j s)) := HW2.out.set j hs
          have HE3 : Hid (val (vs.set j s) + pw (j + 1) * u = val zs + val xs) := by
            have h1 := val_set vs j s (by rw [HK2.out.len]; omega)
            rw [hy] at h1
            have h2 := set_step hst h1 HE2.out
            rw [Nat.mul_zero, Nat.add_zero] at h2
            exact h2
          have e1 : ((1 : Nat) : Int) = 1 := rfl
          rw [e1]
          clear hy hst HE2
          go_wp2
          go_roundw
          case rel => exact ⟨j + 1, u, vs.set j s, by omega, by go_num, rfl, ht, HK3, HW3, HE3⟩
          case measure => simp [intOf]; omega

theorem infoLim : (Try.prog.info? 22).map (fun i => (i.zero, i.size, i.bytes)) = some (some (.slice none 0 0), 1, 24) := by kernel_rfl

/-- A list of numbers in memory: q slices of limbs at block g0. -/
def Lims (w : World) (g0 q : Nat) (As : Nat → Option Addr) (ns cs : Nat → Nat) (xss : Nat → List Nat) : Prop :=
  g0 < w.heap.size ∧ ∀ j, j < q → w.cell? ⟨g0, j, none⟩ = some (.slice (As j) (ns j) (cs j)) ∧ Lim w (As j) (ns j) (cs j) (xss j) ∧ ns j ≤ 1000000

set_option maxHeartbeats 4000000 in
set_option maxRecDepth 100000 in
theorem sum_any (g0 q qc : Nat) (As : Nat → Option Addr) (ns cs : Nat → Nat) (xss : Nat → List Nat) (w : World) (h : Lims w g0 q As ns cs xss) (hq : q ≤ 1000000) (N : Nat) (hN : ∀ j, j < q → ns j ≤ N) :
    Calls Try.prog 14 #[.slice (some ⟨g0, 0, none⟩) q qc] w (Tells w (tot xss q) (N + 1)) := by
  have HL := Lib.hid h
  have HN := Lib.hid hN
  clear h hN
  go_enter Try.func14, Try.ntmps14
  go_wp2
  go_loop [3, 11] (fun lg i => ∃ (k l : Nat), k ≤ q ∧ i = .int .i64 k ∧ lg = .int .i64 l ∧ l ≤ 1000000 ∧ Hid (l ≤ N) ∧ Hid (∀ j, j < k → tl (xss j) ≤ l)) (fun _ i => q - (intOf i).toNat)
  case atStart => exact ⟨0, 0, Nat.zero_le _, rfl, rfl, Nat.zero_le _, Nat.zero_le _, fun j hj => by omega⟩
  case round =>
    obtain ⟨k, l, hk, rfl, rfl, hl, HlN, Hall⟩ := hrel
    by_cases hlt : k < q
    · obtain ⟨c1, hlim, hns⟩ := HL.out.2 k hlt
      have hnN := HN.out k hlt
      have htl := hlim.tl_le
      obtain ⟨lb, hlb⟩ : ∃ lb, tl (xss k) = lb := ⟨_, rfl⟩
      rw [hlb] at htl
      obtain ⟨l2, hl2⟩ : ∃ l2, l2 = max l lb := ⟨_, rfl⟩
      have e1 : max (l : Int) (lb : Int) = (l2 : Int) := by omega
      have hl2' : l2 ≤ 1000000 := by omega
      have HlN2 : Hid (l2 ≤ N) := by have := HlN.out; show l2 ≤ N; omega
      have Hall2 : Hid (∀ j, j < k + 1 → tl (xss j) ≤ l2) := fun j hj => by
        by_cases e : j = k
        · rw [e, hlb]; omega
        · have := Hall.out j (by omega); omega
      have Hbare := Lib.hid (pbare_any lb (As k) (ns k) (cs k) (xss k) w hlim (by omega) hlb)
      generalize As k = Ak at c1 Hbare
      generalize ns k = nk at c1 Hbare
      generalize cs k = ck at c1 Hbare
      clear hlim hns hnN htl hlb Hall HlN hl2
      go_wp2_with fail
      refine Hbare.out.mono ?_
      rintro e w' ⟨rfl, rfl⟩
      go_wp2
      go_round
      case rel => exact ⟨k + 1, l2, by omega, by go_num, by first | rfl | rw [e1], hl2', HlN2, Hall2⟩
      case measure => simp [intOf]; omega
    · obtain rfl : k = q := by omega
      have hmk := run_make_row' (P := Try.prog) 22 23 (.int .u64 0) 8 Try.underlying22 info64 rfl .i64 .i64 (l + 1) (by omega) (by omega)
      rw [show ((l + 1 : Nat) : Int) = (l : Int) + 1 from by omega] at hmk
      go_wp2
      clear hmk
      go_loopw [26] (fun i wr2 => ∃ (j : Nat) (zs : List Nat), j ≤ k ∧ i = .int .i64 j ∧ Hid (Keep .u64 w wr2 w.heap.size 23 (l + 1) zs) ∧ Hid (Words zs) ∧ Hid (val zs = tot xss j)) (fun i _ => k - (intOf i).toNat)
      case atStart => exact ⟨0, List.replicate (l + 1) 0, Nat.zero_le _, rfl, Keep.start _ _ _ _, fun x hx => by rw [(List.mem_replicate.1 hx).2]; decide, by rw [val_zeros]; rfl⟩
      case round =>
        obtain ⟨w2, rfl⟩ : ∃ w2, w2 = wr := ⟨_, rfl⟩
        obtain ⟨j, zs, hj, rfl, HK, HW, HV⟩ := hrel
        by_cases hjk : j < k
        · obtain ⟨c0, hlim, hns⟩ := HL.out.2 j hjk
          have c1 := (HK.out.below.cell (p := ⟨g0, j, none⟩) HL.out.1).trans c0
          have hlim2 := hlim.trim
          have htl := Hall.out j hjk
          have hval := val_take_tl (xss j)
          obtain ⟨lb, hlb⟩ : ∃ lb, tl (xss j) = lb := ⟨_, rfl⟩
          rw [hlb] at htl hlim2 hval
          have Hbare := Lib.hid (pbare_any lb (As j) (ns j) (cs j) (xss j) w2 (hlim.keep (Nat.le_of_lt HK.out.2.1.lt) (fun p hp => HK.out.below.cell hp)) (by omega) hlb)
          have hfit : val zs + val ((xss j).take lb) < pw (l + 1) := by
            rw [HV.out, hval]
            have h1 : tot xss (j + 1) < pw (l + 1) := tot_lt (fun i hi => by
              obtain ⟨_, hli, _⟩ := HL.out.2 i (by omega)
              have h2 := val_lt_tl hli.words
              have h3 := pw_mono (Hall.out i (by omega))
              omega) (by omega)
            exact h1
          have hadd := addto_any w w2 23 (l + 1) zs (As j) lb (cs j) ((xss j).take lb) HK.out HW.out hlim2 (by omega) (by omega) hfit
          rw [hval, HV.out] at hadd
          have Hadd := Lib.hid hadd
          generalize As j = Aj at c1 Hbare Hadd
          generalize ns j = nj at c1 Hbare
          generalize cs j = cj at c1 Hbare Hadd
          clear c0 hlim hns hlim2 htl hval hlb hfit hadd
          go_wp2_with fail
          refine Hbare.out.mono ?_
          rintro e w' ⟨rfl, rfl⟩
          go_wp2_with fail
          refine Hadd.out.mono ?_
          rintro e w3 ⟨rfl, us, hK3, hW3, hV3⟩
          have HK3 := Lib.hid hK3
          have HW3 := Lib.hid hW3
          have HV3 : Hid (val us = tot xss (j + 1)) := hV3
          clear hK3 hW3 hV3
          go_wp2
          go_roundw
          case rel => exact ⟨j + 1, us, by omega, by go_num, HK3, HW3, HV3⟩
          case measure => simp [intOf]; omega
        · obtain rfl : j = k := by omega
          have hlim : Lim w2 (some ⟨w.heap.size, 0, none⟩) (l + 1) (l + 1) zs := HK.out.row.toLim HW.out
          have hbel := HK.out.below
          have hlN := HlN.out
          clear HL HN Hall
          go_wp2_with fail
          refine (pbare_any (tl zs) _ _ _ zs _ hlim (by omega) rfl).mono ?_
          rintro e w' ⟨rfl, rfl⟩
          go_wp2
          go_ret
          exact tells_trim hlim hbel HV.out (by omega) rfl
end Go.Proofs.Ytimajgbkmblfmaa
