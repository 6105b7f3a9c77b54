/- The walk of nat.Sub: the difference of any two numbers. -/
import Derived.Test.YtgacafdkhailmaaDoorWAdd
namespace Go.Proofs.YtgacafdkhailmaaDoor
open Go.RowKit

theorem sub_step {x y bn s t k X Y Z : Nat} (hs : s + y + bn = x + 18446744073709551616 * t) (h : Z + Y = X + pw k * bn) : Z + pw k * s + (Y + pw k * y) = X + pw k * x + pw (k + 1) * t := by
  have e : pw (k + 1) * t = pw k * (18446744073709551616 * t) := by rw [pw_succ, Nat.mul_assoc, ← Nat.mul_assoc, ← Nat.mul_assoc, Nat.mul_comm (pw k)]
  have e2 : pw k * (s + y + bn) = pw k * (x + 18446744073709551616 * t) := by rw [hs]
  rw [Nat.mul_add, Nat.mul_add, Nat.mul_add] at e2
  omega

theorem cmpZ_nonneg {x y : Nat} (h : y ≤ x) : 0 ≤ cmpZ x y := by
  rcases Nat.lt_or_ge y x with h' | h'
  · rw [cmpZ_gt h']; decide
  · rw [cmpZ_eq (by omega)]; decide

theorem sub_end {X Y Z bn k : Nat} (h : Z + Y = X + pw k * bn) (hb : bn ≤ 1) (hz : Z < pw k) (hle : Y ≤ X) : Z = X - Y := by
  have : bn = 0 ∨ bn = 1 := by omega
  rcases this with rfl | rfl
  · simp at h; omega
  · simp at h; omega

set_option maxHeartbeats 2000000 in
theorem sub_no (A : Option Addr) (n c : Nat) (xs : List Nat) (B : Option Addr) (m d : Nat) (ys : List Nat) (w : World) (hA : Lim w A n c xs) (hB : Lim w B m d ys) (hn : n ≤ 1099511627776) (hm : m ≤ 1099511627776) (hle : val xs < val ys) :
    Calls Tryd.prog 75 #[.slice A n c, .slice B m d] w fun e w' => e = .returned (.tuple #[.slice none 0 0, .int .i64 1]) ∧ ∃ q, w' = w.drewN q := by
  have hP := hA.trim
  have hQ := hB.trim
  have l1 := hA.tl_le
  have l2 := hB.tl_le
  have hc := cmpZ_lt (show val (xs.take (tl xs)) < val (ys.take (tl ys)) by rw [val_take_tl, val_take_tl]; exact hle)
  have hcmp := cmp_any A (tl xs) c (xs.take (tl xs)) B (tl ys) d (ys.take (tl ys)) w hP hQ (by omega) (by omega)
  rw [hc] at hcmp
  have Hcmp := Lib.hid hcmp
  clear hc hcmp hle
  go_enter Tryd.func75, Tryd.ntmps75
  go_wp2_with fail
  refine (trim_any A n c xs _ hA (by omega)).mono ?_
  rintro e w' ⟨rfl, rfl⟩
  go_wp2_with fail
  refine (trim_any B m d ys _ hB (by omega)).mono ?_
  rintro e w' ⟨rfl, rfl⟩
  go_wp2_with fail
  refine Hcmp.out.mono ?_
  rintro e w' ⟨rfl, q, rfl⟩
  go_wp2
  go_ret2
  exact ⟨rfl, q, rfl⟩

set_option maxHeartbeats 2000000 in
theorem sub_any (A : Option Addr) (n c : Nat) (xs : List Nat) (B : Option Addr) (m d : Nat) (ys : List Nat) (w : World) (hA : Lim w A n c xs) (hB : Lim w B m d ys) (hn : n ≤ 1099511627776) (hm : m ≤ 1099511627776) (hle : val ys ≤ val xs) :
    Calls Tryd.prog 75 #[.slice A n c, .slice B m d] w (Tells2 w (val xs - val ys) n (.int .i64 0)) := by
  have hP := hA.trim
  have hQ := hB.trim
  have HX := Lib.hid (val_take_tl xs)
  have HY := Lib.hid (val_take_tl ys)
  have l1 := hA.tl_le
  have l2 := hB.tl_le
  have l3 := tl_le_of_val_le hA.words hle
  obtain ⟨la, hla⟩ : ∃ l, tl xs = l := ⟨_, rfl⟩
  obtain ⟨lb, hlb⟩ : ∃ l, tl ys = l := ⟨_, rfl⟩
  rw [hla] at l1 l3 hP HX
  rw [hlb] at l2 l3 hQ HY
  have Hla := Lib.hid hla
  have Hlb := Lib.hid hlb
  clear hla hlb
  generalize xs.take la = ps at hP HX
  generalize ys.take lb = qs at hQ HY
  have hcz := cmpZ_nonneg (show val qs ≤ val ps by rw [HX.out, HY.out]; exact hle)
  have hcmp := cmp_any A la c ps B lb d qs w hP hQ (by omega) (by omega)
  generalize cmpZ (val ps) (val qs) = cz at hcz hcmp
  have Hcmp := Lib.hid hcmp
  have Hle := Lib.hid hle
  clear hcmp hle
  have hmk := run_make_row' (P := Tryd.prog) 26 22 (.int .u64 0) 8 Tryd.underlying26 info64 rfl .i64 .i64 la (by omega) (by omega)
  go_enter Tryd.func75, Tryd.ntmps75
  go_wp2_with fail
  refine (trim_to la A n c xs _ hA (by omega) Hla).mono ?_
  rintro e w' ⟨rfl, rfl⟩
  go_wp2_with fail
  refine (trim_to lb B m d ys _ hB (by omega) Hlb).mono ?_
  rintro e w' ⟨rfl, rfl⟩
  go_wp2_with fail
  refine Hcmp.out.mono ?_
  rintro e w1 ⟨rfl, q, hq⟩
  have hb1 : Below w.heap.size w w1 := by rw [hq]; exact below_drewN (Below.refl _ _) q
  have hP1 := hP.below hb1
  have hQ1 := hQ.below hb1
  have hs1 := hb1.size
  clear hq hP hQ hA hB Hcmp
  go_wp2_with fail
  clear hmk
  go_loopw [7, 23] (fun cy i wr => ∃ (k bn : Nat) (zs : List Nat), k ≤ la ∧ i = .int .i64 k ∧ cy = .int .u64 bn ∧ bn ≤ 1 ∧ Hid (zs.length = k) ∧ Fill w1 wr w1.heap.size 22 la zs ∧ Hid (val zs + val (qs.take k) = val (ps.take k) + pw k * bn)) (fun _ i _ => la - (intOf i).toNat)
  case atStart => exact ⟨0, 0, [], Nat.zero_le _, rfl, rfl, Nat.zero_le _, rfl, Fill.start w1 _ _, by simp [Hid, val]⟩
  case round =>
    obtain ⟨k, bn, zs, hk, rfl, rfl, hbn, Hzl, hF, HE⟩ := hrel
    by_cases hlt : k < la
    · have hQr := hF.lim hQ1
      obtain ⟨b, o, hAe, hb, hcl⟩ := (hF.lim hP1).at_ (by omega)
      subst hAe
      have c1 := hcl k hlt
      clear hcl
      have c2 := hF.cell (j := k) (by omega)
      have c3 := hF.frozen k
      have hxw := hP1.words.getD k
      have hyw := hQ1.words.getD k
      obtain ⟨x, hx⟩ : ∃ x, ps.getD k 0 = x := ⟨_, rfl⟩
      obtain ⟨y, hy⟩ : ∃ y, qs.getD k 0 = y := ⟨_, rfl⟩
      rw [hx] at c1 hxw
      rw [hy] at hyw
      obtain ⟨s, t, hst, hs, ht⟩ : ∃ s t, s + y + bn = x + 18446744073709551616 * t ∧ s < 18446744073709551616 ∧ t ≤ 1 := by
        rcases Nat.lt_or_ge x (y + bn) with h | h
        · exact ⟨x + 18446744073709551616 - y - bn, 1, by omega, by omega, by omega⟩
        · exact ⟨x - y - bn, 0, by omega, by omega, by omega⟩
      have HE' := Lib.hid (sub_step hst HE.out)
      rw [← hx, ← hy, ← val_take_succ', ← val_take_succ'] at HE'
      have hsub := sub64 x y bn s t hbn hst hs hxw hyw
      have HF' := Lib.hid (hF.push (z := s) Hzl.out.symm (by omega) hs)
      have Hlen : Hid ((zs ++ [s]).length = k + 1) := by have := Hzl.out; simp [Hid]; omega
      have HE2 : Hid (val (zs ++ [s]) + val (qs.take (k + 1)) = val (ps.take (k + 1)) + pw (k + 1) * t) := by rw [val_snoc, Hzl.out]; exact HE'.out
      have Hx := Lib.hid hx
      have Hy := Lib.hid hy
      clear hx hy hst HE HE' hF
      have hat := at_any B lb d qs k
      rw [Hy.out] at hat
      have Hat := Lib.hid hat
      clear hat
      go_wp2_with fail
      refine (Hat.out _ hQr (by omega) (by omega)).mono ?_
      rintro e w' ⟨rfl, rfl⟩
      go_wp2
      go_roundw
      case rel => exact ⟨k + 1, t, zs ++ [s], by omega, by go_num, rfl, ht, Hlen, HF'.out, HE2⟩
      case measure => simp [intOf]; omega
    · obtain rfl : k = la := by omega
      have hlim := hF.done Hzl.out
      have HV : Hid (val zs = val xs - val ys) := by
        have e1 := HE.out
        rw [List.take_of_length_le (l := ps) (by have := hP1.len; omega), List.take_of_length_le (l := qs) (by have := hQ1.len; omega), HX.out, HY.out] at e1
        have e2 := val_lt hlim.words
        rw [Hzl.out] at e2
        exact sub_end e1 hbn e2 Hle.out
      have hbel := hb1.trans (hF.below.mono hs1)
      clear HE hF hP1 hQ1
      go_wp2_with fail
      refine (trim_any _ _ _ zs _ hlim (by omega)).mono ?_
      rintro e w' ⟨rfl, rfl⟩
      go_wp2
      go_ret2
      exact tells2_trim hlim hbel HV.out l1 rfl
end Go.Proofs.YtgacafdkhailmaaDoor
