/- The walk of nat.Add: the sum of any two numbers. -/
import Derived.Test.YtgacafdkhailmaaDoorWCmp
import Derived.Test.YtgacafdkhailmaaDoorWBits
namespace Go.Proofs.YtgacafdkhailmaaDoor
open Go.RowKit

theorem info64 : (Tryd.prog.info? 22).map (fun i => (i.zero, i.size, i.bytes)) = some (some (.int .u64 0), 1, 8) := by kernel_rfl

theorem add_step {x y cn s t k X Y Z : Nat} (hs : s + 18446744073709551616 * t = x + y + cn) (h : Z + pw k * cn = X + Y) : Z + pw k * s + pw (k + 1) * t = X + pw k * x + (Y + pw k * y) := by
  have e : pw (k + 1) * t = pw k * (18446744073709551616 * t) := by rw [pw_succ, Nat.mul_assoc, ← Nat.mul_assoc, ← Nat.mul_assoc, Nat.mul_comm (pw k)]
  have e2 : pw k * (s + 18446744073709551616 * t) = pw k * (x + y + cn) := by rw [hs]
  rw [Nat.mul_add, Nat.mul_add, Nat.mul_add] at e2
  omega

set_option maxHeartbeats 2000000 in
theorem add_ge (A : Option Addr) (n c : Nat) (xs : List Nat) (B : Option Addr) (m d : Nat) (ys : List Nat) (w : World) (hA : Lim w A n c xs) (hB : Lim w B m d ys) (hn : n ≤ 1099511627776) (hm : m ≤ 1099511627776) (hle : tl ys ≤ tl xs) :
    Calls Tryd.prog 52 #[.slice A n c, .slice B m d] w (Tells w (val xs + val ys) (tl xs + 1)) := by
  have hP := hA.trim
  have hQ := hB.trim
  have HX := Lib.hid (val_take_tl xs)
  have HY := Lib.hid (val_take_tl ys)
  have l1 := hA.tl_le
  have l2 := hB.tl_le
  obtain ⟨la, hla⟩ : ∃ l, tl xs = l := ⟨_, rfl⟩
  obtain ⟨lb, hlb⟩ : ∃ l, tl ys = l := ⟨_, rfl⟩
  rw [hla] at hle l1 hP HX
  rw [hlb] at hle l2 hQ HY
  rw [hla]
  have Hla := Lib.hid hla
  have Hlb := Lib.hid hlb
  clear hla hlb
  generalize xs.take la = ps at hP HX
  generalize ys.take lb = qs at hQ HY
  have hmk := run_make_row' (P := Tryd.prog) 26 22 (.int .u64 0) 8 Tryd.underlying26 info64 rfl .i64 .i64 (la + 1) (by omega) (by omega)
  rw [show ((la + 1 : Nat) : Int) = (la : Int) + 1 from by omega] at hmk
  have b1 : decide (la < lb) = false := by simp; omega
  go_enter Tryd.func52, Tryd.ntmps52
  go_wp2_with fail
  refine (trim_to la A n c xs _ hA (by omega) Hla).mono ?_
  rintro e w' ⟨rfl, rfl⟩
  go_wp2_with fail
  refine (trim_to lb B m d ys _ hB (by omega) Hlb).mono ?_
  rintro e w' ⟨rfl, rfl⟩
  go_wp2_with fail
  clear hmk b1
  go_loopw [6, 26] (fun cy i wr => ∃ (k cn : Nat) (zs : List Nat), k ≤ la ∧ i = .int .i64 k ∧ cy = .int .u64 cn ∧ cn ≤ 1 ∧ Hid (zs.length = k) ∧ Fill w wr w.heap.size 22 (la + 1) zs ∧ Hid (val zs + pw k * cn = val (ps.take k) + val (qs.take k))) (fun _ i _ => la - (intOf i).toNat)
  case atStart => exact ⟨0, 0, [], Nat.zero_le _, rfl, rfl, Nat.zero_le _, rfl, Fill.start w _ _, by simp [Hid, val]⟩
  case round =>
    obtain ⟨k, cn, zs, hk, rfl, rfl, hcn, Hzl, hF, HE⟩ := hrel
    by_cases hlt : k < la
    · have hQr := hF.lim hQ
      obtain ⟨b, o, hAe, hb, hcl⟩ := (hF.lim hP).at_ (by omega)
      subst hAe
      have c1 := hcl k hlt
      clear hcl
      have c2 := hF.cell (j := k) (by omega)
      have c3 := hF.frozen k
      have hxw := hP.words.getD k
      have hyw := hQ.words.getD k
      obtain ⟨x, hx⟩ : ∃ x, ps.getD k 0 = x := ⟨_, rfl⟩
      obtain ⟨y, hy⟩ : ∃ y, qs.getD k 0 = y := ⟨_, rfl⟩
      rw [hx] at c1 hxw
      rw [hy] at hyw
      obtain ⟨s, t, hst, hs, ht⟩ : ∃ s t, s + 18446744073709551616 * t = x + y + cn ∧ s < 18446744073709551616 ∧ t ≤ 1 := ⟨(x + y + cn) % 18446744073709551616, (x + y + cn) / 18446744073709551616, by omega, by omega, by omega⟩
      have HE' := Lib.hid (add_step hst HE.out)
      rw [← hx, ← hy, ← val_take_succ', ← val_take_succ'] at HE'
      have hadd := add64 x y cn s t hcn hst hs
      have HF' := Lib.hid (hF.push (z := s) Hzl.out.symm (by omega) hs)
      have Hlen : Hid ((zs ++ [s]).length = k + 1) := by have := Hzl.out; simp [Hid]; omega
      have HE2 : Hid (val (zs ++ [s]) + pw (k + 1) * t = val (ps.take (k + 1)) + val (qs.take (k + 1))) := by rw [val_snoc, Hzl.out]; exact HE'.out
      have Hx := Lib.hid hx
      have Hy := Lib.hid hy
      clear hx hy hst HE HE' hF
      have hat := at_any B lb d qs k
      rw [Hy.out] at hat
      have Hat := Lib.hid hat
      clear hat
      go_wp2_with fail
      refine (Hat.out _ hQr (by omega) (by omega)).mono ?_
      rintro e w' ⟨rfl, rfl⟩
      go_wp2
      go_roundw
      case rel => exact ⟨k + 1, t, zs ++ [s], by omega, by go_num, rfl, ht, Hlen, HF'.out, HE2⟩
      case measure => simp [intOf]; omega
    · obtain rfl : k = la := by omega
      have c2 := hF.cell (j := k) (by omega)
      have c3 := hF.frozen k
      have HF' := Lib.hid (hF.push (z := cn) Hzl.out.symm (by omega) (by omega))
      have hlim := HF'.out.done (by have := Hzl.out; simp; omega)
      have HV : Hid (val (zs ++ [cn]) = val xs + val ys) := by
        rw [val_snoc, Hzl.out]
        refine HE.out.trans ?_
        rw [List.take_of_length_le (by have := hP.len; omega), List.take_of_length_le (by have := hQ.len; omega), HX.out, HY.out]
      have hbel := HF'.out.below
      clear HE hF hP hQ HF'
      go_wp2_with fail
      refine (trim_any _ _ _ (zs ++ [cn]) _ hlim (by omega)).mono ?_
      rintro e w' ⟨rfl, rfl⟩
      go_wp2
      go_ret
      exact tells_trim hlim hbel HV.out (Nat.le_refl _) rfl

set_option maxHeartbeats 2000000 in
theorem add_lt (A : Option Addr) (n c : Nat) (xs : List Nat) (B : Option Addr) (m d : Nat) (ys : List Nat) (w : World) (hA : Lim w A n c xs) (hB : Lim w B m d ys) (hn : n ≤ 1099511627776) (hm : m ≤ 1099511627776) (hle : tl xs < tl ys) :
    Calls Tryd.prog 52 #[.slice A n c, .slice B m d] w (Tells w (val xs + val ys) (tl ys + 1)) := by
  have hP := hB.trim
  have hQ := hA.trim
  have HX := Lib.hid (val_take_tl ys)
  have HY := Lib.hid (val_take_tl xs)
  have l1 := hB.tl_le
  have l2 := hA.tl_le
  obtain ⟨la, hla⟩ : ∃ l, tl ys = l := ⟨_, rfl⟩
  obtain ⟨lb, hlb⟩ : ∃ l, tl xs = l := ⟨_, rfl⟩
  rw [hla] at hle l1 hP HX
  rw [hlb] at hle l2 hQ HY
  rw [hla]
  have Hla := Lib.hid hla
  have Hlb := Lib.hid hlb
  clear hla hlb
  generalize ys.take la = ps at hP HX
  generalize xs.take lb = qs at hQ HY
  have hmk := run_make_row' (P := Tryd.prog) 26 22 (.int .u64 0) 8 Tryd.underlying26 info64 rfl .i64 .i64 (la + 1) (by omega) (by omega)
  rw [show ((la + 1 : Nat) : Int) = (la : Int) + 1 from by omega] at hmk
  have b1 : decide (lb < la) = true := by simp; omega
  go_enter Tryd.func52, Tryd.ntmps52
  go_wp2_with fail
  refine (trim_to lb A n c xs _ hA (by omega) Hlb).mono ?_
  rintro e w' ⟨rfl, rfl⟩
  go_wp2_with fail
  refine (trim_to la B m d ys _ hB (by omega) Hla).mono ?_
  rintro e w' ⟨rfl, rfl⟩
  go_wp2_with fail
  clear hmk b1
  go_loopw [6, 26] (fun cy i wr => ∃ (k cn : Nat) (zs : List Nat), k ≤ la ∧ i = .int .i64 k ∧ cy = .int .u64 cn ∧ cn ≤ 1 ∧ Hid (zs.length = k) ∧ Fill w wr w.heap.size 22 (la + 1) zs ∧ Hid (val zs + pw k * cn = val (ps.take k) + val (qs.take k))) (fun _ i _ => la - (intOf i).toNat)
  case atStart => exact ⟨0, 0, [], Nat.zero_le _, rfl, rfl, Nat.zero_le _, rfl, Fill.start w _ _, by simp [Hid, val]⟩
  case round =>
    obtain ⟨k, cn, zs, hk, rfl, rfl, hcn, Hzl, hF, HE⟩ := hrel
    by_cases hlt : k < la
    · have hQr := hF.lim hQ
      obtain ⟨b, o, hAe, hb, hcl⟩ := (hF.lim hP).at_ (by omega)
      subst hAe
      have c1 := hcl k hlt
      clear hcl
      have c2 := hF.cell (j := k) (by omega)
      have c3 := hF.frozen k
      have hxw := hP.words.getD k
      have hyw := hQ.words.getD k
      obtain ⟨x, hx⟩ : ∃ x, ps.getD k 0 = x := ⟨_, rfl⟩
      obtain ⟨y, hy⟩ : ∃ y, qs.getD k 0 = y := ⟨_, rfl⟩
      rw [hx] at c1 hxw
      rw [hy] at hyw
      obtain ⟨s, t, hst, hs, ht⟩ : ∃ s t, s + 18446744073709551616 * t = x + y + cn ∧ s < 18446744073709551616 ∧ t ≤ 1 := ⟨(x + y + cn) % 18446744073709551616, (x + y + cn) / 18446744073709551616, by omega, by omega, by omega⟩
      have HE' := Lib.hid (add_step hst HE.out)
      rw [← hx, ← hy, ← val_take_succ', ← val_take_succ'] at HE'
      have hadd := add64 x y cn s t hcn hst hs
      have HF' := Lib.hid (hF.push (z := s) Hzl.out.symm (by omega) hs)
      have Hlen : Hid ((zs ++ [s]).length = k + 1) := by have := Hzl.out; simp [Hid]; omega
      have HE2 : Hid (val (zs ++ [s]) + pw (k + 1) * t = val (ps.take (k + 1)) + val (qs.take (k + 1))) := by rw [val_snoc, Hzl.out]; exact HE'.out
      have Hx := Lib.hid hx
      have Hy := Lib.hid hy
      clear hx hy hst HE HE' hF
      have hat := at_any A lb c qs k
      rw [Hy.out] at hat
      have Hat := Lib.hid hat
      clear hat
      go_wp2_with fail
      refine (Hat.out _ hQr (by omega) (by omega)).mono ?_
      rintro e w' ⟨rfl, rfl⟩
      go_wp2
      go_roundw
      case rel => exact ⟨k + 1, t, zs ++ [s], by omega, by go_num, rfl, ht, Hlen, HF'.out, HE2⟩
      case measure => simp [intOf]; omega
    · obtain rfl : k = la := by omega
      have c2 := hF.cell (j := k) (by omega)
      have c3 := hF.frozen k
      have HF' := Lib.hid (hF.push (z := cn) Hzl.out.symm (by omega) (by omega))
      have hlim := HF'.out.done (by have := Hzl.out; simp; omega)
      have HV : Hid (val (zs ++ [cn]) = val xs + val ys) := by
        rw [val_snoc, Hzl.out]
        refine HE.out.trans ?_
        rw [List.take_of_length_le (by have := hP.len; omega), List.take_of_length_le (by have := hQ.len; omega), HX.out, HY.out]
        exact Nat.add_comm _ _
      have hbel := HF'.out.below
      clear HE hF hP hQ HF'
      go_wp2_with fail
      refine (trim_any _ _ _ (zs ++ [cn]) _ hlim (by omega)).mono ?_
      rintro e w' ⟨rfl, rfl⟩
      go_wp2
      go_ret
      exact tells_trim hlim hbel HV.out (Nat.le_refl _) rfl

theorem add_any (A : Option Addr) (n c : Nat) (xs : List Nat) (B : Option Addr) (m d : Nat) (ys : List Nat) (w : World) (hA : Lim w A n c xs) (hB : Lim w B m d ys) (hn : n ≤ 1099511627776) (hm : m ≤ 1099511627776) :
    Calls Tryd.prog 52 #[.slice A n c, .slice B m d] w (Tells w (val xs + val ys) (max n m + 1)) := by
  have l1 := hA.tl_le
  have l2 := hB.tl_le
  rcases Nat.lt_or_ge (tl xs) (tl ys) with h | h
  · exact (add_lt A n c xs B m d ys w hA hB hn hm h).mono fun _ _ h => h.wider (by omega)
  · exact (add_ge A n c xs B m d ys w hA hB hn hm h).mono fun _ _ h => h.wider (by omega)
end Go.Proofs.YtgacafdkhailmaaDoor
