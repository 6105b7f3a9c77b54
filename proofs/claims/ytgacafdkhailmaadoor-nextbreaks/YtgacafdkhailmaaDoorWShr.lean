/- The walk of nat.Shr. -/
import Derived.Test.YtgacafdkhailmaaDoorWSmall
import Derived.Deep.RegionHeld3
import Derived.StillTailTactics
namespace Go.Proofs.YtgacafdkhailmaaDoor
open Go.RowKit

theorem Tab.below {w w' : World} (h : Tab w) (hb : Below w.heap.size w w') : Tab w' := fun j hj => by
  have hc := h j hj
  exact (hb.cell (p := ⟨0, j, none⟩) (World.block_lt_of_cell? _ _ hc)).trans hc

theorem getD_drop (ps : List Nat) (j k : Nat) : (ps.drop j).getD k 0 = ps.getD (j + k) 0 := by
  rw [List.getD_eq_getElem?_getD, List.getElem?_drop, ← List.getD_eq_getElem?_getD]

theorem pow64 {p : Nat} (hp : p ≤ 64) : (18446744073709551616 : Nat) = 2 ^ p * 2 ^ (64 - p) := by
  rw [← Nat.pow_add, show p + (64 - p) = 64 from by omega]
theorem shr_word (x y p : Nat) (hx : x < 18446744073709551616) (hp : p < 64) : x / 2 ^ p + y % 2 ^ p * 2 ^ (64 - p) < 18446744073709551616 := by
  have h64 := pow64 (p := p) (by omega)
  have h1 : x / 2 ^ p < 2 ^ (64 - p) := by rw [Nat.div_lt_iff_lt_mul (Nat.pow_pos (by decide)), Nat.mul_comm, ← h64]; exact hx
  have h2 : (y % 2 ^ p + 1) * 2 ^ (64 - p) ≤ 2 ^ p * 2 ^ (64 - p) := Nat.mul_le_mul_right _ (Nat.mod_lt _ (Nat.pow_pos (by decide)))
  rw [Nat.add_mul, Nat.one_mul, ← h64] at h2
  omega
theorem shr_or (x y p : Nat) (hx : x < 18446744073709551616) (hp : p < 64) :
    bits BinOp.or IntKind.u64 ((x : Int) / 2 ^ p) (IntKind.u64.wrap ((y : Int) * 2 ^ (64 - p))) = ((x / 2 ^ p + y % 2 ^ p * 2 ^ (64 - p) : Nat) : Int) := by
  have h64 := pow64 (p := p) (by omega)
  have h1 : x / 2 ^ p < 2 ^ (64 - p) := by rw [Nat.div_lt_iff_lt_mul (Nat.pow_pos (by decide)), Nat.mul_comm, ← h64]; exact hx
  have e1 : (x : Int) / 2 ^ p = ((x / 2 ^ p : Nat) : Int) := by simp
  have e2 : IntKind.u64.wrap ((y : Int) * 2 ^ (64 - p)) = ((y % 2 ^ p * 2 ^ (64 - p) : Nat) : Int) := by
    rw [IntKind.wrap_u64, show (y : Int) * 2 ^ (64 - p) = ((y * 2 ^ (64 - p) : Nat) : Int) from by simp]
    rw [show (18446744073709551616 : Int) = ((18446744073709551616 : Nat) : Int) from rfl, ← Int.natCast_emod, h64, Nat.mul_mod_mul_right]
  have hw := shr_word x y p hx hp
  rw [e1, e2, bits_or_u64_nat _ _ (Nat.lt_of_le_of_lt (Nat.le_add_right _ _) hw) (Nat.lt_of_le_of_lt (Nat.le_add_left _ _) hw)]
  have e3 := Nat.shiftLeft_add_eq_or_of_lt h1 (y % 2 ^ p)
  rw [Nat.shiftLeft_eq] at e3
  rw [Nat.or_comm, ← e3, Nat.add_comm]
theorem shr_step {x y p k Z V d : Nat} (hp : p ≤ 64) (h : Z * 2 ^ p + d = V + pw k * (x % 2 ^ p)) :
    (Z + pw k * (x / 2 ^ p + y % 2 ^ p * 2 ^ (64 - p))) * 2 ^ p + d = V + pw k * x + pw (k + 1) * (y % 2 ^ p) := by
  have h64 := pow64 hp
  have e1 : pw (k + 1) * (y % 2 ^ p) = pw k * (y % 2 ^ p * 2 ^ (64 - p) * 2 ^ p) := by
    rw [pw_succ, h64]
    simp only [Nat.mul_assoc, Nat.mul_comm, Nat.mul_left_comm]
  have e2 : pw k * x = pw k * (x / 2 ^ p * 2 ^ p) + pw k * (x % 2 ^ p) := by rw [← Nat.mul_add, Nat.div_add_mod']
  have e3 : (Z + pw k * (x / 2 ^ p + y % 2 ^ p * 2 ^ (64 - p))) * 2 ^ p = Z * 2 ^ p + pw k * (x / 2 ^ p * 2 ^ p) + pw k * (y % 2 ^ p * 2 ^ (64 - p) * 2 ^ p) := by
    rw [Nat.add_mul, Nat.mul_assoc, Nat.add_mul, Nat.mul_add, Nat.add_assoc]
  rw [e1, e2, e3]
  omega
theorem shr_end {ps zs : List Nat} {p wh d : Nat} (h : val zs * 2 ^ p + d % 2 ^ p = val (ps.drop wh)) (hw : wh ≤ ps.length) (hps : Words ps) : val zs = val ps / 2 ^ (64 * wh + p) := by
  have h1 := val_split ps wh hw
  have h2 := val_lt (hps.take wh)
  rw [List.length_take, Nat.min_eq_left hw] at h2
  rw [Nat.pow_add, ← Nat.div_div_eq_div_mul, ← pw_two, h1, Nat.add_mul_div_left _ _ (pw_pos wh), Nat.div_eq_of_lt h2, Nat.zero_add, ← h]
  rw [Nat.add_comm, Nat.mul_comm, Nat.add_mul_div_left _ _ (Nat.pow_pos (by decide)), Nat.div_eq_of_lt (Nat.mod_lt _ (Nat.pow_pos (by decide))), Nat.zero_add]

set_option maxHeartbeats 2000000 in
theorem shr_any (A : Option Addr) (n c : Nat) (xs : List Nat) (w : World) (hA : Lim w A n c xs) (hn : n ≤ 1099511627776) (hT : Tab w) (i : Int) (wh p : Nat) (hi : max i 0 = ((64 * wh + p : Nat) : Int)) (hp : p < 64) (hlt : wh < tl xs) :
    Calls Tryd.prog 56 #[.slice A n c, .int .i64 i] w (Tells2 w (val xs / 2 ^ (64 * wh + p)) n (.bool (decide (val xs % 2 ^ (64 * wh + p) ≠ 0)))) := by
  have hP := hA.trim
  have HX := Lib.hid (val_take_tl xs)
  have l1 := hA.tl_le
  obtain ⟨la, hla⟩ : ∃ l, tl xs = l := ⟨_, rfl⟩
  rw [hla] at l1 hP HX hlt
  have Hla := Lib.hid hla
  clear hla
  generalize xs.take la = ps at hP HX
  obtain ⟨N, hN⟩ : ∃ N, 64 * wh + p = N := ⟨_, rfl⟩
  rw [hN] at hi ⊢
  have e1 : (N : Int) / 64 = (wh : Int) := by omega
  have e2 : (N : Int) % 64 = (p : Int) := by omega
  obtain ⟨L, hL⟩ : ∃ L, la = wh + L := ⟨la - wh, by omega⟩
  have hmk := run_make_row' (P := Tryd.prog) 26 22 (.int .u64 0) 8 Tryd.underlying26 info64 rfl .i64 .i64 L (by omega) (by omega)
  have e3 : (la : Int) - (wh : Int) = (L : Int) := by omega
  have HN := Lib.hid hN
  have HL := Lib.hid hL
  have hL2 : L ≤ la := by omega
  have hL3 : la ≤ wh + L := by omega
  have hL4 : wh + L ≤ la := by omega
  have hN1 : N ≤ 64 * la := by omega
  clear hN hL
  have b0 : decide (la ≤ wh) = false := by simp; omega
  obtain ⟨r, hr⟩ : ∃ r, r = decide (val xs % 2 ^ N ≠ 0) := ⟨_, rfl⟩
  rw [← hr]
  have Hr := Lib.hid hr
  clear hr
  go_enter Tryd.func56, Tryd.ntmps56
  go_wp2_with fail
  refine (trim_to la A n c xs _ hA (by omega) Hla).mono ?_
  rintro e w' ⟨rfl, rfl⟩
  go_wp2_with fail
  clear hmk hi e1 e2 e3
  go_loopw [33] (fun i wr => ∃ (k : Nat) (zs : List Nat), k ≤ L ∧ i = .int .i64 k ∧ Hid (zs.length = k) ∧ Fill w wr w.heap.size 22 L zs ∧ Hid (val zs * 2 ^ p + ps.getD wh 0 % 2 ^ p = val ((ps.drop wh).take k) + pw k * (ps.getD (wh + k) 0 % 2 ^ p))) (fun i _ => L - (intOf i).toNat)
  case atStart => exact ⟨0, [], Nat.zero_le _, rfl, rfl, Fill.start w _ _, by simp [Hid, val, pw_zero]⟩
  case round =>
    obtain ⟨k, zs, hk, rfl, Hzl, hF, HE⟩ := hrel
    by_cases hkl : k < L
    · have hPr := hF.lim hP
      obtain ⟨b, o, hAe, hb, hcl⟩ := hP.at_ (by omega)
      subst hAe
      have c1 := (hF.below.cell (p := ⟨b, o + (wh + k), none⟩) hb).trans (hcl (wh + k) (by omega))
      clear hcl
      have c2 := hF.cell (j := k) (by omega)
      have c3 := hF.frozen k
      have hxw := hP.words.getD (wh + k)
      have hyw := hP.words.getD (wh + k + 1)
      obtain ⟨x, hx⟩ : ∃ x, ps.getD (wh + k) 0 = x := ⟨_, rfl⟩
      obtain ⟨y, hy⟩ : ∃ y, ps.getD (wh + k + 1) 0 = y := ⟨_, rfl⟩
      rw [hx] at c1 hxw
      rw [hy] at hyw
      have Hx := Lib.hid hx
      have Hy := Lib.hid hy
      have HF := Lib.hid hF
      clear hx hy hF
      have hat := at_any (some ⟨b, o, none⟩) la c ps (wh + k + 1)
      rw [Hy.out] at hat
      rw [show ((wh + k + 1 : Nat) : Int) = (wh : Int) + (k : Int) + 1 from by omega] at hat
      have Hat := Lib.hid hat
      clear hat
      have c4 : ∀ v, (wr.setCell ⟨w.heap.size, k, none⟩ v).cell? ⟨b, o + (wh + k), none⟩ = some (.int .u64 (x : Int)) := fun v => by
        rw [World.cell?_setCell_other _ _ _ _ (fun e => by have := congrArg Addr.block e; simp at this; omega)]; exact c1
      have d7 : IntKind.u64.wrap (64 - (p : Int)) = ((64 - p : Nat) : Int) := by rw [IntKind.wrap_u64]; omega
      have d1 : (wh : Int) + (k : Int) < (la : Int) := by omega
      have d2 : (k : Int) < (L : Int) := by omega
      have d3 : IntKind.i64.wrap ((wh : Int) + (k : Int)) = (wh : Int) + (k : Int) := IntWalk.i64_in _ (by omega)
      have d4 : IntKind.i64.wrap ((wh : Int) + (k : Int) + 1) = (wh : Int) + (k : Int) + 1 := IntWalk.i64_in _ (by omega)
      have d5 : ((wh : Int) + (k : Int)).toNat = wh + k := by omega
      have d6 : (0 : Int) ≤ (wh : Int) + (k : Int) := by omega
      go_wp2_with fail
      go_region_held3 (fun w' => w'.cell? ⟨b, o + (wh + k), none⟩ = some (.int .u64 (x : Int))) (go_keep)
        (first
          | (go_at_call 73; refine (Hat.out _ (by exact hPr) (by omega) (by omega)).mono ?_; rintro e w' ⟨rfl, rfl⟩))
      have HE2 := Lib.hid (shr_step (x := x) (y := y) (Nat.le_of_lt hp) (show val zs * 2 ^ p + ps.getD wh 0 % 2 ^ p = val ((ps.drop wh).take k) + pw k * (x % 2 ^ p) by rw [← Hx.out]; exact HE.out))
      go_wp2
      go_roundw
      case rel =>
        refine ⟨k + 1, zs ++ [x / 2 ^ p + y % 2 ^ p * 2 ^ (64 - p)], by omega, by go_num, ?_, ?_, ?_⟩
        · have := Hzl.out; simp [Hid]; omega
        · rw [shr_or x y p hxw hp]
          exact (HF.out.push Hzl.out.symm (by omega) (shr_word x y p hxw hp)).drewN 1
        · have e := HE2.out
          rw [show wh + (k + 1) = wh + k + 1 from by omega, Hy.out, val_snoc, Hzl.out, val_take_succ', getD_drop, Hx.out]
          exact e
      case measure => simp [intOf]; omega
    · obtain rfl : k = L := by omega
      have hlim := hF.done Hzl.out
      have HV : Hid (val zs = val xs / 2 ^ N) := by
        have e1 := HE.out
        have hlen := hP.len
        have e0 : ps.getD (wh + k) 0 = 0 := by rw [List.getD_eq_getElem?_getD, List.getElem?_eq_none (by omega)]; rfl
        rw [e0, List.take_of_length_le (by rw [List.length_drop]; omega), Nat.zero_mod, Nat.mul_zero, Nat.add_zero] at e1
        rw [← HX.out, ← HN.out]
        exact shr_end e1 (by omega) hP.words
      have hbel := hF.below
      have hTr := hT.below hbel
      have hPr := hF.lim hP
      have HR : Hid (r = decide (low (val ps) < N)) := by
        have h0 : 0 < val ps := by
          rcases Nat.eq_zero_or_pos (val ps) with h | h
          · rw [HX.out] at h
            have := tl_zero_iff.2 h
            rw [Hla.out] at this
            omega
          · exact h
        have := low_lt_iff (n := N) h0
        show r = decide (low (val ps) < N)
        rw [Hr.out]
        exact decide_eq_decide.2 (by rw [← HX.out]; exact this.symm)
      have hlow := low_any A la c ps _ hPr (by omega) hTr
      generalize low (val ps) = lw at hlow HR
      have Hlow := Lib.hid hlow
      clear HE hF hP hlow
      go_wp2_with fail
      refine (trim_any _ _ _ zs _ hlim (by omega)).mono ?_
      rintro e w' ⟨rfl, rfl⟩
      go_wp2_with fail
      refine Hlow.out.mono ?_
      rintro e w' ⟨rfl, rfl⟩
      go_wp2
      go_ret2
      rw [HR.out]
      exact tells2_trim hlim hbel HV.out (by omega) rfl

theorem shr_far (A : Option Addr) (n c : Nat) (xs : List Nat) (w : World) (hA : Lim w A n c xs) (hn : n ≤ 1099511627776) (i : Int) (hib : i ≤ 9223372036854775807) (wh N : Nat) (hi : max i 0 = (N : Int)) (hN : N / 64 = wh) (hge : tl xs ≤ wh) :
    Calls Tryd.prog 56 #[.slice A n c, .int .i64 i] w (Tells2 w (val xs / 2 ^ N) n (.bool (decide (val xs % 2 ^ N ≠ 0)))) := by
  have l1 := hA.tl_le
  have h1 : val xs < 2 ^ N := Nat.lt_of_lt_of_le (val_lt_tl hA.words) (by rw [pw_two]; exact Nat.pow_le_pow_right (by decide) (by omega))
  have hr : decide (val xs % 2 ^ N ≠ 0) = decide (0 < tl xs) := by
    rw [Nat.mod_eq_of_lt h1]
    have := tl_zero_iff (xs := xs)
    exact decide_eq_decide.2 ⟨fun h => Nat.pos_of_ne_zero (fun h' => h (this.1 h')), fun h h' => by have := this.2 h'; omega⟩
  rw [hr, Nat.div_eq_of_lt h1]
  obtain ⟨la, hla⟩ : ∃ l, tl xs = l := ⟨_, rfl⟩
  rw [hla] at l1 hge ⊢
  have Hla := Lib.hid hla
  have e1 : (N : Int) / 64 = (wh : Int) := by omega
  have g1 : N ≤ 9223372036854775807 := by omega
  have g2 : wh ≤ 144115188075855871 := by omega
  clear hla h1 hr hN
  have b0 : decide (la ≤ wh) = true := by simp; omega
  go_enter Tryd.func56, Tryd.ntmps56
  go_wp2_with fail
  refine (trim_to la A n c xs _ hA (by omega) Hla).mono ?_
  rintro e w' ⟨rfl, rfl⟩
  go_wp2
  go_ret2
  exact ⟨none, 0, 0, [], rfl, Nat.zero_le _, Lim.nil _ _ _, rfl, rfl, Below.refl _ _⟩

theorem shr_all (A : Option Addr) (n c : Nat) (xs : List Nat) (w : World) (hA : Lim w A n c xs) (hn : n ≤ 1099511627776) (hT : Tab w) (i : Int) (hib : i ≤ 9223372036854775807) :
    Calls Tryd.prog 56 #[.slice A n c, .int .i64 i] w (Tells2 w (val xs / 2 ^ i.toNat) n (.bool (decide (val xs % 2 ^ i.toNat ≠ 0)))) := by
  have hi : max i 0 = (i.toNat : Int) := by omega
  rcases Nat.lt_or_ge (i.toNat / 64) (tl xs) with h | h
  · have e : 64 * (i.toNat / 64) + i.toNat % 64 = i.toNat := by omega
    have := shr_any A n c xs w hA hn hT i (i.toNat / 64) (i.toNat % 64) (by rw [e]; exact hi) (by omega) h
    rwa [e] at this
  · exact shr_far A n c xs w hA hn i hib _ _ hi rfl h
end Go.Proofs.YtgacafdkhailmaaDoor
