/- The walk of nat.Shl. -/
import Derived.Test.YtgacafdkhailmaaDoorWShr
namespace Go.Proofs.YtgacafdkhailmaaDoor
open Go.RowKit

theorem shl_word (x q p : Nat) (hq : q < 2 ^ p) (hp : p < 64) : x % 2 ^ (64 - p) * 2 ^ p + q < 18446744073709551616 := by
  have h64 := pow64 (p := p) (by omega)
  have h2 : (x % 2 ^ (64 - p) + 1) * 2 ^ p ≤ 2 ^ (64 - p) * 2 ^ p := Nat.mul_le_mul_right _ (Nat.mod_lt _ (Nat.pow_pos (by decide)))
  rw [Nat.add_mul, Nat.one_mul, Nat.mul_comm (2 ^ (64 - p)), ← h64] at h2
  omega
theorem shl_or (x q p : Nat) (hq : q < 2 ^ p) (hp : p < 64) :
    bits BinOp.or IntKind.u64 (q : Int) (IntKind.u64.wrap ((x : Int) * 2 ^ p)) = ((x % 2 ^ (64 - p) * 2 ^ p + q : Nat) : Int) := by
  have h64 := pow64 (p := p) (by omega)
  have e2 : IntKind.u64.wrap ((x : Int) * 2 ^ p) = ((x % 2 ^ (64 - p) * 2 ^ p : Nat) : Int) := by
    rw [IntKind.wrap_u64, show (x : Int) * 2 ^ p = ((x * 2 ^ p : Nat) : Int) from by simp]
    rw [show (18446744073709551616 : Int) = ((18446744073709551616 : Nat) : Int) from rfl, ← Int.natCast_emod, h64, Nat.mul_comm (2 ^ p), Nat.mul_mod_mul_right]
  have hw := shl_word x q p hq hp
  rw [e2, bits_or_u64_nat _ _ (Nat.lt_of_le_of_lt (Nat.le_add_left _ _) hw) (Nat.lt_of_le_of_lt (Nat.le_add_right _ _) hw)]
  have e3 := Nat.shiftLeft_add_eq_or_of_lt hq (x % 2 ^ (64 - p))
  rw [Nat.shiftLeft_eq] at e3
  rw [Nat.or_comm, ← e3]
theorem shl_carry (x p : Nat) (hx : x < 18446744073709551616) (hp : p < 64) : x / 2 ^ (64 - p) < 2 ^ p := by
  have h64 := pow64 (p := p) (by omega)
  rw [Nat.div_lt_iff_lt_mul (Nat.pow_pos (by decide)), ← h64]
  exact hx
theorem shl_step {x q p wh k Z V : Nat} (hp : p < 64) (h : Z + pw (wh + k) * q = 2 ^ (64 * wh + p) * V) :
    Z + pw (wh + k) * (x % 2 ^ (64 - p) * 2 ^ p + q) + pw (wh + k + 1) * (x / 2 ^ (64 - p)) = 2 ^ (64 * wh + p) * (V + pw k * x) := by
  have h64 := pow64 (p := p) (by omega)
  have e1 : pw (wh + k + 1) * (x / 2 ^ (64 - p)) = pw (wh + k) * (2 ^ (64 - p) * (x / 2 ^ (64 - p)) * 2 ^ p) := by
    rw [pw_succ, h64]
    simp only [Nat.mul_assoc, Nat.mul_comm, Nat.mul_left_comm]
  have e2 : pw (wh + k) * (x % 2 ^ (64 - p) * 2 ^ p) + pw (wh + k) * (2 ^ (64 - p) * (x / 2 ^ (64 - p)) * 2 ^ p) = 2 ^ (64 * wh + p) * (pw k * x) := by
    rw [← Nat.mul_add, ← Nat.add_mul, Nat.mod_add_div, pw_add, pw_two wh, Nat.pow_add]
    simp only [Nat.mul_assoc, Nat.mul_comm, Nat.mul_left_comm]
  rw [e1, Nat.mul_add (pw (wh + k)), Nat.mul_add (2 ^ (64 * wh + p)), ← e2, ← h]
  omega
theorem val_zerosL (n : Nat) : val (List.replicate n 0) = 0 := by
  induction n with
  | zero => rfl
  | succ n ih => rw [List.replicate_succ, val, ih]
theorem Fill.zeros {w : World} {t L n : Nat} (hn : n ≤ L) : Fill w (w.alloc (.cells (madeCells #[.int .u64 0] L) t)) w.heap.size t L (List.replicate n 0) :=
  ⟨(Below.refl _ _).alloc (Nat.le_refl _) _, (World.rowIs_made w (.int .u64 0) L t).congr (fun j _ => by
    rw [List.getD_eq_getElem?_getD, List.getElem?_replicate]; split <;> rfl), by simp; omega, fun x hx => by rw [(List.mem_replicate.1 hx).2]; decide⟩

set_option maxHeartbeats 4000000 in
theorem shl_any (A : Option Addr) (n c : Nat) (xs : List Nat) (w : World) (hA : Lim w A n c xs) (hn : n ≤ 1099511627776) (wh p : Nat) (hp : p < 64) (h0 : 0 < tl xs) (hfit : blen (val xs) + (64 * wh + p) ≤ 65536) :
    Calls Tryd.prog 70 #[.slice A n c, .int .i64 ((64 * wh + p : Nat) : Int)] w (Tells2 w (val xs * 2 ^ (64 * wh + p)) (wh + n + 1) (.int .i64 0)) := by
  have hP := hA.trim
  have HX := Lib.hid (val_take_tl xs)
  have l1 := hA.tl_le
  obtain ⟨la, hla⟩ : ∃ l, tl xs = l := ⟨_, rfl⟩
  rw [hla] at l1 hP HX h0
  have Hla := Lib.hid hla
  clear hla
  generalize xs.take la = ps at hP HX
  have hbits := bits_any A la c ps w hP (by omega)
  rw [HX.out] at hbits
  generalize blen (val xs) = bl at hbits hfit
  have Hbits := Lib.hid hbits
  obtain ⟨N, hN⟩ : ∃ N, 64 * wh + p = N := ⟨_, rfl⟩
  rw [hN] at hfit ⊢
  have e1 : (N : Int) / 64 = (wh : Int) := by omega
  have e2 : (N : Int) % 64 = (p : Int) := by omega
  have hmk := run_make_row' (P := Tryd.prog) 26 22 (.int .u64 0) 8 Tryd.underlying26 info64 rfl .i64 .i64 (wh + la + 1) (by omega) (by omega)
  rw [show ((wh + la + 1 : Nat) : Int) = (wh : Int) + (la : Int) + 1 from by omega] at hmk
  have b0 : ((la : Int) == 0) = false := beq_eq_false_iff_ne.2 (by omega)
  have b1 : decide (65536 - (bl : Int) < (N : Int)) = false := by simp; omega
  have HN := Lib.hid hN
  have hN1 : N ≤ 65536 := by omega
  have hw1 : wh ≤ 1024 := by omega
  clear hN hbits
  go_enter Tryd.func70, Tryd.ntmps70
  go_wp2_with fail
  refine (trim_to la A n c xs _ hA (by omega) Hla).mono ?_
  rintro e w' ⟨rfl, rfl⟩
  go_wp2_with fail
  refine Hbits.out.mono ?_
  rintro e w' ⟨rfl, rfl⟩
  go_wp2_with fail
  clear hmk e1 e2 b0 b1 Hbits
  go_loopw [36] (fun i wr => ∃ (k q : Nat) (zs : List Nat), k ≤ la ∧ i = .int .i64 k ∧ Hid (zs.length = wh + k) ∧ q < 2 ^ p ∧ Fill w wr w.heap.size 22 (wh + la + 1) (zs ++ [q]) ∧ Hid (val zs + pw (wh + k) * q = 2 ^ (64 * wh + p) * val (ps.take k))) (fun i _ => la - (intOf i).toNat)
  case atStart => exact ⟨0, 0, List.replicate wh 0, Nat.zero_le _, rfl, by simp [Hid], Nat.pow_pos (by decide), by
      have := Fill.zeros (w := w) (t := 22) (L := wh + la + 1) (n := wh + 1) (by omega)
      rwa [List.replicate_succ'] at this, by simp [Hid, val, val_zerosL]⟩
  case round =>
    obtain ⟨k, q, zs, hk, rfl, Hzl, hq, hF, HE⟩ := hrel
    by_cases hkl : k < la
    · obtain ⟨b, o, hAe, hb, hcl⟩ := hP.at_ (by omega)
      subst hAe
      have c1 := (hF.below.cell (p := ⟨b, o + k, none⟩) hb).trans (hcl k hkl)
      clear hcl
      have c2 := hF.cell (j := wh + k) (by omega)
      rw [getD_snoc, if_pos Hzl.out.symm] at c2
      have c3 := hF.frozen (wh + k)
      have c4 := hF.cell (j := wh + k + 1) (by omega)
      have c5 := hF.frozen (wh + k + 1)
      have hxw := hP.words.getD k
      obtain ⟨x, hx⟩ : ∃ x, ps.getD k 0 = x := ⟨_, rfl⟩
      rw [hx] at c1 hxw
      have d7 : IntKind.u64.wrap (64 - (p : Int)) = ((64 - p : Nat) : Int) := by rw [IntKind.wrap_u64]; omega
      have HE2 := Lib.hid (shl_step (x := x) hp HE.out)
      have hqq := shl_carry x p hxw hp
      have HF1 := Lib.hid ((hF.again Hzl.out.symm (shl_word x q p hq hp)).push (z := x / 2 ^ (64 - p)) (k := wh + k + 1) (by have := Hzl.out; simp; omega) (by omega) (by
        have h64 := pow64 (p := p) (by omega)
        have : 2 ^ p * 1 ≤ 2 ^ p * 2 ^ (64 - p) := Nat.mul_le_mul_left _ (Nat.pow_pos (by decide))
        omega))
      have Hx := Lib.hid hx
      have Hor := Lib.hid (shl_or x q p hq hp)
      clear hx HE hF
      go_wp2
      go_roundw
      case rel =>
        refine ⟨k + 1, x / 2 ^ (64 - p), zs ++ [x % 2 ^ (64 - p) * 2 ^ p + q], by omega, by go_num, ?_, hqq, ?_, ?_⟩
        · have := Hzl.out; simp [Hid]; omega
        · rw [Hor.out, show (x : Int) / 2 ^ (64 - p) = ((x / 2 ^ (64 - p) : Nat) : Int) from by simp]
          exact HF1.out
        · have e := HE2.out
          rw [val_snoc, Hzl.out, val_take_succ', Hx.out]
          exact e
      case measure => simp [intOf]; omega
    · obtain rfl : k = la := by omega
      have hlim := hF.done (by have := Hzl.out; simp; omega)
      have HV : Hid (val (zs ++ [q]) = val xs * 2 ^ N) := by
        rw [val_snoc, Hzl.out]
        refine HE.out.trans ?_
        rw [List.take_of_length_le (by have := hP.len; omega), HX.out, HN.out, Nat.mul_comm]
      have hbel := hF.below
      clear HE hF hP
      go_wp2_with fail
      refine (trim_any _ _ _ (zs ++ [q]) _ hlim (by omega)).mono ?_
      rintro e w' ⟨rfl, rfl⟩
      go_wp2
      go_ret2
      exact tells2_trim hlim hbel HV.out (by omega) rfl

theorem shl_neg (A : Option Addr) (n c : Nat) (w : World) (i : Int) (hi : i < 0) :
    Calls Tryd.prog 70 #[.slice A n c, .int .i64 i] w fun e w' => e = .returned (.tuple #[.slice none 0 0, .int .i64 1]) ∧ w = w' := by
  go_enter Tryd.func70, Tryd.ntmps70
  go_wp2
  go_ret2
  exact ⟨rfl, rfl⟩

theorem shl_zero (A : Option Addr) (n c : Nat) (xs : List Nat) (w : World) (hA : Lim w A n c xs) (hn : n ≤ 1099511627776) (i : Int) (hi : 0 ≤ i) (h0 : val xs = 0) :
    Calls Tryd.prog 70 #[.slice A n c, .int .i64 i] w fun e w' => e = .returned (.tuple #[.slice none 0 0, .int .i64 0]) ∧ w = w' := by
  have Hla := Lib.hid (tl_zero_iff.2 h0)
  clear h0
  go_enter Tryd.func70, Tryd.ntmps70
  go_wp2_with fail
  refine (trim_to 0 A n c xs _ hA (by omega) Hla).mono ?_
  rintro e w' ⟨rfl, rfl⟩
  go_wp2
  go_ret2
  exact ⟨rfl, rfl⟩

theorem shl_long (A : Option Addr) (n c : Nat) (xs : List Nat) (w : World) (hA : Lim w A n c xs) (hn : n ≤ 1099511627776) (i : Int) (hi : 0 ≤ i) (hib : i ≤ 9223372036854775807) (h0 : val xs ≠ 0) (hlong : 65536 < blen (val xs) + i) :
    Calls Tryd.prog 70 #[.slice A n c, .int .i64 i] w fun e w' => e = .returned (.tuple #[.slice none 0 0, .int .i64 2]) ∧ w = w' := by
  have hP := hA.trim
  have l1 := hA.tl_le
  have hbits := bits_any A (tl xs) c (xs.take (tl xs)) w hP (by omega)
  rw [val_take_tl] at hbits
  have hbl : blen (val xs) ≤ 64 * tl xs := blen_le_iff.2 (by rw [← pw_two]; exact val_lt_tl hA.words)
  obtain ⟨la, hla⟩ : ∃ l, tl xs = l := ⟨_, rfl⟩
  have hne : tl xs ≠ 0 := fun h => h0 (tl_zero_iff.1 h)
  rw [hla] at hbits hne l1 hbl
  generalize blen (val xs) = bl at hbits hlong hbl
  have Hla := Lib.hid hla
  have Hbits := Lib.hid hbits
  have b0 : ((la : Int) == 0) = false := beq_eq_false_iff_ne.2 (by omega)
  have b1 : decide (65536 - (bl : Int) < i) = true := by simp; omega
  clear hla hbits h0 hP
  go_enter Tryd.func70, Tryd.ntmps70
  go_wp2_with fail
  refine (trim_to la A n c xs _ hA (by omega) Hla).mono ?_
  rintro e w' ⟨rfl, rfl⟩
  go_wp2_with fail
  refine Hbits.out.mono ?_
  rintro e w' ⟨rfl, rfl⟩
  go_wp2
  go_ret2
  exact ⟨rfl, rfl⟩

/-- Every shift that fits. -/
theorem shl_all (A : Option Addr) (n c : Nat) (xs : List Nat) (w : World) (hA : Lim w A n c xs) (hn : n ≤ 1099511627776) (k : Nat) (hfit : blen (val xs) + k ≤ 65536 ∨ val xs = 0) :
    Calls Tryd.prog 70 #[.slice A n c, .int .i64 (k : Int)] w (Tells2 w (val xs * 2 ^ k) (k + n + 1) (.int .i64 0)) := by
  by_cases h0 : val xs = 0
  · refine (shl_zero A n c xs w hA hn k (by omega) h0).mono ?_
    rintro e w' ⟨rfl, rfl⟩
    exact ⟨none, 0, 0, [], rfl, Nat.zero_le _, Lim.nil _ _ _, rfl, by rw [h0]; simp [val], Below.refl _ _⟩
  · have e : 64 * (k / 64) + k % 64 = k := by omega
    have h1 : 0 < tl xs := Nat.pos_of_ne_zero (fun h => h0 (tl_zero_iff.1 h))
    have := shl_any A n c xs w hA hn (k / 64) (k % 64) (by omega) h1 (by rw [e]; rcases hfit with h | h; exact h; exact absurd h h0)
    rw [e] at this
    exact this.mono fun _ _ h => h.wider (by omega)
end Go.Proofs.YtgacafdkhailmaaDoor
