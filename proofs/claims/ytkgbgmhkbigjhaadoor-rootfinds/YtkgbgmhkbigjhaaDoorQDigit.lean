/- The walks of quo.digit, quo.shifted and quo.Small. -/
import Derived.Test.YtkgbgmhkbigjhaaDoorQRow
import Derived.Test.YtkgbgmhkbigjhaaDoorWShr
import Derived.OwnWalk
namespace Go.Proofs.YtkgbgmhkbigjhaaDoor
open Go.RowKit

theorem short_lt {U G V W P : Nat} (h : U + G * V = W + P) (hU : U < P) : W < G * V := by omega
theorem came_round {U U2 G V W P : Nat} (h : U + G * V = W + P * 1) (h2 : U2 + P * 1 = U + V) (hG : 0 < G) : U2 + (G - 1) * V = W + P * 0 := by
  have : (G - 1) * V + V = G * V := by rw [← Nat.succ_mul]; congr 1; omega
  omega
theorem not_yet {U U2 G V W P : Nat} (h : U + G * V = W + P * 1) (h2 : U2 + P * 0 = U + V) (hG : 0 < G) : U2 + (G - 1) * V = W + P * 1 := by
  have : (G - 1) * V + V = G * V := by rw [← Nat.succ_mul]; congr 1; omega
  omega
theorem digit_end {U G V W P : Nat} (h : U + G * V = W + P * 0) (hge : W / V ≤ G) (hV : 0 < V) : G = W / V ∧ U = W % V := by
  rw [Nat.mul_zero, Nat.add_zero] at h
  have h1 : G * V ≤ W := by omega
  have h2 := quot_eq h1 hge hV
  refine ⟨h2, ?_⟩
  have h3 := Nat.div_add_mod' W V
  rw [← h2] at h3
  omega

set_option maxHeartbeats 2000000 in
/-- digit: how often the divisor goes into the window; the rest stays there. -/
theorem digit_any (w : World) (g t o c : Nat) (ps ws qs : List Nat) (b bo l d : Nat) (ds : List Nat) (hW : Win w w g t o ps ws qs) (hws : ws.length = l + 2) (hD : Lim w (some ⟨b, bo, none⟩) (l + 1) d ds) (hbg : b ≠ g) (hv : ds.getD l 0 ≠ 0) (hlt : val ws < val ds * 18446744073709551616) (hn : l ≤ 1000000) (Q : Nat) (hQ : Hid (val ws / val ds = Q)) :
    Calls Tryd.prog 59 #[.slice (some ⟨g, o, none⟩) ((l + 2 : Nat)) c, .slice (some ⟨b, bo, none⟩) ((l + 1 : Nat)) d] w fun e w' => ∃ us : List Nat, e = .returned (.int .u64 (Q : Int)) ∧ us.length = l + 2 ∧ Win w w' g t o ps us qs ∧ val us = val ws % val ds := by
  have HW := Lib.hid hW
  have HD := Lib.hid hD
  have Hws := Lib.hid hws
  have Hg := Lib.hid (guess_any w g t o c ps ws qs b bo l d ds hW hws hD hv hlt (by omega))
  have HV0 : Hid (0 < val ds) := by
    show 0 < _
    rw [ltop_one ds l hD.len]
    have := Nat.mul_pos (pw_pos l) (Nat.pos_of_ne_zero hv)
    omega
  clear hW hD hws hv hlt
  go_enter Tryd.func59, Tryd.ntmps59
  go_wp2_with fail
  refine Hg.out.mono ?_
  rintro e w1 ⟨G, k, rfl, hGb, hG, hw1⟩
  have HW1 : Hid (Win w w1 g t o ps ws qs) := by rw [hw1]; exact HW.out.drewN k
  have HG := Lib.hid hG
  rw [hQ.out] at HG
  clear hw1 hG Hg
  have Ht := Lib.hid (take_any w1 g t o c ps ws qs b bo (l + 1) d ds G ⟨But.refl _ _, HW1.out.2.1, HW1.out.2.2⟩ Hws.out (HD.out.but HW1.out.but hbg) hbg hGb (by omega))
  go_wp2_with fail
  refine Ht.out.mono ?_
  rintro e w2 ⟨us, tt, rfl, htt, hus, hW2, hE2⟩
  have HW2 : Hid (Win w w2 g t o ps us qs) := ⟨HW1.out.but.trans hW2.but, hW2.2.1, hW2.2.2⟩
  have Hus := Lib.hid hus
  have HE2 := Lib.hid hE2
  clear hW2 hus hE2 Ht HW1
  go_wp2_with fail
  go_loopw [5, 6] (fun s5 s6 wr => ∃ (G2 t2 : Nat) (us2 : List Nat), s5 = .int .u64 (G2 : Int) ∧ s6 = .bool (decide (0 < t2)) ∧ t2 ≤ 1 ∧ G2 < 18446744073709551616 ∧ Hid (us2.length = l + 2) ∧ Hid (Win w wr g t o ps us2 qs) ∧ Hid (Q ≤ G2) ∧ Hid (val us2 + G2 * val ds = val ws + pw (l + 2) * t2)) (fun s5 _ _ => (intOf s5).toNat)
  case atStart => exact ⟨G, tt, us, rfl, rfl, htt, hGb, Hus, HW2, HG, HE2⟩
  case round =>
    clear HW2 HE2 HG Hus
    obtain ⟨w3, rfl⟩ : ∃ w3, w3 = wr := ⟨_, rfl⟩
    obtain ⟨G2, t2, us2, rfl, rfl, ht2, hG2b, Hus2, HW2, HG2, HE2⟩ := hrel
    have h01 : t2 = 0 ∨ t2 = 1 := by omega
    rcases h01 with rfl | rfl
    · obtain ⟨h1, h2⟩ := digit_end HE2.out (by rw [hQ.out]; exact HG2.out) HV0.out
      rw [hQ.out] at h1
      have Hfin : Hid (∃ us : List Nat, us.length = l + 2 ∧ Win w w3 g t o ps us qs ∧ val us = val ws % val ds) := ⟨us2, Hus2.out, HW2.out, h2⟩
      subst h1
      clear h2 HE2 HG2
      go_wp2
      go_ret
      obtain ⟨vs, f1, f2, f3⟩ := Hfin.out
      exact ⟨vs, rfl, f1, f2, f3⟩
    · have hQG : Q < G2 := by
        have h1 := val_lt HW2.out.words
        rw [Hus2.out] at h1
        have h2 := HE2.out
        rw [Nat.mul_one] at h2
        rw [← hQ.out]
        exact quot_less (short_lt h2 h1) HV0.out
      have b1 : decide ((0 : Nat) < 1) = true := rfl
      have Hp := Lib.hid (put_any w3 g t o c ps us2 qs b bo (l + 1) d ds ⟨But.refl _ _, HW2.out.2.1, HW2.out.2.2⟩ Hus2.out (HD.out.but HW2.out.but hbg) hbg (by omega))
      rw [b1]
      go_wp2_with fail
      refine Hp.out.mono ?_
      rintro e w4 ⟨us3, t3, rfl, ht3, hus3, hW3, hE3⟩
      have HW3 : Hid (Win w w4 g t o ps us3 qs) := ⟨HW2.out.but.trans hW3.but, hW3.2.1, hW3.2.2⟩
      have Hus3 := Lib.hid hus3
      have HE3 := Lib.hid hE3
      clear hW3 hus3 hE3 Hp b1
      have h01 : t3 = 0 ∨ t3 = 1 := by omega
      rcases h01 with rfl | rfl
      · have HE4 := Lib.hid (not_yet HE2.out HE3.out (by omega))
        have HG4 : Hid (Q ≤ G2 - 1) := by show _ ≤ _; omega
        have b1 : decide ((0 : Nat) < 0) = false := rfl
        rw [b1]
        go_wp2
        go_roundw
        case rel => exact ⟨G2 - 1, 1, us3, by go_num, rfl, Nat.le_refl _, by omega, Hus3, HW3, HG4, HE4⟩
        case measure => simp [intOf]; omega
      · have HE4 := Lib.hid (came_round HE2.out HE3.out (by omega))
        have HG4 : Hid (Q ≤ G2 - 1) := by show _ ≤ _; omega
        have b1 : decide ((0 : Nat) < 1) = true := rfl
        rw [b1]
        go_wp2
        go_roundw
        case rel => exact ⟨G2 - 1, 0, us3, by go_num, rfl, Nat.zero_le _, by omega, Hus3, HW3, HG4, HE4⟩
        case measure => simp [intOf]; omega
theorem qshl_word (x q p : Nat) (hq : q < 2 ^ p) (hp : p < 64) : x % 2 ^ (64 - p) * 2 ^ p + q < 18446744073709551616 := by
  have h64 := pow64 (p := p) (by omega)
  have h2 : (x % 2 ^ (64 - p) + 1) * 2 ^ p ≤ 2 ^ (64 - p) * 2 ^ p := Nat.mul_le_mul_right _ (Nat.mod_lt _ (Nat.pow_pos (by decide)))
  rw [Nat.add_mul, Nat.one_mul, Nat.mul_comm (2 ^ (64 - p)), ← h64] at h2
  omega
theorem qshl_or (x q p : Nat) (hq : q < 2 ^ p) (hp : p < 64) :
    bits BinOp.or IntKind.u64 (q : Int) (IntKind.u64.wrap ((x : Int) * 2 ^ p)) = ((x % 2 ^ (64 - p) * 2 ^ p + q : Nat) : Int) := by
  have h64 := pow64 (p := p) (by omega)
  have e2 : IntKind.u64.wrap ((x : Int) * 2 ^ p) = ((x % 2 ^ (64 - p) * 2 ^ p : Nat) : Int) := by
    rw [IntKind.wrap_u64, show (x : Int) * 2 ^ p = ((x * 2 ^ p : Nat) : Int) from by simp]
    rw [show (18446744073709551616 : Int) = ((18446744073709551616 : Nat) : Int) from rfl, ← Int.natCast_emod, h64, Nat.mul_comm (2 ^ p), Nat.mul_mod_mul_right]
  have hw := qshl_word x q p hq hp
  rw [e2, bits_or_u64_nat _ _ (Nat.lt_of_le_of_lt (Nat.le_add_left _ _) hw) (Nat.lt_of_le_of_lt (Nat.le_add_right _ _) hw)]
  have e3 := Nat.shiftLeft_add_eq_or_of_lt hq (x % 2 ^ (64 - p))
  rw [Nat.shiftLeft_eq] at e3
  rw [Nat.or_comm, ← e3]
theorem qshl_carry (x p : Nat) (hx : x < 18446744073709551616) (hp : p < 64) : x / 2 ^ (64 - p) < 2 ^ p := by
  have h64 := pow64 (p := p) (by omega)
  rw [Nat.div_lt_iff_lt_mul (Nat.pow_pos (by decide)), ← h64]
  exact hx
theorem qshl_step {x q p wh k Z V : Nat} (hp : p < 64) (h : Z + pw (wh + k) * q = 2 ^ (64 * wh + p) * V) :
    Z + pw (wh + k) * (x % 2 ^ (64 - p) * 2 ^ p + q) + pw (wh + k + 1) * (x / 2 ^ (64 - p)) = 2 ^ (64 * wh + p) * (V + pw k * x) := by
  have h64 := pow64 (p := p) (by omega)
  have e1 : pw (wh + k + 1) * (x / 2 ^ (64 - p)) = pw (wh + k) * (2 ^ (64 - p) * (x / 2 ^ (64 - p)) * 2 ^ p) := by
    rw [pw_succ, h64]
    simp only [Nat.mul_assoc, Nat.mul_comm, Nat.mul_left_comm]
  have e2 : pw (wh + k) * (x % 2 ^ (64 - p) * 2 ^ p) + pw (wh + k) * (2 ^ (64 - p) * (x / 2 ^ (64 - p)) * 2 ^ p) = 2 ^ (64 * wh + p) * (pw k * x) := by
    rw [← Nat.mul_add, ← Nat.add_mul, Nat.mod_add_div, pw_add, pw_two wh, Nat.pow_add]
    simp only [Nat.mul_assoc, Nat.mul_comm, Nat.mul_left_comm]
  rw [e1, Nat.mul_add (pw (wh + k)), Nat.mul_add (2 ^ (64 * wh + p)), ← e2, ← h]
  omega

theorem Fill.holds {w wr : World} {g t L : Nat} {zs : List Nat} (h : Fill w wr g t L zs) (hl : zs.length = L) : Holds wr g t zs := ⟨by rw [hl]; exact h.2.1, h.2.2.2⟩
theorem Fill.nought {w : World} {t L : Nat} (hL : 0 < L) : Fill w (w.alloc (.cells (madeCells #[.int .u64 0] L) t)) w.heap.size t L ([] ++ [0]) :=
  ⟨(Below.refl _ _).alloc (Nat.le_refl _) _, (World.rowIs_made w (.int .u64 0) L t).congr (fun j _ => by
    cases j <;> simp), by simp; omega, Words.one (by decide)⟩

set_option maxHeartbeats 2000000 in
/-- shifted: a times 2^p in new memory, one limb longer. -/
theorem shifted_any (A : Option Addr) (n c : Nat) (xs : List Nat) (p : Nat) (w : World) (hA : Lim w A n c xs) (hn : n ≤ 1000000) (hp : p < 64) :
    Calls Tryd.prog 58 #[.slice A n c, .int .i64 (p : Int)] w fun e w' => ∃ zs : List Nat, e = .returned (.slice (some ⟨w.heap.size, 0, none⟩) (n + 1 : Nat) (n + 1 : Nat)) ∧ zs.length = n + 1 ∧ Holds w' w.heap.size 33 zs ∧ Below w.heap.size w w' ∧ val zs = val xs * 2 ^ p := by
  have HA := Lib.hid hA
  have hmk := run_make_row' (P := Tryd.prog) 22 33 (.int .u64 0) 8 Tryd.underlying22 info64 rfl .i64 .i64 (n + 1) (by omega) (by omega)
  rw [show ((n + 1 : Nat) : Int) = (n : Int) + 1 from by omega] at hmk
  have HN : Hid (0 + 0 = 0) := rfl
  clear hA
  go_enter Tryd.func58, Tryd.ntmps58
  go_wp2
  clear hmk
  go_loopw [14] (fun i wr => ∃ (k q : Nat) (zs : List Nat), k ≤ n ∧ i = .int .i64 k ∧ Hid (zs.length = k) ∧ q < 2 ^ p ∧ Fill w wr w.heap.size 33 (n + 1) (zs ++ [q]) ∧ Hid (val zs + pw k * q = 2 ^ p * val (xs.take k))) (fun i _ => n - (intOf i).toNat)
  case atStart => exact ⟨0, 0, [], Nat.zero_le _, rfl, rfl, Nat.pow_pos (by decide), Fill.nought (by omega), by simp [Hid, val]⟩
  case round =>
    obtain ⟨w1, rfl⟩ : ∃ w1, w1 = wr := ⟨_, rfl⟩
    obtain ⟨k, q, zs, hk, rfl, Hzl, hq, hF, HE⟩ := hrel
    by_cases hkl : k < n
    · obtain ⟨b, o, hAe, hb, hcl⟩ := HA.out.at_ (by omega)
      subst hAe
      have c1 := (hF.below.cell (p := ⟨b, o + k, none⟩) hb).trans (hcl k hkl)
      clear hcl
      have c2 := hF.cell (j := k) (by omega)
      rw [getD_snoc, if_pos Hzl.out.symm] at c2
      have c3 := hF.frozen k
      have c4 := hF.cell (j := k + 1) (by omega)
      have c5 := hF.frozen (k + 1)
      have hxw := HA.out.words.getD k
      obtain ⟨x, hx⟩ : ∃ x, xs.getD k 0 = x := ⟨_, rfl⟩
      rw [hx] at c1 hxw
      have d7 : IntKind.i64.wrap (64 - (p : Int)) = ((64 - p : Nat) : Int) := by rw [IntWalk.i64_in _ (by omega)]; omega
      have d8 : (64 : Int) - (p : Int) = ((64 - p : Nat) : Int) := by omega
      have HE2 := Lib.hid (qshl_step (x := x) (wh := 0) hp (show val zs + pw (0 + k) * q = 2 ^ (64 * 0 + p) * val (xs.take k) by rw [Nat.zero_add, Nat.mul_zero, Nat.zero_add]; exact HE.out))
      have hqq := qshl_carry x p hxw hp
      have HF1 := Lib.hid ((hF.again Hzl.out.symm (qshl_word x q p hq hp)).push (z := x / 2 ^ (64 - p)) (k := k + 1) (by have := Hzl.out; simp; omega) (by omega) (by
        have h64 := pow64 (p := p) (by omega)
        have : 2 ^ p * 1 ≤ 2 ^ p * 2 ^ (64 - p) := Nat.mul_le_mul_left _ (Nat.pow_pos (by decide))
        omega))
      have Hx := Lib.hid hx
      have Hor := Lib.hid (qshl_or x q p hq hp)
      have Hq := Lib.hid hq
      clear hx HE hF hq
      go_wp2
      go_region
      go_wp2
      go_roundw
      case rel =>
        refine ⟨k + 1, x / 2 ^ (64 - p), zs ++ [x % 2 ^ (64 - p) * 2 ^ p + q], by omega, by go_num, ?_, hqq, ?_, ?_⟩
        · have := Hzl.out; simp [Hid]; omega
        · rw [Hor.out, show (x : Int) / 2 ^ (64 - p) = ((x / 2 ^ (64 - p) : Nat) : Int) from by simp]
          exact HF1.out.drewN 1
        · have e := HE2.out
          rw [Nat.zero_add, Nat.mul_zero, Nat.zero_add] at e
          rw [val_snoc, Hzl.out, val_take_succ', Hx.out]
          exact e
      case measure => simp [intOf]; omega
    · obtain rfl : k = n := by omega
      have Hfin : Hid (∃ zs : List Nat, zs.length = k + 1 ∧ Holds w1 w.heap.size 33 zs ∧ Below w.heap.size w w1 ∧ val zs = val xs * 2 ^ p) := by
        refine ⟨zs ++ [q], by have := Hzl.out; simp; omega, hF.holds (by have := Hzl.out; simp; omega), hF.below, ?_⟩
        rw [val_snoc, Hzl.out]
        refine HE.out.trans ?_
        rw [List.take_of_length_le (by have := HA.out.len; omega), Nat.mul_comm]
      clear HE hF
      go_wp2
      go_ret
      obtain ⟨vs, f1, f2, f3, f4⟩ := Hfin.out
      exact ⟨vs, rfl, f1, f2, f3, f4⟩

/-- A number, and two values behind it. -/
def Tells3 (w : World) (V L : Nat) (u v : Value) (e : Ending) (w' : World) : Prop :=
  ∃ A m c zs, e = .returned (.tuple #[.slice A m c, u, v]) ∧ m ≤ L ∧ Lim w' A m c zs ∧ Bare zs ∧ val zs = V ∧ Below w.heap.size w w'

theorem Holds.start (w : World) (t L : Nat) : Holds (w.alloc (.cells (madeCells #[.int .u64 0] L) t)) w.heap.size t (List.replicate L 0) :=
  ⟨by
    rw [List.length_replicate]
    exact (World.rowIs_made w (.int .u64 0) L t).congr (fun j hj => by rw [List.getD_eq_getElem?_getD, List.getElem?_replicate, if_pos hj]; rfl), fun x hx => by rw [(List.mem_replicate.1 hx).2]; decide⟩
theorem getD_zeros (L j : Nat) : (List.replicate L 0).getD j 0 = 0 := by
  rw [List.getD_eq_getElem?_getD, List.getElem?_replicate]; split <;> rfl
theorem small_step {N Z Z2 i rest x q r V T : Nat} (hd : rest * 18446744073709551616 + x = q * N + r) (hset : Z2 + pw i * 0 = Z + pw i * q) (h : N * Z + (pw (i + 1) * rest + (T + pw i * x)) = V) : N * Z2 + (pw i * r + T) = V := by
  have e : pw (i + 1) * rest = pw i * (rest * 18446744073709551616) := by rw [pw_succ, Nat.mul_comm 18446744073709551616, Nat.mul_assoc, Nat.mul_comm 18446744073709551616]
  have e2 : pw i * (rest * 18446744073709551616 + x) = pw i * (q * N + r) := by rw [hd]
  have e3 : Z2 = Z + pw i * q := by rw [Nat.mul_zero, Nat.add_zero] at hset; exact hset
  rw [Nat.mul_add, Nat.mul_add] at e2
  have e4 : N * (Z + pw i * q) = N * Z + pw i * (q * N) := by rw [Nat.mul_add, Nat.mul_left_comm, Nat.mul_comm N q]
  rw [e3, e4]
  rw [e] at h
  omega
theorem small_end {N Z rest V : Nat} (h : N * Z + (pw 0 * rest + 0) = V) (hr : rest < N) : V / N = Z ∧ V % N = rest := by
  rw [pw_zero, Nat.one_mul, Nat.add_zero] at h
  have hN : 0 < N := by omega
  refine ⟨?_, ?_⟩
  · rw [← h, Nat.add_comm, Nat.add_mul_div_left _ _ hN, Nat.div_eq_of_lt hr, Nat.zero_add]
  · rw [← h, Nat.add_comm, Nat.add_mul_mod_self_left, Nat.mod_eq_of_lt hr]

set_option maxHeartbeats 2000000 in
theorem small_any (A : Option Addr) (n c : Nat) (xs : List Nat) (N : Nat) (w : World) (hA : Lim w A n c xs) (hn : n ≤ 1000000) (hN0 : 0 < N) (hN : N < 18446744073709551616) (R : Nat) (hR : Hid (val xs % N = R)) :
    Calls Tryd.prog 47 #[.slice A n c, .int .u64 (N : Int)] w (Tells3 w (val xs / N) n (.int .u64 (R : Int)) (.int .i64 0)) := by
  have hP := hA.trim
  have HX := Lib.hid (val_take_tl xs)
  have l1 := hA.tl_le
  obtain ⟨la, hla⟩ : ∃ l, tl xs = l := ⟨_, rfl⟩
  rw [hla] at l1 hP HX
  have Hla := Lib.hid hla
  clear hla
  generalize xs.take la = ps at hP HX
  have HP := Lib.hid hP
  have HA := Lib.hid hA
  have hmk := run_make_row' (P := Tryd.prog) 22 33 (.int .u64 0) 8 Tryd.underlying22 info64 rfl .i64 .i64 la (by omega) (by omega)
  have b0 : ((N : Int) == 0) = false := beq_eq_false_iff_ne.2 (by omega)
  clear hP hA
  go_enter Tryd.func47, Tryd.ntmps47
  go_wp2_with fail
  refine (qbare_any la A n c xs _ HA.out (by omega) Hla).mono ?_
  rintro e w' ⟨rfl, rfl⟩
  go_wp2
  clear hmk b0
  go_loopw [8, 9] (fun s8 i wr => ∃ (j rest : Nat) (zs : List Nat), j ≤ la ∧ i = .int .i64 ((j : Int) - 1) ∧ s8 = .int .u64 (rest : Int) ∧ rest < N ∧ Hid (zs.length = la) ∧ Hid (Holds wr w.heap.size 33 zs) ∧ Hid (Below w.heap.size w wr) ∧ Hid (∀ k, k < j → zs.getD k 0 = 0) ∧ Hid (N * val zs + (pw j * rest + val (ps.take j)) = val ps)) (fun _ i _ => (intOf i + 1).toNat)
  case atStart => exact ⟨la, 0, List.replicate la 0, Nat.le_refl _, rfl, rfl, hN0, List.length_replicate, Holds.start w _ _, (Below.refl _ _).alloc (Nat.le_refl _) _, fun k _ => getD_zeros _ _, by
    rw [val_zeros, Nat.mul_zero, Nat.mul_zero, Nat.zero_add, Nat.zero_add, List.take_of_length_le (by have := HP.out.len; omega)]; rfl⟩
  case round =>
    obtain ⟨w1, rfl⟩ : ∃ w1, w1 = wr := ⟨_, rfl⟩
    obtain ⟨j, rest, zs, hj, rfl, rfl, hrest, Hzl, HH, HB, HZ, HE⟩ := hrel
    by_cases hj0 : 0 < j
    · obtain ⟨i, rfl⟩ : ∃ i, j = i + 1 := ⟨j - 1, by omega⟩
      obtain ⟨b, o, hAe, hb, hcl⟩ := HP.out.at_ (by omega)
      subst hAe
      have c1 := (HB.out.cell (p := ⟨b, o + i, none⟩) hb).trans (hcl i (by omega))
      clear hcl
      have hxw := HP.out.words.getD i
      have c2 := HH.out.cell (j := i) (by have := Hzl.out; omega)
      have c3 := HH.out.frozen i
      have ht := val_take_succ' ps i
      obtain ⟨x, hx⟩ : ∃ x, ps.getD i 0 = x := ⟨_, rfl⟩
      rw [hx] at c1 hxw ht
      obtain ⟨q, r, hd, hr⟩ : ∃ q r, rest * 18446744073709551616 + x = q * N + r ∧ r < N := ⟨(rest * 18446744073709551616 + x) / N, (rest * 18446744073709551616 + x) % N, (Nat.div_add_mod' _ _).symm, Nat.mod_lt _ hN0⟩
      have hq : q < 18446744073709551616 := by
        rcases Nat.lt_or_ge q 18446744073709551616 with h | h
        · exact h
        · have h1 : 18446744073709551616 * N ≤ q * N := Nat.mul_le_mul_right _ h
          omega
      have Hdiv := Lib.hid (div64_any rest x N q r w1 hrest hxw hN hr hd)
      have HH2 := Lib.hid (fun k => (HH.out.drewN k).set (k := i) (z := q) (by have := Hzl.out; omega) hq)
      have HB2 := Lib.hid (fun k => (below_drewN HB.out k).setCell (p := ⟨w.heap.size, i, none⟩) (Nat.le_refl _) (.int .u64 (q : Int)))
      have Hl2 : Hid ((zs.set i q).length = la) := by rw [List.length_set]; exact Hzl
      have HZ2 : Hid (∀ k, k < i → (zs.set i q).getD k 0 = 0) := fun k hk => by
        rw [getD_set' zs i q k (by have := Hzl.out; omega), if_neg (by omega)]
        exact HZ.out k (by omega)
      have HE2 : Hid (N * val (zs.set i q) + (pw i * r + val (ps.take i)) = val ps) := by
        have h1 := val_set zs i q (by have := Hzl.out; omega)
        rw [HZ.out i (by omega)] at h1
        have h2 := HE.out
        rw [ht] at h2
        exact small_step hd h1 h2
      have e1 : ((i + 1 : Nat) : Int) - 1 = (i : Int) := by omega
      rw [e1]
      clear hd HE ht hx e1 hj0
      go_wp2_with fail
      refine Hdiv.out.mono ?_
      rintro e w2 ⟨rfl, k, rfl⟩
      have HH3 := Lib.hid (HH2.out k)
      have HB3 := Lib.hid (HB2.out k)
      clear HH2 HB2
      go_wp2
      go_roundw
      case rel => exact ⟨i, r, zs.set i q, by omega, by go_num, rfl, hr, Hl2, HH3, HB3, HZ2, HE2⟩
      case measure => simp [intOf]
    · obtain rfl : j = 0 := by omega
      obtain ⟨h1, h2⟩ := small_end HE.out hrest
      rw [HX.out] at h1 h2
      obtain rfl : rest = R := by rw [← hR.out]; exact h2.symm
      have hlim := HH.out.lim
      rw [Hzl.out] at hlim
      have HV := Lib.hid h1.symm
      clear h1 h2 HE
      have HB1 := HB.out
      go_wp2_with fail
      refine (qbare_any (tl zs) _ _ _ zs _ hlim (by omega) rfl).mono ?_
      rintro e w' ⟨rfl, rfl⟩
      go_wp2
      go_ret3
      exact ⟨_, _, _, _, rfl, Nat.le_trans hlim.tl_le l1, hlim.trim, bare_take zs, by rw [val_take_tl]; exact HV.out, HB1⟩

theorem small_nought (A : Option Addr) (n c : Nat) (w : World) :
    Calls Tryd.prog 47 #[.slice A n c, .int .u64 0] w fun e w' => e = .returned (.tuple #[.slice none 0 0, .int .u64 0, .int .i64 1]) ∧ w = w' := by
  go_enter Tryd.func47, Tryd.ntmps47
  go_wp2
  go_ret3
  exact ⟨rfl, rfl⟩
end Go.Proofs.YtkgbgmhkbigjhaaDoor
