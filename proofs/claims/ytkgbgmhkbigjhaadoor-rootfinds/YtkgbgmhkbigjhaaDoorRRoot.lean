/- The walks of root.Root, Halves and Order. -/
import Derived.Test.YtkgbgmhkbigjhaaDoorRStep
namespace Go.Proofs.YtkgbgmhkbigjhaaDoor
open Go.RowKit

theorem root_arg (A : Option Addr) (n c : Nat) (k : Int) (w : World) (hk : k < 1) :
    Calls Tryd.prog 8 #[.slice A n c, .int .i64 k] w fun e w' => e = .returned (.tuple #[.slice none 0 0, .bool false, .int .i64 1]) ∧ w = w' := by
  go_enter Tryd.func8, Tryd.ntmps8
  go_wp2
  go_ret3
  exact ⟨rfl, rfl⟩

theorem root_long (A : Option Addr) (n c : Nat) (xs : List Nat) (k : Int) (w : World) (hA : Lim w A n c xs) (hn : n ≤ 1000000) (hk : 1 ≤ k) (hk2 : k ≤ 9223372036854775807) (hb : 8192 < blen (val xs)) :
    Calls Tryd.prog 8 #[.slice A n c, .int .i64 k] w fun e w' => e = .returned (.tuple #[.slice none 0 0, .bool false, .int .i64 2]) ∧ w = w' := by
  have hbl := hA.blen_le
  obtain ⟨b, hbb⟩ : ∃ b, blen (val xs) = b := ⟨_, rfl⟩
  have Hb := Lib.hid (bits_v b A n c xs w hA (by omega) hbb)
  rw [hbb] at hb hbl
  clear hbb hA
  go_enter Tryd.func8, Tryd.ntmps8
  go_wp2_with fail
  refine Hb.out.mono ?_
  rintro e w' ⟨rfl, rfl⟩
  go_wp2
  go_ret3
  exact ⟨rfl, rfl⟩

set_option maxHeartbeats 2000000 in
theorem root_any (k : Nat) (bb : Bool) (A : Option Addr) (n c : Nat) (xs : List Nat) (w : World) (hA : Lim w A n c xs) (hn : n ≤ 900000) (hT : Tab w) (hk1 : 1 ≤ k) (hk : k ≤ 9223372036854775807) (hb : blen (val xs) ≤ 8192) (hbb : Hid (decide (Ex k (val xs)) = bb)) :
    Calls Tryd.prog 8 #[.slice A n c, .int .i64 (k : Int)] w (Tells3 w (rt k (val xs)) n (.bool bb) (.int .i64 0)) := by
  obtain ⟨b, hbe⟩ : ∃ b, blen (val xs) = b := ⟨_, rfl⟩
  have Hb := Lib.hid (bits_v b A n c xs w hA (by omega) hbe)
  have H1 := Lib.hid (whole_to k hk1 hk 8192 (by omega) A n c xs w hA hn hT hb)
  have HA := Lib.hid hA
  have Hp : Hid (rt k (val xs) ^ k ≤ val xs ∧ blen (rt k (val xs) ^ k) ≤ 65536) := ⟨rt_le hk1, by have := blen_mono (rt_le (a := val xs) hk1); omega⟩
  rw [hbe] at hb
  clear hA hT hbe
  go_enter Tryd.func8, Tryd.ntmps8
  go_wp2_with fail
  refine Hb.out.mono ?_
  rintro e w' ⟨rfl, rfl⟩
  go_wp2_with fail
  refine H1.out.mono ?_
  rintro e w1 ⟨A1, m1, c1, us, rfl, hm1, hl1, hb1, hv1, hB1⟩
  have H2 := Lib.hid (pow_fit A1 m1 c1 us k w1 hl1 (by omega) hk (by rw [hv1]; exact Hp.out.2))
  rw [hv1] at H2
  have HA1 := Lib.hid (HA.out.below hB1)
  have HS1 : Hid (Lim w1 A1 m1 c1 us ∧ Bare us ∧ val us = rt k (val xs) ∧ Below w.heap.size w w1) := ⟨hl1, hb1, hv1, hB1⟩
  clear H1 hl1 hb1 hv1 hB1 HA Hb
  go_wp2_with fail
  refine H2.out.mono ?_
  rintro e w2 ⟨A2, m2, c2, ps, rfl, hm2, hl2, hb2, hv2, hB2⟩
  obtain ⟨v, hv, hvb⟩ : ∃ v, cmpZ (val ps) (val xs) = v ∧ (v = 0 ∧ bb = true ∨ v = -1 ∧ bb = false) := by
    refine ⟨_, rfl, ?_⟩
    rw [hv2, ← hbb.out]
    by_cases hex : rt k (val xs) ^ k = val xs
    · exact Or.inl ⟨cmpZ_eq hex, decide_eq_true hex⟩
    · exact Or.inr ⟨cmpZ_lt (by have := Hp.out.1; omega), decide_eq_false hex⟩
  have H3 := Lib.hid (cmp_b v A2 m2 c2 ps A n c xs w2 hl2 (HA1.out.below hB2) (by omega) (by omega) hv)
  obtain ⟨f1, f2, f3, f4⟩ := HS1.out
  have Hfin : Hid (∀ w', Below w2.heap.size w2 w' → Tells3 w (rt k (val xs)) n (.bool bb) (.int .i64 0) (.returned (.tuple #[.slice A1 m1 c1, .bool bb, .int .i64 0])) w') := fun w' hb' => by
    have h5 := hB2.trans (hb'.mono hB2.size)
    exact ⟨A1, m1, c1, us, rfl, hm1, f1.below h5, f2, f3, f4.trans (h5.mono f4.size)⟩
  clear f1 f2 f3 f4 hl2 hb2 hv2 hB2 HA1 HS1 H2 Hp hbb hv
  rcases hvb with ⟨rfl, rfl⟩ | ⟨rfl, rfl⟩
  · go_wp2_with fail
    refine H3.out.mono ?_
    rintro e w3 ⟨rfl, hB3⟩
    go_wp2
    go_ret3
    exact Hfin.out _ hB3
  · go_wp2_with fail
    refine H3.out.mono ?_
    rintro e w3 ⟨rfl, hB3⟩
    go_wp2
    go_ret3
    exact Hfin.out _ hB3

theorem halves_arg (A : Option Addr) (n c : Nat) (k : Int) (w : World) (hk : k < 0) :
    Calls Tryd.prog 16 #[.slice A n c, .int .i64 k] w fun e w' => e = .returned (.tuple #[.slice none 0 0, .bool false, .int .i64 1]) ∧ w = w' := by
  go_enter Tryd.func16, Tryd.ntmps16
  go_wp2
  go_ret3
  exact ⟨rfl, rfl⟩

/-- Half way: what j square roots leave; all of them, if it is at most 1. -/
theorem halves_end {V r j t : Nat} (hr : r = rt (2 ^ j) V) (h : r ≤ 1) : r = rt (2 ^ (j + t)) V ∧ (Ex (2 ^ (j + t)) V ↔ Ex (2 ^ j) V) := by
  have hj := Nat.two_pow_pos j
  have ht := Nat.two_pow_pos t
  obtain ⟨h1, h2⟩ := ex_small ht h
  rw [Nat.pow_add, ← rt_nest hj ht, ex_nest hj ht, ← hr]
  exact ⟨h2.symm, ⟨fun h => h.1, fun h => ⟨h, h1⟩⟩⟩
theorem halves_step {V r j : Nat} (hr : r = rt (2 ^ j) V) : rt 2 r = rt (2 ^ (j + 1)) V ∧ (Ex (2 ^ (j + 1)) V ↔ Ex (2 ^ j) V ∧ Ex 2 r) := by
  have hj := Nat.two_pow_pos j
  rw [Nat.pow_succ, ← rt_nest hj (by decide), ex_nest hj (by decide), ← hr]
  exact ⟨rfl, Iff.rfl⟩
theorem decide_and_eq {p q s : Prop} [Decidable p] [Decidable q] [Decidable s] (h : s ↔ p ∧ q) : decide s = (decide p && decide q) := by
  by_cases hp : p <;> by_cases hq : q <;> simp [h, hp, hq]

set_option maxHeartbeats 2000000 in
theorem halves_any (K : Nat) (BB : Bool) (A : Option Addr) (n c : Nat) (xs : List Nat) (w : World) (hA : Lim w A n c xs) (hn : n ≤ 900000) (hT : Tab w) (hk : K ≤ 9223372036854775807) (hb : blen (val xs) ≤ 8192) (hbb : Hid (decide (Ex (2 ^ K) (val xs)) = BB)) :
    Calls Tryd.prog 16 #[.slice A n c, .int .i64 (K : Int)] w (Tells3 w (rt (2 ^ K) (val xs)) n (.bool BB) (.int .i64 0)) := by
  obtain ⟨b, hbe⟩ : ∃ b, blen (val xs) = b := ⟨_, rfl⟩
  have Hb := Lib.hid (bits_v b A n c xs w hA (by omega) hbe)
  have H1 := Lib.hid (bare_any A n c xs w hA (by omega))
  have HT := Lib.hid hT
  rw [hbe] at hb
  have Hbe := Lib.hid hbe
  clear hA hT hbe
  go_enter Tryd.func16, Tryd.ntmps16
  go_wp2_with fail
  refine Hb.out.mono ?_
  rintro e w' ⟨rfl, rfl⟩
  go_wp2_with fail
  refine H1.out.mono ?_
  rintro e w1 ⟨A1, m1, c1, us, rfl, hm1, hl1, hb1, hv1, hB1⟩
  have H2 : Hid (Lim w1 A1 m1 c1 us ∧ Bare us ∧ val us = rt (2 ^ 0) (val xs) ∧ decide (Ex (2 ^ 0) (val xs)) = true ∧ Below w.heap.size w w1) :=
    ⟨hl1, hb1, by rw [hv1, Nat.pow_zero, rt_one_k], decide_eq_true (by rw [Ex, Nat.pow_zero, rt_one_k, Nat.pow_one]), hB1⟩
  clear H1 Hb hl1 hb1 hv1 hB1
  go_wp2_with fail
  go_loopw [1, 7, 8] (fun s1 s7 s8 wr => ∃ (j t : Nat) (A3 : Option Addr) (m3 c3 : Nat) (ts : List Nat) (bb : Bool), s1 = .int .i64 (t : Int) ∧ s7 = .slice A3 m3 c3 ∧ s8 = .bool bb ∧ Hid (j + t = K) ∧ t ≤ 9223372036854775807 ∧ m3 ≤ n ∧ Hid (Lim wr A3 m3 c3 ts ∧ Bare ts ∧ val ts = rt (2 ^ j) (val xs) ∧ decide (Ex (2 ^ j) (val xs)) = bb ∧ Below w.heap.size w wr)) (fun s1 _ _ _ => (intOf s1).toNat)
  case atStart => exact ⟨0, K, A1, m1, c1, us, true, rfl, rfl, rfl, Nat.zero_add K, hk, hm1, H2⟩
  case round =>
    clear H2
    obtain ⟨w2, rfl⟩ : ∃ w2, w2 = wr := ⟨_, rfl⟩
    obtain ⟨j, t, A3, m3, c3, ts, bb, rfl, rfl, rfl, HK, ht, hm3, H3⟩ := hrel
    obtain ⟨f1, f2, f3, f4, f5⟩ := H3.out
    have hK := HK.out
    cases t with
    | zero =>
      have hKj : j = K := by omega
      have Hfin : Hid (Tells3 w (rt (2 ^ K) (val xs)) n (.bool BB) (.int .i64 0) (.returned (.tuple #[.slice A3 m3 c3, .bool bb, .int .i64 0])) w2) := by
        rw [← hKj] at hbb ⊢
        rw [← hbb.out, f4]
        exact ⟨A3, m3, c3, ts, rfl, hm3, f1, f2, f3, f5⟩
      clear f1 f2 f3 f4 f5 hK hKj H3 HK
      go_wp2
      go_ret3
      exact Hfin.out
    | succ t =>
      obtain ⟨b', hbe'⟩ : ∃ b', blen (val ts) = b' := ⟨_, rfl⟩
      have Hb' := Lib.hid (bits_v b' A3 m3 c3 ts w2 f1 (by omega) hbe')
      have hb8 : b' ≤ 8192 := by
        have := blen_mono (rt_self_le (k := 2 ^ j) (a := val xs) (Nat.two_pow_pos j))
        rw [← f3, hbe', Hbe.out] at this
        omega
      by_cases hb1 : b' ≤ 1
      · have hle : val ts ≤ 1 := by
          have := blen_le_iff.1 (show blen (val ts) ≤ 1 by omega)
          omega
        obtain ⟨g1, g2⟩ := halves_end (t := t + 1) f3 hle
        rw [hK] at g1 g2
        have Hfin : Hid (Tells3 w (rt (2 ^ K) (val xs)) n (.bool BB) (.int .i64 0) (.returned (.tuple #[.slice A3 m3 c3, .bool bb, .int .i64 0])) w2) := by
          rw [← hbb.out, ← f4, show decide (Ex (2 ^ K) (val xs)) = decide (Ex (2 ^ j) (val xs)) from by simp [g2]]
          exact ⟨A3, m3, c3, ts, rfl, hm3, f1, f2, g1, f5⟩
        clear f1 f2 f3 f4 f5 g1 g2 hle H3 HK hK hbe'
        go_wp2_with fail
        refine Hb'.out.mono ?_
        rintro e w' ⟨rfl, rfl⟩
        go_wp2
        go_ret3
        exact Hfin.out
      · obtain ⟨b2, hb2⟩ : ∃ b2, decide (Ex 2 (val ts)) = b2 := ⟨_, rfl⟩
        have Hr := Lib.hid (root_any 2 b2 A3 m3 c3 ts w2 f1 (by omega) (HT.out.below f5) (by decide) (by decide) (by omega) hb2)
        obtain ⟨g1, g2⟩ := halves_step f3
        have hnew := decide_and_eq g2
        rw [f4, hb2] at hnew
        have Hnew := Lib.hid hnew
        have Hg1 := Lib.hid g1
        have Hf5 := Lib.hid f5
        clear f1 f2 f3 f4 f5 g1 g2 H3 hK hbe' hb2 hnew
        cases bb with
        | true =>
          go_wp2_with fail
          refine Hb'.out.mono ?_
          rintro e w' ⟨rfl, rfl⟩
          go_wp2_with fail
          refine Hr.out.mono ?_
          rintro e w5 ⟨A5, m5, c5, zs, rfl, hm5, hl5, hb5, hv5, hB5⟩
          have H4 : Hid (Lim w5 A5 m5 c5 zs ∧ Bare zs ∧ val zs = rt (2 ^ (j + 1)) (val xs) ∧ decide (Ex (2 ^ (j + 1)) (val xs)) = b2 ∧ Below w.heap.size w w5) :=
            ⟨hl5, hb5, by rw [hv5]; exact Hg1.out, by rw [Hnew.out, Bool.true_and], Hf5.out.trans (hB5.mono Hf5.out.size)⟩
          clear Hr Hb' hl5 hb5 hv5 hB5 Hnew Hg1 Hf5
          go_wp2
          go_roundw
          case rel => exact ⟨j + 1, t, A5, m5, c5, zs, b2, by go_num, rfl, rfl, by have := HK.out; show _ = _; omega, by omega, by omega, H4⟩
          case measure => simp [intOf]
        | false =>
          go_wp2_with fail
          refine Hb'.out.mono ?_
          rintro e w' ⟨rfl, rfl⟩
          go_wp2_with fail
          refine Hr.out.mono ?_
          rintro e w5 ⟨A5, m5, c5, zs, rfl, hm5, hl5, hb5, hv5, hB5⟩
          have H4 : Hid (Lim w5 A5 m5 c5 zs ∧ Bare zs ∧ val zs = rt (2 ^ (j + 1)) (val xs) ∧ decide (Ex (2 ^ (j + 1)) (val xs)) = false ∧ Below w.heap.size w w5) :=
            ⟨hl5, hb5, by rw [hv5]; exact Hg1.out, by rw [Hnew.out, Bool.false_and], Hf5.out.trans (hB5.mono Hf5.out.size)⟩
          clear Hr Hb' hl5 hb5 hv5 hB5 Hnew Hg1 Hf5
          go_wp2
          go_roundw
          case rel => exact ⟨j + 1, t, A5, m5, c5, zs, false, by go_num, rfl, rfl, by have := HK.out; show _ = _; omega, by omega, by omega, H4⟩
          case measure => simp [intOf]

theorem order_arg (A : Option Addr) (n c : Nat) (xs : List Nat) (most : Int) (w : World) (hA : Lim w A n c xs) (hn : n ≤ 1000000) (hm : most < 0 ∨ val xs = 0) :
    Calls Tryd.prog 17 #[.slice A n c, .int .i64 most] w fun e w' => e = .returned (.tuple #[.int .i64 0, .int .i64 1]) ∧ w = w' := by
  by_cases h0 : most < 0
  · obtain ⟨b, hbe⟩ : ∃ b, blen (val xs) = b := ⟨_, rfl⟩
    have Hb := Lib.hid (bits_v b A n c xs w hA (by omega) hbe)
    clear hA hbe hm
    go_enter Tryd.func17, Tryd.ntmps17
    go_wp2_with fail
    refine Hb.out.mono ?_
    rintro e w' ⟨rfl, rfl⟩
    go_wp2
    go_ret2
    exact ⟨rfl, rfl⟩
  · have hv : val xs = 0 := by omega
    have Hb := Lib.hid (bits_v 0 A n c xs w hA (by omega) (by rw [hv]; rfl))
    clear hA hm hv
    go_enter Tryd.func17, Tryd.ntmps17
    go_wp2_with fail
    refine Hb.out.mono ?_
    rintro e w' ⟨rfl, rfl⟩
    go_wp2
    go_ret2
    exact ⟨rfl, rfl⟩

/-- What Order tells: how often it is a square, as far as 'most'. -/
def OrderTells (w : World) (V most : Nat) (e : Ending) (w' : World) : Prop :=
  ∃ o : Nat, e = .returned (.tuple #[.int .i64 (o : Int), .int .i64 0]) ∧ o ≤ most ∧ (∀ i, i ≤ most → (i ≤ o ↔ Ex (2 ^ i) V)) ∧ Below w.heap.size w w'

theorem ex_less {V r j i : Nat} (hr : r ^ 2 ^ j = V) (h : i ≤ j) : Ex (2 ^ i) V := by
  apply (ex_iff (Nat.two_pow_pos i)).2
  refine ⟨r ^ 2 ^ (j - i), ?_⟩
  rw [← Nat.pow_mul, ← Nat.pow_add, Nat.sub_add_cancel h]; exact hr
theorem not_ex_more {V r j i : Nat} (hr : r ^ 2 ^ j = V) (hno : ¬ Ex 2 r) (h : j < i) : ¬ Ex (2 ^ i) V := by
  intro hex
  obtain ⟨s, hs⟩ := (ex_iff (Nat.two_pow_pos i)).1 hex
  apply hno
  apply (ex_iff (by decide)).2
  refine ⟨s ^ 2 ^ (i - j - 1), ?_⟩
  apply pow_inj (Nat.two_pow_pos j)
  have e : 2 ^ (i - j - 1) * 2 * 2 ^ j = 2 ^ i := by
    rw [← Nat.pow_succ, ← Nat.pow_add]
    congr 1
    omega
  rw [hr, ← hs, ← Nat.pow_mul, ← Nat.pow_mul, ← Nat.mul_assoc, e]

set_option maxHeartbeats 2000000 in
theorem order_any (most : Nat) (A : Option Addr) (n c : Nat) (xs : List Nat) (w : World) (hA : Lim w A n c xs) (hn : n ≤ 900000) (hT : Tab w) (hm : most ≤ 9223372036854775807) (hb : blen (val xs) ≤ 8192) (h0 : val xs ≠ 0) :
    Calls Tryd.prog 17 #[.slice A n c, .int .i64 (most : Int)] w (OrderTells w (val xs) most) := by
  obtain ⟨b, hbe⟩ : ∃ b, blen (val xs) = b + 1 := ⟨blen (val xs) - 1, by have := blen_pos h0; omega⟩
  have Hb := Lib.hid (bits_v (b + 1) A n c xs w hA (by omega) hbe)
  have HT := Lib.hid hT
  have HA := Lib.hid hA
  by_cases hb1 : b = 0
  · subst hb1
    have hv1 : val xs = 1 := by have := blen_le_iff.1 (show blen (val xs) ≤ 1 by omega); omega
    have Hfin : Hid (OrderTells w (val xs) most (.returned (.tuple #[.int .i64 (most : Int), .int .i64 0])) w) :=
      ⟨most, rfl, Nat.le_refl _, fun i hi => ⟨fun _ => by rw [hv1]; exact (ex_small (Nat.two_pow_pos i) (Nat.le_refl 1)).1, fun _ => hi⟩, Below.refl _ _⟩
    clear hA hT hbe hv1 h0 HA
    go_enter Tryd.func17, Tryd.ntmps17
    go_wp2_with fail
    refine Hb.out.mono ?_
    rintro e w' ⟨rfl, rfl⟩
    go_wp2
    go_ret2
    exact Hfin.out
  have H2 : Hid (Lim w A n c xs ∧ val xs ^ 2 ^ 0 = val xs ∧ blen (val xs) ≤ 8192 ∧ Below w.heap.size w w) :=
    ⟨hA, by rw [Nat.pow_zero, Nat.pow_one], hb, Below.refl _ _⟩
  rw [hbe] at hb
  obtain ⟨B, hB⟩ : ∃ B, b + 1 = B := ⟨_, rfl⟩
  rw [hB] at Hb
  have b1 : ((B : Int) == 0) = false := beq_eq_false_iff_ne.2 (by omega)
  have b2 : ((B : Int) == 1) = false := beq_eq_false_iff_ne.2 (by omega)
  have b3 : decide ((8192 : Int) < (B : Int)) = false := by simp; omega
  have b4 : decide (8192 < B) = false := by simp; omega
  clear hA hT hbe h0 HA hb hb1 hB
  go_enter Tryd.func17, Tryd.ntmps17
  go_wp2_with fail
  refine Hb.out.mono ?_
  rintro e w' ⟨rfl, rfl⟩
  clear Hb
  go_wp2_with fail
  go_loopw [0, 7] (fun s0 s7 wr => ∃ (j : Nat) (A3 : Option Addr) (m3 c3 : Nat) (ts : List Nat), s0 = .slice A3 m3 c3 ∧ s7 = .int .i64 (j : Int) ∧ j ≤ most ∧ m3 ≤ n ∧ Hid (Lim wr A3 m3 c3 ts ∧ val ts ^ 2 ^ j = val xs ∧ blen (val ts) ≤ 8192 ∧ Below w.heap.size w wr)) (fun _ s7 _ => (most - intOf s7).toNat)
  case atStart => exact ⟨0, A, n, c, xs, rfl, rfl, Nat.zero_le _, Nat.le_refl _, H2⟩
  case round =>
    clear H2
    obtain ⟨w2, rfl⟩ : ∃ w2, w2 = wr := ⟨_, rfl⟩
    obtain ⟨j, A3, m3, c3, ts, rfl, rfl, hj, hm3, H3⟩ := hrel
    obtain ⟨f1, f3, f4, f5⟩ := H3.out
    by_cases hjm : j = most
    · have Hfin : Hid (OrderTells w (val xs) most (.returned (.tuple #[.int .i64 (j : Int), .int .i64 0])) w2) :=
        ⟨j, rfl, hj, fun i hi => ⟨fun h => ex_less f3 h, fun _ => by omega⟩, f5⟩
      subst hjm
      clear f1 f3 f4 f5 H3
      go_wp2
      go_ret2
      exact Hfin.out
    · obtain ⟨bb, hbb⟩ : ∃ bb, decide (Ex 2 (val ts)) = bb := ⟨_, rfl⟩
      have Hr := Lib.hid (root_any 2 bb A3 m3 c3 ts w2 f1 (by omega) (HT.out.below f5) (by decide) (by decide) (by omega) hbb)
      have hlt : j < most := by omega
      cases bb with
      | true =>
        have hex := of_decide_eq_true hbb
        have H4 : Hid (rt 2 (val ts) ^ 2 ^ (j + 1) = val xs ∧ blen (rt 2 (val ts)) ≤ 8192) := by
          refine ⟨?_, ?_⟩
          · rw [Nat.pow_succ, Nat.mul_comm, Nat.pow_mul, hex]; exact f3
          · have := blen_mono (rt_self_le (k := 2) (a := val ts) (by decide))
            omega
        have Hf5 := Lib.hid f5
        clear f1 f3 f4 f5 H3 hbb hex hjm
        go_wp2_with fail
        refine Hr.out.mono ?_
        rintro e w5 ⟨A5, m5, c5, zs, rfl, hm5, hl5, hb5, hv5, hB5⟩
        have H5 : Hid (Lim w5 A5 m5 c5 zs ∧ val zs ^ 2 ^ (j + 1) = val xs ∧ blen (val zs) ≤ 8192 ∧ Below w.heap.size w w5) :=
          ⟨hl5, by rw [hv5]; exact H4.out.1, by rw [hv5]; exact H4.out.2, Hf5.out.trans (hB5.mono Hf5.out.size)⟩
        clear Hr hl5 hb5 hv5 hB5 H4 Hf5
        go_wp2
        go_roundw
        case rel => exact ⟨j + 1, A5, m5, c5, zs, rfl, by go_num, by omega, by omega, H5⟩
        case measure => simp [intOf]; omega
      | false =>
        have hno := of_decide_eq_false hbb
        have Hfin : Hid (∀ w', Below w2.heap.size w2 w' → OrderTells w (val xs) most (.returned (.tuple #[.int .i64 (j : Int), .int .i64 0])) w') := fun w' hb' =>
          ⟨j, rfl, hj, fun i hi => ⟨fun h => ex_less f3 h, fun h => by
            rcases Nat.lt_or_ge j i with h9 | h9
            · exact absurd h (not_ex_more f3 hno h9)
            · exact h9⟩, f5.trans (hb'.mono f5.size)⟩
        clear f1 f3 f4 f5 H3 hbb hno hjm
        go_wp2_with fail
        refine Hr.out.mono ?_
        rintro e w5 ⟨A5, m5, c5, zs, rfl, hm5, hl5, hb5, hv5, hB5⟩
        have HB5 := Lib.hid hB5
        clear Hr hl5 hb5 hv5 hB5
        go_wp2
        go_ret2
        exact Hfin.out _ HB5.out
end Go.Proofs.YtkgbgmhkbigjhaaDoor
