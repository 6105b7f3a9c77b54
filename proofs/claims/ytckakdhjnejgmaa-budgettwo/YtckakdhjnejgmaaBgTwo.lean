/- The walk of planimeterlaw17.BudgetTwo (written by law_btwo.py). -/
import Derived.Test.YtckakdhjnejgmaaBgAlive
import Derived.Lib.MinMax
namespace Go.Proofs.Ytckakdhjnejgmaa
open Go.Conc Go.RowKit

theorem min_taken (n m : Nat) : min (n : Int) (m : Int) = ((taken n m true : Nat) : Int) := by
  unfold taken
  rw [if_pos rfl]
  omega
/-- Two budgets, and what was there. -/
structure Two (W w : World) (b c b' c' m l l' : Nat) (op : Bool) : Prop where
  one : Bud w b c m l op
  two : Bud w b' c' m l' true
  n1 : b ≠ b'
  n2 : b ≠ c'
  n3 : c ≠ b'
  n4 : c ≠ c'
  k1 : W.heap.size ≤ b
  k2 : W.heap.size ≤ c
  bel : Below W.heap.size W w
theorem Two.next {W w w' : World} {b c b' c' m l l' l2 : Nat} {op op2 : Bool} (h : Two W w b c b' c' m l l' op) (h1 : Bud w' b c m l2 op2) (h2 : Ours b c w w') : Two W w' b c b' c' m l2 l' op2 :=
  ⟨h1, h.two.ours h2 h.n1.symm h.n3.symm h.n2.symm h.n4.symm, h.n1, h.n2, h.n3, h.n4, h.k1, h.k2, h2.below h.bel h.k1 h.k2⟩
theorem two_made {W w1 w2 w3 : World} {m : Nat} (hB : Below W.heap.size W w1) (h1 : Bud w2 (w1.heap.size + 1) w1.heap.size m m true) (k1 : Below w1.heap.size w1 w2) (s1 : w2.heap.size = w1.heap.size + 2)
    (h2 : Bud w3 (w2.heap.size + 1) w2.heap.size m m true) (k2 : Below w2.heap.size w2 w3) : Two W w3 (w1.heap.size + 1) w1.heap.size (w2.heap.size + 1) w2.heap.size m m m true :=
  have hs := hB.size
  ⟨h1.below k2, h2, by omega, by omega, by omega, by omega, by omega, hs, hB.trans ((k1.mono hs).trans (k2.mono (by omega)))⟩

theorem btwo_false (m n : Nat) (W : World) (hm : m ≤ 255) (hn : n ≤ 255) :
    Calls Try.prog 5 #[.int .u8 (m : Int), .int .u8 (n : Int), .bool false] W fun e w' => e = .returned (.bool true) ∧ Below W.heap.size W w' := by
  have H0 := Lib.hid (bgalive_any W)
  go_enter Try.func5, Try.ntmps5
  go_wp2_with fail
  refine H0.out.mono ?_
  rintro e w1 ⟨rfl, kB⟩
  have KB := Lib.hid kB
  have H1 := Lib.hid (new_l m w1 (by omega))
  clear H0 kB
  go_wp2_with fail
  refine H1.out.mono ?_
  rintro e w2 ⟨rfl, g1, k1, s1⟩
  have G1 := Lib.hid (And.intro g1 (And.intro k1 s1))
  have H2 := Lib.hid (new_l m w2 (by omega))
  clear H1 g1 k1 s1
  go_wp2_with fail
  refine H2.out.mono ?_
  rintro e w3 ⟨rfl, g2, k2, s2⟩
  have hT := two_made KB.out G1.out.1 G1.out.2.1 G1.out.2.2 g2 k2
  obtain ⟨b, hb⟩ : ∃ b, b = w1.heap.size + 1 := ⟨_, rfl⟩
  obtain ⟨c, hc⟩ : ∃ c, c = w1.heap.size := ⟨_, rfl⟩
  obtain ⟨b', hb'⟩ : ∃ b', b' = w2.heap.size + 1 := ⟨_, rfl⟩
  obtain ⟨c', hc'⟩ : ∃ c', c' = w2.heap.size := ⟨_, rfl⟩
  rw [← hb, ← hb', ← hc, ← hc'] at hT
  rw [← hb, ← hb']
  have HT := Lib.hid hT
  clear hT hb hc hb' hc' g2 k2 s2 G1 KB H2
  obtain ⟨t, ht⟩ : ∃ t, t = taken n m true := ⟨_, rfl⟩
  have tl : t ≤ m := by rw [ht]; unfold taken; rw [if_pos rfl]; omega
  have emin := min_taken n m
  rw [← ht] at emin
  have H3 := Lib.hid (takeall_v t (m - t) b c m m true (n : Int) w3 HT.out.one (by omega) (by rw [Int.toNat_natCast, ht]) rfl)
  clear ht
  go_wp2_with fail
  refine H3.out.mono ?_
  rintro e w4 ⟨rfl, g3, o3⟩
  have HT4 := Lib.hid (HT.out.next g3 o3)
  have H4 := Lib.hid (left_l b' c' m m true w4 HT4.out.two)
  clear H3 g3 o3 HT
  go_wp2_with fail
  refine H4.out.mono ?_
  rintro e w' ⟨rfl, rfl⟩
  clear H4
  have HL : Hid (Two W w4 b c b' c' m (m - t + 0) m true) := HT4.out
  clear HT4
  go_wp2
  go_loopg [12] t (fun g s wr => ∃ k : Nat, s = .int .i64 (k : Int) ∧ k ≤ t ∧ Hid (t - k = g) ∧ Hid (Two W wr b c b' c' m (m - t + k) m true))
  case atStart => exact ⟨0, rfl, Nat.zero_le _, rfl, HL⟩
  case round =>
    clear HL
    obtain ⟨k, rfl, hk, Hg, H⟩ := hrel
    by_cases hlt : k < t
    · have Hc := Lib.hid (give_v true (m - t + (k + 1)) b c m (m - t + k) true wr H.out.one (decide_eq_true (by omega)) (by unfold given; rw [if_pos (by omega)]; omega))
      go_wp2_with fail
      refine Hc.out.mono ?_
      rintro e w6 ⟨rfl, g6, o6⟩
      have HF := Lib.hid (H.out.next g6 o6)
      have Hlt : Hid (t - (k + 1) < gk) := by show _ < _; rw [← Hg.out]; omega
      clear Hc g6 o6 H Hg
      go_wp2
      go_roundg (t - (k + 1))
      case rel => exact ⟨k + 1, by push_cast; rfl, by omega, rfl, HF⟩
      case measure => exact Hlt.out
    · obtain rfl : k = t := by omega
      have Hc := Lib.hid (give_v false m b c m (m - k + k) true wr H.out.one (decide_eq_false (by omega)) (by unfold given; rw [if_neg (by omega)]; omega))
      go_wp2_with fail
      refine Hc.out.mono ?_
      rintro e w6 ⟨rfl, g6, o6⟩
      have HF := Lib.hid (H.out.next g6 o6)
      clear Hc g6 o6 H Hg hlt
      have C1 := Lib.hid (left_l b c m m true w6 HF.out.one)
      go_wp2_with fail
      refine C1.out.mono ?_
      rintro e w' ⟨rfl, rfl⟩
      clear C1
      have C2 := Lib.hid (open_l b c m m true w6 HF.out.one)
      go_wp2_with fail
      refine C2.out.mono ?_
      rintro e w' ⟨rfl, rfl⟩
      clear C2
      have C3 := Lib.hid (open_l b' c' m m true w6 HF.out.two)
      go_wp2_with fail
      refine C3.out.mono ?_
      rintro e w' ⟨rfl, rfl⟩
      clear C3
      have bp : decide ((0 : Int) < (m : Int)) = decide (0 < m) := decide_eq_decide.2 (by omega)
      by_cases hm0 : 0 < m
      · have C4 := Lib.hid (take_v true (m - 1) b c m m true w6 HF.out.one (by unfold taken; rw [if_pos rfl]; exact decide_eq_true (by omega)) (by unfold taken; rw [if_pos rfl]; omega))
        rw [decide_eq_true hm0] at bp
        go_wp2_with fail
        refine C4.out.mono ?_
        rintro e w7 ⟨rfl, g7, o7⟩
        have HZ := Lib.hid (HF.out.next g7 o7)
        clear C4 g7 o7 HF
        go_wp2
        go_ret
        exact ⟨rfl, HZ.out.bel⟩
      · have C4 := Lib.hid (take_v false m b c m m true w6 HF.out.one (by unfold taken; rw [if_pos rfl]; exact decide_eq_false (by omega)) (by unfold taken; rw [if_pos rfl]; omega))
        rw [decide_eq_false hm0] at bp
        go_wp2_with fail
        refine C4.out.mono ?_
        rintro e w7 ⟨rfl, g7, o7⟩
        have HZ := Lib.hid (HF.out.next g7 o7)
        clear C4 g7 o7 HF
        go_wp2
        go_ret
        exact ⟨rfl, HZ.out.bel⟩
theorem btwo_true (m n : Nat) (W : World) (hm : m ≤ 255) (hn : n ≤ 255) :
    Calls Try.prog 5 #[.int .u8 (m : Int), .int .u8 (n : Int), .bool true] W fun e w' => e = .returned (.bool true) ∧ Below W.heap.size W w' := by
  have H0 := Lib.hid (bgalive_any W)
  go_enter Try.func5, Try.ntmps5
  go_wp2_with fail
  refine H0.out.mono ?_
  rintro e w1 ⟨rfl, kB⟩
  have KB := Lib.hid kB
  have H1 := Lib.hid (new_l m w1 (by omega))
  clear H0 kB
  go_wp2_with fail
  refine H1.out.mono ?_
  rintro e w2 ⟨rfl, g1, k1, s1⟩
  have G1 := Lib.hid (And.intro g1 (And.intro k1 s1))
  have H2 := Lib.hid (new_l m w2 (by omega))
  clear H1 g1 k1 s1
  go_wp2_with fail
  refine H2.out.mono ?_
  rintro e w3 ⟨rfl, g2, k2, s2⟩
  have hT := two_made KB.out G1.out.1 G1.out.2.1 G1.out.2.2 g2 k2
  obtain ⟨b, hb⟩ : ∃ b, b = w1.heap.size + 1 := ⟨_, rfl⟩
  obtain ⟨c, hc⟩ : ∃ c, c = w1.heap.size := ⟨_, rfl⟩
  obtain ⟨b', hb'⟩ : ∃ b', b' = w2.heap.size + 1 := ⟨_, rfl⟩
  obtain ⟨c', hc'⟩ : ∃ c', c' = w2.heap.size := ⟨_, rfl⟩
  rw [← hb, ← hb', ← hc, ← hc'] at hT
  rw [← hb, ← hb']
  have HT := Lib.hid hT
  clear hT hb hc hb' hc' g2 k2 s2 G1 KB H2
  obtain ⟨t, ht⟩ : ∃ t, t = taken n m true := ⟨_, rfl⟩
  have tl : t ≤ m := by rw [ht]; unfold taken; rw [if_pos rfl]; omega
  have emin := min_taken n m
  rw [← ht] at emin
  have H3 := Lib.hid (takeall_v t (m - t) b c m m true (n : Int) w3 HT.out.one (by omega) (by rw [Int.toNat_natCast, ht]) rfl)
  clear ht
  go_wp2_with fail
  refine H3.out.mono ?_
  rintro e w4 ⟨rfl, g3, o3⟩
  have HT4 := Lib.hid (HT.out.next g3 o3)
  have H4 := Lib.hid (left_l b' c' m m true w4 HT4.out.two)
  clear H3 g3 o3 HT
  go_wp2_with fail
  refine H4.out.mono ?_
  rintro e w' ⟨rfl, rfl⟩
  clear H4
  have H5 := Lib.hid (shut_l b c m (m - t) true w4 HT4.out.one)
  go_wp2_with fail
  refine H5.out.mono ?_
  rintro e w5 ⟨rfl, g5, o5⟩
  have HT5 := Lib.hid (HT4.out.next g5 o5)
  clear H5 g5 o5 HT4
  have HL : Hid (Two W w5 b c b' c' m (m - t + 0) m false) := HT5.out
  clear HT5
  go_wp2
  go_loopg [12] t (fun g s wr => ∃ k : Nat, s = .int .i64 (k : Int) ∧ k ≤ t ∧ Hid (t - k = g) ∧ Hid (Two W wr b c b' c' m (m - t + k) m false))
  case atStart => exact ⟨0, rfl, Nat.zero_le _, rfl, HL⟩
  case round =>
    clear HL
    obtain ⟨k, rfl, hk, Hg, H⟩ := hrel
    by_cases hlt : k < t
    · have Hc := Lib.hid (give_v true (m - t + (k + 1)) b c m (m - t + k) false wr H.out.one (decide_eq_true (by omega)) (by unfold given; rw [if_pos (by omega)]; omega))
      go_wp2_with fail
      refine Hc.out.mono ?_
      rintro e w6 ⟨rfl, g6, o6⟩
      have HF := Lib.hid (H.out.next g6 o6)
      have Hlt : Hid (t - (k + 1) < gk) := by show _ < _; rw [← Hg.out]; omega
      clear Hc g6 o6 H Hg
      go_wp2
      go_roundg (t - (k + 1))
      case rel => exact ⟨k + 1, by push_cast; rfl, by omega, rfl, HF⟩
      case measure => exact Hlt.out
    · obtain rfl : k = t := by omega
      have Hc := Lib.hid (give_v false m b c m (m - k + k) false wr H.out.one (decide_eq_false (by omega)) (by unfold given; rw [if_neg (by omega)]; omega))
      go_wp2_with fail
      refine Hc.out.mono ?_
      rintro e w6 ⟨rfl, g6, o6⟩
      have HF := Lib.hid (H.out.next g6 o6)
      clear Hc g6 o6 H Hg hlt
      have C1 := Lib.hid (left_l b c m m false w6 HF.out.one)
      go_wp2_with fail
      refine C1.out.mono ?_
      rintro e w' ⟨rfl, rfl⟩
      clear C1
      have C2 := Lib.hid (open_l b c m m false w6 HF.out.one)
      go_wp2_with fail
      refine C2.out.mono ?_
      rintro e w' ⟨rfl, rfl⟩
      clear C2
      have C3 := Lib.hid (open_l b' c' m m true w6 HF.out.two)
      go_wp2_with fail
      refine C3.out.mono ?_
      rintro e w' ⟨rfl, rfl⟩
      clear C3
      have C4 := Lib.hid (take_v false m b c m m false w6 HF.out.one rfl rfl)
      go_wp2_with fail
      refine C4.out.mono ?_
      rintro e w7 ⟨rfl, g7, o7⟩
      have HZ := Lib.hid (HF.out.next g7 o7)
      clear C4 g7 o7 HF
      go_wp2
      go_ret
      exact ⟨rfl, HZ.out.bel⟩
theorem walk_budgetTwo (m0 n0 : Int) (sh : Bool) (W : World) (hm1 : 0 ≤ m0) (hm2 : m0 ≤ 255) (hn1 : 0 ≤ n0) (hn2 : n0 ≤ 255) :
    Calls Try.prog 5 #[.int .u8 m0, .int .u8 n0, .bool sh] W fun e w' => e = .returned (.bool true) ∧ Below W.heap.size W w' := by
  obtain ⟨m, rfl⟩ := Int.eq_ofNat_of_zero_le hm1
  obtain ⟨n, rfl⟩ := Int.eq_ofNat_of_zero_le hn1
  cases sh
  · exact btwo_false m n W (by omega) (by omega)
  · exact btwo_true m n W (by omega) (by omega)
end Go.Proofs.Ytckakdhjnejgmaa
