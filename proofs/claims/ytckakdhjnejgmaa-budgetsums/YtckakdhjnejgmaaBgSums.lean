/- The walk of planimeterlaw17.BudgetSums (written by law_bsums.py). -/
import Derived.Test.YtckakdhjnejgmaaBgAlive
import Derived.Test.YtckakdhjnejgmaaBgOpen
namespace Go.Proofs.Ytckakdhjnejgmaa
open Go.Conc Go.RowKit

/-- A budget of the law's own, its bytes, and what was there. -/
structure One (W w : World) (A : Option Addr) (n cp : Nat) (xs : List Nat) (b c m l : Nat) (op : Bool) : Prop where
  bud : Bud w b c m l op
  byt : Byt w A n cp xs
  bel : Below W.heap.size W w
  k1 : W.heap.size ≤ b
  k2 : W.heap.size ≤ c
theorem One.next {W w w' : World} {A : Option Addr} {n cp : Nat} {xs : List Nat} {b c m l l2 : Nat} {op op2 : Bool} (h : One W w A n cp xs b c m l op) (hW : Byt W A n cp xs) (h1 : Bud w' b c m l2 op2) (h2 : Ours b c w w') : One W w' A n cp xs b c m l2 op2 :=
  have hb := h2.below h.bel h.k1 h.k2
  ⟨h1, hW.below hb, hb, h.k1, h.k2⟩

set_option maxHeartbeats 1000000 in
theorem bsums_any (m : Nat) (A : Option Addr) (n cp : Nat) (xs : List Nat) (W : World) (hm : m ≤ 255) (hX : Byt W A n cp xs) (hn : n ≤ 9223372036854775807) :
    Calls Try.prog 4 #[.int .u8 (m : Int), .slice A n cp] W fun e w' => e = .returned (.bool true) ∧ Below W.heap.size W w' := by
  have HX := Lib.hid hX
  have H0 := Lib.hid (bgalive_any W)
  clear hX
  go_enter Try.func4, Try.ntmps4
  go_wp2_with fail
  refine H0.out.mono ?_
  rintro e w1 ⟨rfl, kB⟩
  have KB := Lib.hid kB
  clear H0 kB
  by_cases hl : 300 < n
  · have b1 : decide ((300 : Int) < (n : Int)) = true := decide_eq_true (by omega)
    clear hl
    go_wp2
    go_ret
    exact ⟨rfl, KB.out⟩
  have b1 : decide ((300 : Int) < (n : Int)) = false := decide_eq_false (by omega)
  have H1 := Lib.hid (new_l m w1 (by omega))
  go_wp2_with fail
  refine H1.out.mono ?_
  rintro e w2 ⟨rfl, g1, k1, s1⟩
  have hs := KB.out.size
  have bel2 : Below W.heap.size W w2 := KB.out.trans (k1.mono hs)
  have HL : Hid (One W w2 A n cp xs (w1.heap.size + 1) w1.heap.size m (m + 0 - 0) true) := ⟨g1, HX.out.below bel2, bel2, by omega, hs⟩
  obtain ⟨b, hb⟩ : ∃ b, b = w1.heap.size + 1 := ⟨_, rfl⟩
  obtain ⟨c, hc⟩ : ∃ c, c = w1.heap.size := ⟨_, rfl⟩
  rw [← hb, ← hc] at HL
  rw [← hb]
  clear hb hc g1 k1 s1 hs bel2 KB H1
  go_wp2
  go_loopg [9, 7, 8] n (fun g s9 s7 s8 wr => ∃ i tk gv : Nat, s9 = .int .i64 (i : Int) ∧ s7 = .int .i64 (tk : Int) ∧ s8 = .int .i64 (gv : Int) ∧ i ≤ n ∧ Hid (n - i = g) ∧ tk ≤ 4 * i ∧ gv ≤ i ∧ tk ≤ m + gv ∧ Hid (One W wr A n cp xs b c m (m + gv - tk) true))
  case atStart => exact ⟨0, 0, 0, rfl, rfl, rfl, Nat.zero_le _, rfl, Nat.le_refl _, Nat.le_refl _, Nat.zero_le _, HL⟩
  case round =>
    clear HL b1
    obtain ⟨i, tk, gv, rfl, rfl, rfl, hi, Hg, h4, h5, h6, H⟩ := hrel
    by_cases hin : i < n
    · have b1 : decide ((i : Int) < (n : Int)) = true := decide_eq_true (by omega)
      obtain ⟨ba, oa, eA, _, hcl⟩ := H.out.byt.2.2.2 (by omega)
      have c1 := hcl i hin
      obtain ⟨x, hx⟩ : ∃ x, x = xs.getD i 0 := ⟨_, rfl⟩
      have hx255 : x ≤ 255 := by
        rw [hx, List.getD_eq_getElem?_getD, List.getElem?_eq_getElem (by rw [H.out.byt.1]; exact hin), Option.getD_some]
        exact H.out.byt.2.2.1 _ (List.getElem_mem _)
      rw [← hx] at c1
      clear hcl hx
      have HA : Hid (A = some ⟨ba, oa, none⟩) := eA
      subst eA
      have Hlt : Hid (n - (i + 1) < gk) := by show _ < _; rw [← Hg.out]; omega
      obtain ⟨y, hy⟩ : ∃ y, y = x % 3 := ⟨_, rfl⟩
      obtain ⟨z, hz⟩ : ∃ z, z = x % 5 := ⟨_, rfl⟩
      have mod3 : (x : Int).tmod 3 = (y : Int) := by rw [hy]; rfl
      have mod5 : (x : Int).tmod 5 = (z : Int) := by rw [hz]; rfl
      have hz4 : z ≤ 4 := by omega
      clear hy hz

      by_cases hy0 : y = 0
      · subst hy0
        by_cases hroom : gv < tk
        · obtain ⟨gw, hgw⟩ : ∃ gw, gw = gv + 1 := ⟨_, rfl⟩
          have eg : (gv : Int) + 1 = (gw : Int) := by omega
          have C0 := Lib.hid (give_v true (m + gw - tk) b c m (m + gv - tk) true wr H.out.bud (decide_eq_true (by omega)) (by unfold given; rw [if_pos (by omega)]; omega))
          go_wp2_with fail
          refine C0.out.mono ?_
          rintro e w5 ⟨rfl, g5, o5⟩
          have HF := Lib.hid (H.out.next HX.out g5 o5)
          have e4 : tk ≤ 4 * (i + 1) := by omega
          have e5 : gw ≤ i + 1 := by omega
          have e6 : tk ≤ m + gw := by omega
          clear C0 g5 o5 H Hg mod3 mod5 h4 h5 h6 hgw
          obtain ⟨lf, hlf⟩ : ∃ lf, lf = m + gw - tk := ⟨_, rfl⟩
          have bt : decide ((m : Int) + (gw : Int) < (tk : Int)) = false := decide_eq_false (by omega)
          have be : (m : Int) + (gw : Int) - (tk : Int) = (lf : Int) := by omega
          have C1 := Lib.hid (left_l b c m lf true w5 (by rw [hlf]; exact HF.out.bud))
          clear hlf
          go_wp2_with fail
          refine C1.out.mono ?_
          rintro e w' ⟨rfl, rfl⟩
          clear C1
          go_wp2
          go_roundg (n - (i + 1))
          case rel => exact ⟨i + 1, tk, gw, by push_cast; rfl, rfl, rfl, by omega, rfl, by omega, by omega, e6, HF⟩
          case measure => exact Hlt.out
        · have hl := H.out.bud.le
          have C0 := Lib.hid (give_v false (m + gv - tk) b c m (m + gv - tk) true wr H.out.bud (decide_eq_false (by omega)) (by unfold given; rw [if_neg (by omega)]))
          go_wp2_with fail
          refine C0.out.mono ?_
          rintro e w5 ⟨rfl, g5, o5⟩
          have HF := Lib.hid (H.out.next HX.out g5 o5)
          have e4 : tk ≤ 4 * (i + 1) := by omega
          have e5 : gv ≤ i + 1 := by omega
          have e6 : tk ≤ m + gv := h6
          clear C0 g5 o5 H Hg mod3 mod5 h4 h5 h6
          obtain ⟨lf, hlf⟩ : ∃ lf, lf = m + gv - tk := ⟨_, rfl⟩
          have bt : decide ((m : Int) + (gv : Int) < (tk : Int)) = false := decide_eq_false (by omega)
          have be : (m : Int) + (gv : Int) - (tk : Int) = (lf : Int) := by omega
          have C1 := Lib.hid (left_l b c m lf true w5 (by rw [hlf]; exact HF.out.bud))
          clear hlf
          go_wp2_with fail
          refine C1.out.mono ?_
          rintro e w' ⟨rfl, rfl⟩
          clear C1
          go_wp2
          go_roundg (n - (i + 1))
          case rel => exact ⟨i + 1, tk, gv, by push_cast; rfl, rfl, rfl, by omega, rfl, by omega, by omega, e6, HF⟩
          case measure => exact Hlt.out
      · have b3 : ((y : Int) == 0) = false := beq_eq_false_iff_ne.2 (by omega)
        obtain ⟨T, hT⟩ : ∃ T, T = taken z (m + gv - tk) true := ⟨_, rfl⟩
        have hT4 : T ≤ z ∧ T ≤ m + gv - tk := by rw [hT]; unfold taken; rw [if_pos rfl]; omega
        obtain ⟨tw, htw⟩ : ∃ tw, tw = tk + T := ⟨_, rfl⟩
        have et : (tk : Int) + (T : Int) = (tw : Int) := by omega
        have C0 := Lib.hid (takeall_v T (m + gv - tw) b c m (m + gv - tk) true (z : Int) wr H.out.bud (by omega) (by rw [Int.toNat_natCast, hT]) (by omega))
        clear hT
        go_wp2_with fail
        refine C0.out.mono ?_
        rintro e w5 ⟨rfl, g5, o5⟩
        have HF := Lib.hid (H.out.next HX.out g5 o5)
        have e4 : tw ≤ 4 * (i + 1) := by omega
        have e5 : gv ≤ i + 1 := by omega
        have e6 : tw ≤ m + gv := by omega
        clear C0 g5 o5 H Hg mod3 mod5 h4 h5 h6 htw hT4
        obtain ⟨lf, hlf⟩ : ∃ lf, lf = m + gv - tw := ⟨_, rfl⟩
        have bt : decide ((m : Int) + (gv : Int) < (tw : Int)) = false := decide_eq_false (by omega)
        have be : (m : Int) + (gv : Int) - (tw : Int) = (lf : Int) := by omega
        have C1 := Lib.hid (left_l b c m lf true w5 (by rw [hlf]; exact HF.out.bud))
        clear hlf
        go_wp2_with fail
        refine C1.out.mono ?_
        rintro e w' ⟨rfl, rfl⟩
        clear C1
        go_wp2
        go_roundg (n - (i + 1))
        case rel => exact ⟨i + 1, tw, gv, by push_cast; rfl, rfl, rfl, by omega, rfl, by omega, by omega, e6, HF⟩
        case measure => exact Hlt.out
    · have b1 : decide ((i : Int) < (n : Int)) = false := decide_eq_false (by omega)
      have C1 := Lib.hid (shut_l b c m (m + gv - tk) true wr H.out.bud)
      go_wp2_with fail
      refine C1.out.mono ?_
      rintro e w5 ⟨rfl, g5, o5⟩
      have H5 := Lib.hid (H.out.next HX.out g5 o5)
      clear C1 g5 o5 H Hg
      have C2 := Lib.hid (shut_l b c m (m + gv - tk) false w5 H5.out.bud)
      go_wp2_with fail
      refine C2.out.mono ?_
      rintro e w6 ⟨rfl, g5, o5⟩
      have H6 := Lib.hid (H5.out.next HX.out g5 o5)
      clear C2 g5 o5 H5
      have C3 := Lib.hid (take_v false (m + gv - tk) b c m (m + gv - tk) false w6 H6.out.bud rfl rfl)
      go_wp2_with fail
      refine C3.out.mono ?_
      rintro e w7 ⟨rfl, g5, o5⟩
      have H7 := Lib.hid (H6.out.next HX.out g5 o5)
      clear C3 g5 o5 H6
      have C4 := Lib.hid (takeall_v 0 (m + gv - tk) b c m (m + gv - tk) false 9 w7 H7.out.bud (by omega) rfl rfl)
      go_wp2_with fail
      refine C4.out.mono ?_
      rintro e w8 ⟨rfl, g5, o5⟩
      have H8 := Lib.hid (H7.out.next HX.out g5 o5)
      clear C4 g5 o5 H7
      have C5 := Lib.hid (take_nil w8)
      go_wp2_with fail
      refine C5.out.mono ?_
      rintro e w' ⟨rfl, rfl⟩
      clear C5
      have C5 := Lib.hid (give_nil w8)
      go_wp2_with fail
      refine C5.out.mono ?_
      rintro e w' ⟨rfl, rfl⟩
      clear C5
      have C5 := Lib.hid (shut_nil w8)
      go_wp2_with fail
      refine C5.out.mono ?_
      rintro e w' ⟨rfl, rfl⟩
      clear C5
      have C5 := Lib.hid (open_nil w8)
      go_wp2_with fail
      refine C5.out.mono ?_
      rintro e w' ⟨rfl, rfl⟩
      clear C5
      have C5 := Lib.hid (left_nil w8)
      go_wp2_with fail
      refine C5.out.mono ?_
      rintro e w' ⟨rfl, rfl⟩
      clear C5
      have C5 := Lib.hid (takeall_nil 3 w8)
      go_wp2_with fail
      refine C5.out.mono ?_
      rintro e w' ⟨rfl, rfl⟩
      clear C5
      go_wp2
      go_ret
      exact ⟨rfl, H8.out.bel⟩
theorem walk_budgetSums (m0 : Int) (A : Option Addr) (n cp : Nat) (xs : List Nat) (W : World) (hm1 : 0 ≤ m0) (hm2 : m0 ≤ 255) (hX : Byt W A n cp xs) (hn : n ≤ 9223372036854775807) :
    Calls Try.prog 4 #[.int .u8 m0, .slice A n cp] W fun e w' => e = .returned (.bool true) ∧ Below W.heap.size W w' := by
  obtain ⟨m, rfl⟩ := Int.eq_ofNat_of_zero_le hm1
  exact bsums_any m A n cp xs W (by omega) hX hn
end Go.Proofs.Ytckakdhjnejgmaa
