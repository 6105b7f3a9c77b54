/- The walks of round.known, away, signed, raised, Over, Under, up, cut, count. -/
import Derived.Test.YtjdlnfmeciodnaaDoorRnMath
import Derived.Test.YtjdlnfmeciodnaaDoorFlExact
namespace Go.Proofs.YtjdlnfmeciodnaaDoor
open Go.RowKit

theorem known_l (v : Bool) (dir : Int) (w : World) (hv : Hid (decide (0 ≤ dir ∧ dir ≤ 3) = v)) :
    Calls Tryd.prog 49 #[.int .i64 dir] w fun e w' => e = .returned (.bool v) ∧ w = w' := by
  have hv' := hv.out
  clear hv
  by_cases h : 0 ≤ dir ∧ dir ≤ 3
  · obtain rfl : v = true := by rw [← hv']; exact decide_eq_true h
    have h4 : dir = 0 ∨ dir = 1 ∨ dir = 2 ∨ dir = 3 := by omega
    clear hv' h
    rcases h4 with rfl | rfl | rfl | rfl
    all_goals (
      go_enter Tryd.func49, Tryd.ntmps49
      go_wp2
      go_ret
      exact ⟨rfl, rfl⟩)
  · obtain rfl : v = false := by rw [← hv']; exact decide_eq_false h
    have c0 : (dir == 0) = false := beq_no (by omega)
    have c1 : (dir == 1) = false := beq_no (by omega)
    have c2 : (dir == 2) = false := beq_no (by omega)
    have c3 : (dir == 3) = false := beq_no (by omega)
    clear hv' h
    go_enter Tryd.func49, Tryd.ntmps49
    go_wp2
    go_ret
    exact ⟨rfl, rfl⟩

theorem away_l (v : Bool) (g : Bool) (dir : Int) (odd half below : Bool) (w : World) (hv : Hid (awy g dir odd half below = v)) :
    Calls Tryd.prog 38 #[.bool g, .int .i64 dir, .bool odd, .bool half, .bool below] w fun e w' => e = .returned (.bool v) ∧ w = w' := by
  have hv' := hv.out
  clear hv
  unfold awy at hv'
  by_cases h0 : dir = 0
  · subst h0
    rw [if_pos rfl] at hv'
    cases half <;> cases below <;> cases odd <;> subst hv' <;> (
      go_enter Tryd.func38, Tryd.ntmps38
      go_wp2
      go_ret
      exact ⟨rfl, rfl⟩)
  · rw [if_neg h0] at hv'
    have c0 : (dir == 0) = false := beq_no h0
    by_cases h2 : dir = 2
    · subst h2
      rw [if_pos rfl] at hv'
      cases g <;> cases half <;> cases below <;> subst hv' <;> (
        go_enter Tryd.func38, Tryd.ntmps38
        go_wp2
        go_ret
        exact ⟨rfl, rfl⟩)
    · rw [if_neg h2] at hv'
      have c2 : (dir == 2) = false := beq_no h2
      by_cases h3 : dir = 3
      · subst h3
        rw [if_pos rfl] at hv'
        cases g <;> cases half <;> cases below <;> subst hv' <;> (
          go_enter Tryd.func38, Tryd.ntmps38
          go_wp2
          go_ret
          exact ⟨rfl, rfl⟩)
      · rw [if_neg h3] at hv'
        subst hv'
        have c3 : (dir == 3) = false := beq_no h3
        clear h0 h2 h3
        go_enter Tryd.func38, Tryd.ntmps38
        go_wp2
        go_ret
        exact ⟨rfl, rfl⟩

theorem or_sign' (X : Nat) (hX : X < 9223372036854775808) : bits BinOp.or IntKind.u64 (X : Int) 9223372036854775808 = ((9223372036854775808 + X : Nat) : Int) := by
  have h := bits_or_u64_nat X 9223372036854775808 (by omega) (by decide)
  have h2 : X ||| 9223372036854775808 = 9223372036854775808 + X := by
    rw [Nat.or_comm]; exact (Nat.shiftLeft_add_eq_or_of_lt (i := 63) (b := X) (show X < 2 ^ 63 from hX) 1).symm
  rw [h2] at h
  exact h
theorem signed_l (Y : Nat) (g : Bool) (X : Nat) (hX : X < 9223372036854775808) (w : World) (hY : Hid (sgn g X = Y)) :
    Calls Tryd.prog 39 #[.bool g, .int .u64 (X : Int)] w fun e w' => e = .returned (.int .u64 (Y : Int)) ∧ w = w' := by
  have h := hY.out
  cases g with
  | false =>
    obtain rfl : X = Y := by rw [← h]; exact (Nat.zero_add _).symm
    clear h hY
    go_enter Tryd.func39, Tryd.ntmps39
    go_wp2
    go_ret
    exact ⟨rfl, rfl⟩
  | true =>
    have hor := or_sign' X hX
    rw [show 9223372036854775808 + X = Y from h] at hor
    clear h hY
    go_enter Tryd.func39, Tryd.ntmps39
    go_wp2
    go_ret
    exact ⟨rfl, rfl⟩

theorem raised_l (F : Nat) (inx : Bool) (top : Int) (w : World) (hF : Hid (fl inx false (decide (top < -1022)) = F)) :
    Calls Tryd.prog 53 #[.bool inx, .int .i64 top] w fun e w' => e = .returned (.int .u8 (F : Int)) ∧ w = w' := by
  have h := hF.out
  clear hF
  unfold fl at h
  cases inx with
  | false =>
    subst h
    go_enter Tryd.func53, Tryd.ntmps53
    go_wp2
    go_ret
    exact ⟨rfl, rfl⟩
  | true =>
    by_cases ht : top < -1022
    · have b : decide (top < -1022) = true := decide_eq_true ht
      rw [b] at h
      subst h
      clear ht
      go_enter Tryd.func53, Tryd.ntmps53
      go_wp2
      go_ret
      exact ⟨rfl, rfl⟩
    · have b : decide (top < -1022) = false := decide_eq_false ht
      rw [b] at h
      subst h
      clear ht
      go_enter Tryd.func53, Tryd.ntmps53
      go_wp2
      go_ret
      exact ⟨rfl, rfl⟩

theorem over_l (X : Nat) (g : Bool) (dir : Int) (w : World) (hX : Hid ((overO g dir).1 = X)) :
    Calls Tryd.prog 15 #[.bool g, .int .i64 dir] w fun e w' => e = .returned (.tuple #[.int .u64 (X : Int), .int .u8 5]) ∧ w = w' := by
  have h : sgn g (overM g dir) = X := hX.out
  unfold overM at h
  obtain ⟨v, hv⟩ : ∃ v, awy g dir true true true = v := ⟨_, rfl⟩
  rw [hv] at h
  have Hv := Lib.hid hv
  clear hv hX
  cases v with
  | true =>
    have H : Hid (sgn g 9218868437227405312 = X) := h
    clear h
    go_enter Tryd.func15, Tryd.ntmps15
    go_wp2_with fail
    refine (away_l true g dir true true true w Hv).mono ?_
    rintro e w' ⟨rfl, rfl⟩
    go_wp2_with fail
    refine (signed_l X g 9218868437227405312 (by decide) w H).mono ?_
    rintro e w' ⟨rfl, rfl⟩
    go_wp2
    go_ret2
    exact ⟨rfl, rfl⟩
  | false =>
    have H : Hid (sgn g 9218868437227405311 = X) := h
    clear h
    go_enter Tryd.func15, Tryd.ntmps15
    go_wp2_with fail
    refine (away_l false g dir true true true w Hv).mono ?_
    rintro e w' ⟨rfl, rfl⟩
    go_wp2_with fail
    refine (signed_l X g 9218868437227405311 (by decide) w H).mono ?_
    rintro e w' ⟨rfl, rfl⟩
    go_wp2
    go_ret2
    exact ⟨rfl, rfl⟩
theorem under_l (X : Nat) (g : Bool) (dir : Int) (w : World) (hX : Hid (sgn g (awy g dir false false true).toNat = X)) :
    Calls Tryd.prog 16 #[.bool g, .int .i64 dir] w fun e w' => e = .returned (.tuple #[.int .u64 (X : Int), .int .u8 3]) ∧ w = w' := by
  have h := hX.out
  obtain ⟨v, hv⟩ : ∃ v, awy g dir false false true = v := ⟨_, rfl⟩
  rw [hv] at h
  have Hv := Lib.hid hv
  clear hv hX
  cases v with
  | true =>
    have H : Hid (sgn g 1 = X) := h
    clear h
    go_enter Tryd.func16, Tryd.ntmps16
    go_wp2_with fail
    refine (away_l true g dir false false true w Hv).mono ?_
    rintro e w' ⟨rfl, rfl⟩
    go_wp2_with fail
    refine (signed_l X g 1 (by decide) w H).mono ?_
    rintro e w' ⟨rfl, rfl⟩
    go_wp2
    go_ret2
    exact ⟨rfl, rfl⟩
  | false =>
    have H : Hid (sgn g 0 = X) := h
    clear h
    go_enter Tryd.func16, Tryd.ntmps16
    go_wp2_with fail
    refine (away_l false g dir false false true w Hv).mono ?_
    rintro e w' ⟨rfl, rfl⟩
    go_wp2_with fail
    refine (signed_l X g 0 (by decide) w H).mono ?_
    rintro e w' ⟨rfl, rfl⟩
    go_wp2
    go_ret2
    exact ⟨rfl, rfl⟩

/-- Noughts made, and limbs behind them. -/
theorem app_zeros64 (w : World) (A : Option Addr) (n c q : Nat) (ds : List Nat) (hA : Row .u64 w A n c ds) (hn : n ≤ 4294967296) (hq : q ≤ 1000000) :
    ∃ A' c' w', (Builtin.append_ #[22, 22] 22 #[.slice (some ⟨w.heap.size, 0, none⟩) q q, .slice A n c]).run Tryd.prog (w.alloc (.cells (madeCells #[.int .u64 0] q) 30)) = .ok (.slice A' (q + n) c') w' ∧
      Row .u64 w' A' (q + n) c' (List.replicate q 0 ++ ds) ∧ Below w.heap.size w w' := by
  have hb : Below w.heap.size w (w.alloc (.cells (madeCells #[.int .u64 0] q) 30)) := (Below.refl _ _).alloc (Nat.le_refl _) _
  have hown : Own .u64 30 (w.alloc (.cells (madeCells #[.int .u64 0] q) 30)) w.heap.size (.slice (some ⟨w.heap.size, 0, none⟩) q q) (List.replicate q 0) := by
    refine ⟨by simp, Or.inr ⟨w.heap.size, q, madeCells #[.int .u64 0] q, by simp, Nat.le_refl _, heap_alloc_new w _, by simp, by unfold maxLen; omega, by rw [size_madeCells]; omega, ?_⟩⟩
    have hr := World.rowIs_made w (.int .u64 0) q 30
    apply List.ext_getElem?
    intro k
    by_cases hk : k < q
    · have hc := hr.cell hk
      rw [cell_of_row _ w.heap.size k (madeCells #[.int .u64 0] q) 30 (0, 0) (heap_alloc_new w _)] at hc
      rw [List.getElem?_take_of_lt (by simpa using hk), Array.getElem?_toList, hc, List.getElem?_map, List.getElem?_replicate, if_pos hk]
      rfl
    · rw [List.getElem?_eq_none (by rw [List.length_take, List.length_replicate]; omega), List.getElem?_eq_none (by simp; omega)]
  obtain ⟨v', w', hrun, ho, hb'⟩ := run_app (P := Tryd.prog) (T := 22) (ty := 22) Tryd.underlying22 info64 hown (hA.below hb) hb.size (by simp; omega) (by simp; omega)
  obtain ⟨A1, c1, rfl, hr⟩ := ho.row
  have el : (List.replicate q 0 ++ ds).length = q + n := by rw [List.length_append, List.length_replicate, hA.len]
  rw [el] at hrun hr
  exact ⟨A1, c1, w', hrun, hr, hb.trans hb'⟩

set_option maxRecDepth 20000 in
/-- up, by fewer bits than a limb has. -/
theorem up_l (A : Option Addr) (n c : Nat) (xs : List Nat) (N : Nat) (w : World) (hA : Lim w A n c xs) (hn : n ≤ 4294967296) (hT : Tab w) (hN : N < 64) :
    Calls Tryd.prog 82 #[.slice A n c, .int .i64 (N : Int)] w (Tells w (val xs * 2 ^ N) (n + 1)) := by
  obtain ⟨A1, c1, w1, hrun, hr, hb1⟩ := app_zeros64 w A n c 1 xs hA.toRow hn (by decide)
  rw [show List.replicate 1 0 ++ xs = 0 :: xs from rfl, Nat.add_comm 1 n] at hr
  rw [Nat.add_comm 1 n] at hrun
  have hl1 : Lim w1 A1 (n + 1) c1 (0 :: xs) := hr.toLim (Words.cons (by decide) hA.words)
  obtain ⟨M, hM⟩ : ∃ M, 64 - N = M := ⟨_, rfl⟩
  obtain ⟨bb, hbb⟩ : ∃ bb, decide (val (0 :: xs) % 2 ^ M ≠ 0) = bb := ⟨_, rfl⟩
  have H1 := shr_l M A1 (n + 1) c1 (0 :: xs) w1 hl1 (by omega) (hT.below hb1) (by omega) bb hbb
  have hV : val (0 :: xs) / 2 ^ M = val xs * 2 ^ N := by
    rw [val, Nat.zero_add, show (18446744073709551616 : Nat) = 2 ^ 64 from by decide, show 64 = M + N by omega, Nat.pow_add, Nat.mul_assoc, Nat.mul_div_cancel_left _ (Nat.two_pow_pos _), Nat.mul_comm]
  rw [hV] at H1
  have H1 := Lib.hid H1
  have HB1 := Lib.hid hb1
  have Hrun := Lib.hid hrun
  have hmk := run_make_row' (P := Tryd.prog) 22 30 (.int .u64 0) 8 Tryd.underlying22 info64 rfl .i64 .i64 1 (by omega) (by omega)
  rw [show ((1 : Nat) : Int) = 1 from rfl] at hmk
  have e1 : (N : Int) / 64 = 0 := by omega
  have e2 : (64 : Int) - (N : Int) = (M : Int) := by omega
  clear hA hrun hr hl1 hb1 hV hbb hT hM
  go_enter Tryd.func82, Tryd.ntmps82
  go_wp2_with (at_builtin; refine wpList_app (s := .tmp 13) (x := .tmp 14) (by rfl) rfl rfl rfl Hrun.out ?_)
  refine H1.out.mono ?_
  rintro e w2 ⟨A2, m2, c2, zs, rfl, hm2, hl2, hb2, hv2, hB2⟩
  have Hfin : Hid (Tells w (val xs * 2 ^ N) (n + 1) (.returned (.slice A2 m2 c2)) w2) := ⟨A2, m2, c2, zs, rfl, hm2, hl2, hb2, hv2, HB1.out.trans (hB2.mono HB1.out.size)⟩
  clear hl2 hb2 hv2 hB2 H1 HB1 hmk Hrun
  go_wp2
  go_ret
  exact Hfin.out
end Go.Proofs.YtjdlnfmeciodnaaDoor
