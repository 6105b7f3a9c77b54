/- The walk of round.up by up to 4096 bits. -/
import Derived.Test.YtnkbdjbcfkflpaaDoorK3
namespace Go.Proofs.YtnkbdjbcfkflpaaDoor
open Go.RowKit

theorem val_low (q : Nat) (xs : List Nat) : val (List.replicate q 0 ++ xs) = pw q * val xs := by
  induction q with
  | zero => rw [List.replicate_zero, List.nil_append, pw_zero, Nat.one_mul]
  | succ q ih =>
    rw [List.replicate_succ, List.cons_append, val, ih, Nat.zero_add, pw_succ, Nat.mul_assoc]

set_option maxHeartbeats 1000000 in
theorem up_big (A : Option Addr) (n c : Nat) (xs : List Nat) (N : Nat) (w : World) (hA : Lim w A n c xs) (hn : n ≤ 4294967296) (hT : Tab w) (hN : N ≤ 4096) :
    Calls Tryd.prog 114 #[.slice A n c, .int .i64 (N : Int)] w (Tells w (val xs * 2 ^ N) (n + 65)) := by
  obtain ⟨d, hd⟩ : ∃ d, N / 64 = d := ⟨_, rfl⟩
  obtain ⟨q, hq⟩ : ∃ q, d + 1 = q := ⟨_, rfl⟩
  have hq9 : q ≤ 65 := by omega
  obtain ⟨A1, c1, w1, hrun, hr, hb1⟩ := app_zeros64 w A n c q xs hA.toRow hn (by omega)
  have hwz : Words (List.replicate q 0 ++ xs) := by
    intro y hy
    rcases List.mem_append.1 hy with h | h
    · rw [List.eq_of_mem_replicate h]; decide
    · exact hA.words y h
  have hl1 : Lim w1 A1 (q + n) c1 (List.replicate q 0 ++ xs) := hr.toLim hwz
  obtain ⟨M, hM⟩ : ∃ M, q * 64 - N = M := ⟨_, rfl⟩
  obtain ⟨t, ht⟩ : ∃ t, q * 64 = t := ⟨_, rfl⟩
  obtain ⟨bb, hbb⟩ : ∃ bb, decide (val (List.replicate q 0 ++ xs) % 2 ^ M ≠ 0) = bb := ⟨_, rfl⟩
  have H1 := shr_l M A1 (q + n) c1 (List.replicate q 0 ++ xs) w1 hl1 (by omega) (hT.below hb1) (by omega) bb hbb
  have hV : val (List.replicate q 0 ++ xs) / 2 ^ M = val xs * 2 ^ N := by
    rw [val_low, pw_two, show 64 * q = M + N by omega, Nat.pow_add, Nat.mul_assoc, Nat.mul_div_cancel_left _ (Nat.two_pow_pos _), Nat.mul_comm]
  rw [hV] at H1
  have H1 := Lib.hid H1
  have HB1 := Lib.hid hb1
  have Hrun := Lib.hid hrun
  have hmk := run_make_row' (P := Tryd.prog) 22 104 (.int .u64 0) 8 Tryd.underlying22 info64 rfl .i64 .i64 q (by omega) (by omega)
  have e1 : (N : Int) / 64 = (d : Int) := by omega
  have e3 : (d : Int) + 1 = (q : Int) := by omega
  have e4 : (q : Int) * 64 = (t : Int) := by omega
  have e2 : (t : Int) - (N : Int) = (M : Int) := by omega
  have hq0 : 0 < q := by omega
  have ht9 : t ≤ 4160 := by omega
  have hM9 : M ≤ 4160 := by omega
  have hd9 : d ≤ 64 := by omega
  clear hA hrun hr hl1 hb1 hV hbb hT hM hwz hd hq ht
  go_enter Tryd.func114, Tryd.ntmps114
  go_wp2_with (at_builtin; refine wpList_app (s := .tmp 13) (x := .tmp 14) (by rfl) rfl rfl rfl Hrun.out ?_)
  refine H1.out.mono ?_
  rintro e w2 ⟨A2, m2, c2, zs, rfl, hm2, hl2, hb2, hv2, hB2⟩
  have Hfin : Hid (Tells w (val xs * 2 ^ N) (n + 65) (.returned (.slice A2 m2 c2)) w2) := ⟨A2, m2, c2, zs, rfl, by omega, hl2, hb2, hv2, HB1.out.trans (hB2.mono HB1.out.size)⟩
  clear hl2 hb2 hv2 hB2 H1 HB1 hmk Hrun
  go_wp2
  go_ret
  exact Hfin.out
end Go.Proofs.YtnkbdjbcfkflpaaDoor
