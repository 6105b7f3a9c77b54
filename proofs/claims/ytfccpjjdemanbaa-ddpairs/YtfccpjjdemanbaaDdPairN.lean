/- DdPairs where one isn't safe (written by law_dpairs.py). -/
import Derived.Test.YtfccpjjdemanbaaDdPairA
namespace Go.Proofs.Ytfccpjjdemanbaa
open Go.RowKit

theorem ddPairs_no (a : Nat) (b : Nat) (c : Nat) (d : Nat) (ha : a < 18446744073709551616) (hb : b < 18446744073709551616) (hc : c < 18446744073709551616) (hd : d < 18446744073709551616) (hs : ¬ (Sf a ∧ Sf b ∧ Sf c ∧ Sf d)) (w : World) :
    Calls Try.prog 5 #[.int .u64 (a : Int), .int .u64 (b : Int), .int .u64 (c : Int), .int .u64 (d : Int)] w fun e w' => e = .returned (.bool true) ∧ Below w.heap.size w w' := by
  obtain ⟨va, hva⟩ : ∃ v, decide (Sf a) = v := ⟨_, rfl⟩
  obtain ⟨vb, hvb⟩ : ∃ v, decide (Sf b) = v := ⟨_, rfl⟩
  obtain ⟨vc, hvc⟩ : ∃ v, decide (Sf c) = v := ⟨_, rfl⟩
  obtain ⟨vd, hvd⟩ : ∃ v, decide (Sf d) = v := ⟨_, rfl⟩
  have HL := Lib.hid (dalive_any w)
  have Ra := Lib.hid (fun u => rsafe_l va a ha u hva)
  have Rb := Lib.hid (fun u => rsafe_l vb b hb u hvb)
  have Rc := Lib.hid (fun u => rsafe_l vc c hc u hvc)
  have Rd := Lib.hid (fun u => rsafe_l vd d hd u hvd)
  have hab : va = false ∨ (va = true ∧ vb = false) ∨ (va = true ∧ vb = true ∧ vc = false) ∨ (va = true ∧ vb = true ∧ vc = true ∧ vd = false) := by
    cases va
    · exact Or.inl rfl
    · cases vb
      · exact Or.inr (Or.inl ⟨rfl, rfl⟩)
      · cases vc
        · exact Or.inr (Or.inr (Or.inl ⟨rfl, rfl, rfl⟩))
        · cases vd
          · exact Or.inr (Or.inr (Or.inr ⟨rfl, rfl, rfl, rfl⟩))
          · exact absurd ⟨of_decide_eq_true hva, of_decide_eq_true hvb, of_decide_eq_true hvc, of_decide_eq_true hvd⟩ hs
  clear hva hvb hvc hvd hs ha hb hc hd
  rcases hab with rfl | ⟨rfl, rfl⟩ | ⟨rfl, rfl, rfl⟩ | ⟨rfl, rfl, rfl, rfl⟩
  · go_enter Try.func5, Try.ntmps5
    go_wp2_with fail
    refine HL.out.mono ?_
    rintro e w1 ⟨rfl, hB⟩
    have cur := Lib.hid hB
    clear hB HL
    go_wp2_with fail
    refine (Ra.out _).mono ?_
    rintro e w2 ⟨rfl, hB⟩
    replace cur := Lib.hid (cur.out.trans (hB.mono cur.out.size))
    clear hB
    go_wp2
    go_ret
    exact ⟨rfl, cur.out⟩
  · go_enter Try.func5, Try.ntmps5
    go_wp2_with fail
    refine HL.out.mono ?_
    rintro e w1 ⟨rfl, hB⟩
    have cur := Lib.hid hB
    clear hB HL
    go_wp2_with fail
    refine (Ra.out _).mono ?_
    rintro e w2 ⟨rfl, hB⟩
    replace cur := Lib.hid (cur.out.trans (hB.mono cur.out.size))
    clear hB
    go_wp2_with fail
    refine (Rb.out _).mono ?_
    rintro e w3 ⟨rfl, hB⟩
    replace cur := Lib.hid (cur.out.trans (hB.mono cur.out.size))
    clear hB
    go_wp2
    go_ret
    exact ⟨rfl, cur.out⟩
  · go_enter Try.func5, Try.ntmps5
    go_wp2_with fail
    refine HL.out.mono ?_
    rintro e w1 ⟨rfl, hB⟩
    have cur := Lib.hid hB
    clear hB HL
    go_wp2_with fail
    refine (Ra.out _).mono ?_
    rintro e w2 ⟨rfl, hB⟩
    replace cur := Lib.hid (cur.out.trans (hB.mono cur.out.size))
    clear hB
    go_wp2_with fail
    refine (Rb.out _).mono ?_
    rintro e w3 ⟨rfl, hB⟩
    replace cur := Lib.hid (cur.out.trans (hB.mono cur.out.size))
    clear hB
    go_wp2_with fail
    refine (Rc.out _).mono ?_
    rintro e w4 ⟨rfl, hB⟩
    replace cur := Lib.hid (cur.out.trans (hB.mono cur.out.size))
    clear hB
    go_wp2
    go_ret
    exact ⟨rfl, cur.out⟩
  · go_enter Try.func5, Try.ntmps5
    go_wp2_with fail
    refine HL.out.mono ?_
    rintro e w1 ⟨rfl, hB⟩
    have cur := Lib.hid hB
    clear hB HL
    go_wp2_with fail
    refine (Ra.out _).mono ?_
    rintro e w2 ⟨rfl, hB⟩
    replace cur := Lib.hid (cur.out.trans (hB.mono cur.out.size))
    clear hB
    go_wp2_with fail
    refine (Rb.out _).mono ?_
    rintro e w3 ⟨rfl, hB⟩
    replace cur := Lib.hid (cur.out.trans (hB.mono cur.out.size))
    clear hB
    go_wp2_with fail
    refine (Rc.out _).mono ?_
    rintro e w4 ⟨rfl, hB⟩
    replace cur := Lib.hid (cur.out.trans (hB.mono cur.out.size))
    clear hB
    go_wp2_with fail
    refine (Rd.out _).mono ?_
    rintro e w5 ⟨rfl, hB⟩
    replace cur := Lib.hid (cur.out.trans (hB.mono cur.out.size))
    clear hB
    go_wp2
    go_ret
    exact ⟨rfl, cur.out⟩
end Go.Proofs.Ytfccpjjdemanbaa
