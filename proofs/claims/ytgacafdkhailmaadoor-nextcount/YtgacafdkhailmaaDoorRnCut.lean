/- The walks of round.known, away, signed, raised, Over, Under, up, cut, count. -/
import Derived.Test.YtgacafdkhailmaaDoorRnMath
import Derived.Test.YtgacafdkhailmaaDoorFlExact
namespace Go.Proofs.YtgacafdkhailmaaDoor
open Go.RowKit



theorem or_sign' (X : Nat) (hX : X < 9223372036854775808) : bits BinOp.or IntKind.u64 (X : Int) 9223372036854775808 = ((9223372036854775808 + X : Nat) : Int) := by
  have h := bits_or_u64_nat X 9223372036854775808 (by omega) (by decide)
  have h2 : X ||| 9223372036854775808 = 9223372036854775808 + X := by
    rw [Nat.or_comm]; exact (Nat.shiftLeft_add_eq_or_of_lt (i := 63) (b := X) (show X < 2 ^ 63 from hX) 1).symm
  rw [h2] at h
  exact h




/-- Noughts made, and limbs behind them. -/
theorem app_zeros64 (w : World) (A : Option Addr) (n c q : Nat) (ds : List Nat) (hA : Row .u64 w A n c ds) (hn : n ≤ 4294967296) (hq : q ≤ 1000000) :
    ∃ A' c' w', (Builtin.append_ #[26, 26] 26 #[.slice (some ⟨w.heap.size, 0, none⟩) q q, .slice A n c]).run Tryd.prog (w.alloc (.cells (madeCells #[.int .u64 0] q) 22)) = .ok (.slice A' (q + n) c') w' ∧
      Row .u64 w' A' (q + n) c' (List.replicate q 0 ++ ds) ∧ Below w.heap.size w w' := by
  have hb : Below w.heap.size w (w.alloc (.cells (madeCells #[.int .u64 0] q) 22)) := (Below.refl _ _).alloc (Nat.le_refl _) _
  have hown : Own .u64 22 (w.alloc (.cells (madeCells #[.int .u64 0] q) 22)) w.heap.size (.slice (some ⟨w.heap.size, 0, none⟩) q q) (List.replicate q 0) := by
    refine ⟨by simp, Or.inr ⟨w.heap.size, q, madeCells #[.int .u64 0] q, by simp, Nat.le_refl _, heap_alloc_new w _, by simp, by unfold maxLen; omega, by rw [size_madeCells]; omega, ?_⟩⟩
    have hr := World.rowIs_made w (.int .u64 0) q 22
    apply List.ext_getElem?
    intro k
    by_cases hk : k < q
    · have hc := hr.cell hk
      rw [cell_of_row _ w.heap.size k (madeCells #[.int .u64 0] q) 22 (0, 0) (heap_alloc_new w _)] at hc
      rw [List.getElem?_take_of_lt (by simpa using hk), Array.getElem?_toList, hc, List.getElem?_map, List.getElem?_replicate, if_pos hk]
      rfl
    · rw [List.getElem?_eq_none (by rw [List.length_take, List.length_replicate]; omega), List.getElem?_eq_none (by simp; omega)]
  obtain ⟨v', w', hrun, ho, hb'⟩ := run_app (P := Tryd.prog) (T := 26) (ty := 26) Tryd.underlying26 info64 hown (hA.below hb) hb.size (by simp; omega) (by simp; omega)
  obtain ⟨A1, c1, rfl, hr⟩ := ho.row
  have el : (List.replicate q 0 ++ ds).length = q + n := by rw [List.length_append, List.length_replicate, hA.len]
  rw [el] at hrun hr
  exact ⟨A1, c1, w', hrun, hr, hb.trans hb'⟩


end Go.Proofs.YtgacafdkhailmaaDoor
