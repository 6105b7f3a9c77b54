/- The walk of planimeterlaw09.alive. -/
import Derived.Test.YtfccpjjdemanbaaDdAdd
namespace Go.Proofs.Ytfccpjjdemanbaa
open Go.RowKit

theorem alive_sum : SumEqs 4607182418800017408 4336966441157787648 4607182418800017408 4336966441157787648 := ⟨0, 4607182418800017408, 0, 4336966441157787648, by kernel_rfl, by kernel_rfl, by kernel_rfl, by kernel_rfl, by kernel_rfl, by kernel_rfl⟩
theorem alive_split : SplitEqs 4728779608772575232 4728779608739020800 4607182418800017408 := ⟨4850376798745133056, 4850376798711578624, by kernel_rfl, by kernel_rfl, by kernel_rfl, by kernel_rfl⟩
theorem alive_prod : ProdEqs 4728779608772575232 4728779608772575232 4850376798745133056 4607182418800017408 :=
  ⟨4728779608739020800, 4607182418800017408, 4728779608739020800, 4607182418800017408, 4850376798678024192, 4728779608739020800, 4728779608739020800, 4607182418800017408, 13956655245221167104, 13952151645593796608, 0, by kernel_rfl, alive_split, alive_split, by kernel_rfl, by kernel_rfl, by kernel_rfl, by kernel_rfl, by kernel_rfl, by kernel_rfl, by kernel_rfl, by kernel_rfl⟩
theorem same_ord (b : Nat) (hb : b < 18446744073709551616) (hf : Fnt b) : (FloatKind.f64.format.order b b == some .eq) = true := by
  have h : FloatKind.f64.format.order b b = some .eq := by
    show (Ieee.double.read b).order (Ieee.double.read b) = _
    rw [read_fin hb hf]
    simp [Ieee.Datum.order]
  rw [h]; rfl

theorem dalive_any (w : World) : Calls Try.prog 7 #[] w fun e w' => e = .returned (.bool true) ∧ Below w.heap.size w w' := by
  have HS := Lib.hid (sum_w alive_sum)
  have HP := Lib.hid (prod_w alive_prod)
  have e1 := same_ord 4607182418800017408 (by decide) (by decide)
  have e2 := same_ord 4336966441157787648 (by decide) (by decide)
  have e3 := same_ord 4850376798745133056 (by decide) (by decide)
  go_enter Try.func7, Try.ntmps7
  go_wp2_with fail
  refine (HS.out _).mono ?_
  rintro e w1 ⟨rfl, hB1⟩
  have k1 := Pb.new w1 4607182418800017408 4336966441157787648
  have b1 := hB1.trans ((below1 w1 (.cells #[.float .f64 4607182418800017408, .float .f64 4336966441157787648] 33)).mono hB1.size)
  have k1 := Lib.hid k1
  have b1 := Lib.hid b1
  clear hB1 HS
  go_wp2_with fail
  refine (HP.out _).mono ?_
  rintro e w2 ⟨rfl, hB2⟩
  have k2 := k1.out.below hB2
  have x0 := k2.c0
  have x1 := k2.c1
  have xl := k2.lt
  have b2 := b1.out.trans (hB2.mono b1.out.size)
  have Hfin := Lib.hid (b2.trans ((below1 w2 (.cells #[.float .f64 4850376798745133056, .float .f64 4607182418800017408] 33)).mono b2.size))
  clear k2 b2 hB2 k1 b1 HP
  go_wp2
  go_ret
  exact ⟨rfl, Hfin.out⟩
end Go.Proofs.Ytfccpjjdemanbaa
