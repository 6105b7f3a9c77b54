/- slices.SortFunc of four dyads in one block: its frame about the insertions. -/
import Derived.Test.YtafgooiakmmfkaaDoorIvSort
import Derived.Test.YtafgooiakmmfkaaDoorWLen
namespace Go.Proofs.YtafgooiakmmfkaaDoor
open Go.RowKit

set_option maxHeartbeats 2000000 in
set_option maxRecDepth 20000 in
theorem bitslen_l (k v : Nat) (w : World) (hk : k < 18446744073709551616) (hv : Hid (blen k = v)) : Calls Tryd.prog 70 #[.int .u64 (k : Int)] w fun e w' => e = .returned (.int .i64 (v : Int)) ∧ w = w' := by
  have H := len_any k w hk
  rw [hv.out] at H
  replace H := Lib.hid H
  clear hk hv
  go_enter Tryd.func70, Tryd.ntmps70
  go_wp2_with fail
  refine H.out.mono ?_
  rintro e w' ⟨rfl, rfl⟩
  go_wp2
  go_ret
  exact ⟨rfl, rfl⟩

set_option maxHeartbeats 2000000 in
set_option maxRecDepth 20000 in
theorem pdq4_l (v : Int) (q : Nat → Ce) (b t : Nat) (w : World) (hr : Row4 w b t q) (hl : Lim4 w q) (hT : Tab w) :
    Calls Tryd.prog 69 #[.slice (some ⟨b, 0, none⟩) 4 4, .int .i64 0, .int .i64 4, .int .i64 v, .func (.func 25) #[] #[]] w fun e w' => e = .returned (.tuple #[]) ∧ ∃ p, Same4 q p ∧ Up 4 p ∧ HoldS4 w b t q p w' := by
  have H := Lib.hid (insert4_l q b t w hr hl hT)
  clear hr hl hT
  go_enter Tryd.func69, Tryd.ntmps69
  go_wp2
  refine wp_loop_rounds 1 ?_
  rw [rounds_succ]
  go_wp2_with fail
  refine H.out.mono ?_
  rintro e w' ⟨rfl, hp⟩
  have Hfin := Lib.hid hp
  clear hp H
  go_wp2
  (try simp only [Exit.inBlock, Exit.then])
  refine bodyPost_ret (results_none rfl _ _ _) rfl ?_
  exact ⟨rfl, Hfin.out⟩

set_option maxHeartbeats 2000000 in
set_option maxRecDepth 20000 in
theorem sort4_l (q : Nat → Ce) (b t : Nat) (w : World) (hr : Row4 w b t q) (hl : Lim4 w q) (hT : Tab w) :
    Calls Tryd.prog 39 #[.slice (some ⟨b, 0, none⟩) 4 4, .func (.func 25) #[] #[]] w fun e w' => e = .returned (.tuple #[]) ∧ ∃ p, Same4 q p ∧ Up 4 p ∧ HoldS4 w b t q p w' := by
  have H := Lib.hid (pdq4_l 3 q b t w hr hl hT)
  have H2 := Lib.hid (bitslen_l 4 3 w (by decide) (by show _ = _; decide))
  clear hr hl hT
  go_enter Tryd.func39, Tryd.ntmps39
  go_wp2_with fail
  refine H2.out.mono ?_
  rintro e w' ⟨rfl, rfl⟩
  go_wp2_with fail
  refine H.out.mono ?_
  rintro e w' ⟨rfl, hp⟩
  have Hfin := Lib.hid hp
  clear hp H H2
  go_wp2
  go_end0
  exact ⟨rfl, Hfin.out⟩
end Go.Proofs.YtafgooiakmmfkaaDoor
