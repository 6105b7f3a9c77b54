/- The walks of planimeterref01.Norm, To, Of and of planimeterlaw01.same. -/
import Derived.Test.YtffkddnjgbgfpaaDoorDMem
import Derived.Test.YtffkddnjgbgfpaaDoorWSmall
import Derived.Deep.RegionHeld3
namespace Go.Proofs.YtffkddnjgbgfpaaDoor
open Go.RowKit


theorem dig_step {x d x' k V Z : Nat} (hx : x = d + 65536 * x') (h : Z + D.pw k * x = V) : Z + D.pw k * d + D.pw (k + 1) * x' = V := by
  rw [hx, Nat.mul_add] at h
  rw [D.pw_succ, Nat.mul_comm 65536, Nat.mul_assoc]
  omega
theorem pw_dig (i : Nat) : D.pw (4 * i) = pw i := by
  rw [D.pw_two, pw_two]
  congr 1
  omega


end Go.Proofs.YtffkddnjgbgfpaaDoor
