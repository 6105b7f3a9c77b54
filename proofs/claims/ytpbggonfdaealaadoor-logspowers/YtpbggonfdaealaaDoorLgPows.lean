/- The walk of the law LogsPowers (written by law_lpowers.py). -/
import Derived.Test.YtpbggonfdaealaaDoorLgPowsN
import Derived.Test.YtpbggonfdaealaaDoorLgPowsP
namespace Go.Proofs.YtpbggonfdaealaaDoor
open Go.RowKit

theorem walk_logsPowers (k s : Int) (w : World) (hT : Tab w) (hk1 : -32768 ≤ k) (hk2 : k ≤ 32767) (hs1 : 0 ≤ s) (hs2 : s ≤ 255) :
    Calls Tryd.prog 5 #[.int .i16 k, .int .u8 s] w fun e w' => e = .returned (.bool true) ∧ Below w.heap.size w w' := by
  obtain ⟨z, rfl⟩ := Int.eq_ofNat_of_zero_le hs1
  obtain ⟨n, hn⟩ : ∃ n, k.tmod 2000 = n := ⟨_, rfl⟩
  have h1 : n < 2000 := by rw [← hn]; exact Int.tmod_lt_of_pos k (by decide)
  have h2 : -2000 < n := by
    have := Int.tmod_lt_of_pos (-k) (b := 2000) (by decide)
    rw [Int.neg_tmod, hn] at this
    omega
  rcases Int.lt_or_le n 0 with h | h
  · exact lpows_neg k z n w hT hn hk1 hk2 (by omega) (by omega) (by omega) h
  · exact lpows_pos k z n w hT hn hk1 hk2 (by omega) (by omega) (by omega) h
end Go.Proofs.YtpbggonfdaealaaDoor
