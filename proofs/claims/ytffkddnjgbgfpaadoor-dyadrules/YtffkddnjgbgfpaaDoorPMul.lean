/- The walks of prod.Mul, prod.Times and math/bits.Len. -/
import Derived.Test.YtffkddnjgbgfpaaDoorPCols
namespace Go.Proofs.YtffkddnjgbgfpaaDoor
open Go.RowKit

theorem bits_to (b : Nat) (A : Option Addr) (n c : Nat) (xs : List Nat) (w : World) (hA : Lim w A n c xs) (hn : n ≤ 4398046511104) (hb : Hid (blen (val xs) = b)) :
    Calls Tryd.prog 28 #[.slice A n c] w fun e w' => e = .returned (.int .i64 (b : Int)) ∧ w = w' := by
  rw [← hb.out]; exact bits_any A n c xs w hA hn

theorem val_pos_len {xs : List Nat} (h : val xs ≠ 0) : 1 ≤ tl xs := by
  cases e : tl xs with
  | zero => exact absurd (tl_zero e) h
  | succ j => omega

set_option maxHeartbeats 2000000 in
theorem mul_any (A : Option Addr) (n c : Nat) (xs : List Nat) (B : Option Addr) (m d : Nat) (ys : List Nat) (w : World) (hA : Lim w A n c xs) (hB : Lim w B m d ys) (hn : n ≤ 1000000) (hm : m ≤ 1000000) (hfit : val xs = 0 ∨ val ys = 0 ∨ blen (val xs) + blen (val ys) ≤ 65536) :
    Calls Tryd.prog 22 #[.slice A n c, .slice B m d] w (Tells2 w (val xs * val ys) (n + m) (.int .i64 0)) := by
  obtain ⟨bx, hbx⟩ : ∃ b, blen (val xs) = b := ⟨_, rfl⟩
  obtain ⟨by_, hby⟩ : ∃ b, blen (val ys) = b := ⟨_, rfl⟩
  have hbx' : bx ≤ 64 * 1000000 := by
    have := tl_of_blen hA.words
    have := hA.tl_le
    omega
  have hby' : by_ ≤ 64 * 1000000 := by
    have := tl_of_blen hB.words
    have := hB.tl_le
    omega
  rw [hbx, hby] at hfit
  have Hbx := Lib.hid hbx
  have Hby := Lib.hid hby
  have H1 := Lib.hid (bits_to bx A n c xs w hA (by omega) hbx)
  have H2 := Lib.hid (bits_to by_ B m d ys w hB (by omega) hby)
  by_cases h0 : bx = 0 ∨ by_ = 0
  · have HV : Hid (val xs * val ys = 0) := by
      rcases h0 with h | h
      · rw [blen_zero_iff.1 (hbx.trans h)]; exact Nat.zero_mul _
      · rw [blen_zero_iff.1 (hby.trans h)]; exact Nat.mul_zero _
    clear hbx hby hfit hA hB
    have g : ((bx : Int) == 0) = true ∨ ((bx : Int) == 0) = false ∧ ((by_ : Int) == 0) = true := by
      by_cases h : bx = 0
      · exact Or.inl (by rw [h]; rfl)
      · exact Or.inr ⟨beq_eq_false_iff_ne.2 (by omega), by rw [show by_ = 0 from by omega]; rfl⟩
    clear h0
    rcases g with b1 | ⟨b1, b2⟩
    all_goals
      go_enter Tryd.func22, Tryd.ntmps22
      go_wp2_with fail
      refine H1.out.mono ?_
      rintro e w' ⟨rfl, rfl⟩
      go_wp2_with fail
      refine H2.out.mono ?_
      rintro e w' ⟨rfl, rfl⟩
      go_wp2
      go_ret2
      exact ⟨none, 0, 0, [], rfl, Nat.zero_le _, Lim.nil _ _ _, rfl, by rw [HV.out]; rfl, Below.refl _ _⟩
  · have hx0 : val xs ≠ 0 := fun h => h0 (Or.inl (by rw [← hbx, h]; rfl))
    have hy0 : val ys ≠ 0 := fun h => h0 (Or.inr (by rw [← hby, h]; rfl))
    have b1 : ((bx : Int) == 0) = false := beq_eq_false_iff_ne.2 (by omega)
    have b2 : ((by_ : Int) == 0) = false := beq_eq_false_iff_ne.2 (by omega)
    have hfit2 : bx + by_ ≤ 65536 := by
      rcases hfit with h | h | h
      · exact absurd h hx0
      · exact absurd h hy0
      · exact h
    have b3 : decide ((65536 : Int) - (by_ : Int) < (bx : Int)) = false := by simp; omega
    have hP := hA.trim
    have hQ := hB.trim
    have l1 := hA.tl_le
    have l2 := hB.tl_le
    have l3 := val_pos_len hx0
    have l4 := val_pos_len hy0
    have hVx := val_take_tl xs
    have hVy := val_take_tl ys
    obtain ⟨la, hla⟩ : ∃ l, tl xs = l := ⟨_, rfl⟩
    obtain ⟨lb, hlb⟩ : ∃ l, tl ys = l := ⟨_, rfl⟩
    rw [hla] at hP l1 l3 hVx
    rw [hlb] at hQ l2 l4 hVy
    have Hla := Lib.hid hla
    have Hlb := Lib.hid hlb
    have hC := columns_any A la c _ B lb d _ w hP hQ l3 l4 (by omega) (by omega)
    rw [hVx, hVy] at hC
    have H5 := Lib.hid hC
    clear hbx hby hfit hx0 hy0 hP hQ hVx hVy hla hlb hC h0
    go_enter Tryd.func22, Tryd.ntmps22
    go_wp2_with fail
    refine H1.out.mono ?_
    rintro e w' ⟨rfl, rfl⟩
    go_wp2_with fail
    refine H2.out.mono ?_
    rintro e w' ⟨rfl, rfl⟩
    go_wp2_with fail
    refine (pbare_any la A n c xs _ hA (by omega) Hla).mono ?_
    rintro e w' ⟨rfl, rfl⟩
    go_wp2_with fail
    refine (pbare_any lb B m d ys _ hB (by omega) Hlb).mono ?_
    rintro e w' ⟨rfl, rfl⟩
    go_wp2_with fail
    refine H5.out.mono ?_
    rintro e w1 ⟨A1, m1, c1, zs, rfl, hm1, hzs⟩
    have Hzs := Lib.hid hzs
    clear hzs
    go_wp2
    go_ret2
    exact ⟨A1, m1, c1, zs, rfl, by omega, Hzs.out⟩

set_option maxHeartbeats 2000000 in
theorem mul_long (A : Option Addr) (n c : Nat) (xs : List Nat) (B : Option Addr) (m d : Nat) (ys : List Nat) (w : World) (hA : Lim w A n c xs) (hB : Lim w B m d ys) (hn : n ≤ 1000000) (hm : m ≤ 1000000) (hx0 : val xs ≠ 0) (hy0 : val ys ≠ 0) (hfit : 65536 < blen (val xs) + blen (val ys)) :
    Calls Tryd.prog 22 #[.slice A n c, .slice B m d] w fun e w' => e = .returned (.tuple #[.slice none 0 0, .int .i64 2]) ∧ w = w' := by
  obtain ⟨bx, hbx⟩ : ∃ b, blen (val xs) = b := ⟨_, rfl⟩
  obtain ⟨by_, hby⟩ : ∃ b, blen (val ys) = b := ⟨_, rfl⟩
  have hbx' : bx ≤ 64 * 1000000 := by
    have := tl_of_blen hA.words
    have := hA.tl_le
    omega
  have hby' : by_ ≤ 64 * 1000000 := by
    have := tl_of_blen hB.words
    have := hB.tl_le
    omega
  have p1 := blen_pos hx0
  have p2 := blen_pos hy0
  rw [hbx, hby] at hfit
  rw [hbx] at p1
  rw [hby] at p2
  have H1 := Lib.hid (bits_to bx A n c xs w hA (by omega) hbx)
  have H2 := Lib.hid (bits_to by_ B m d ys w hB (by omega) hby)
  have b1 : ((bx : Int) == 0) = false := beq_eq_false_iff_ne.2 (by omega)
  have b2 : ((by_ : Int) == 0) = false := beq_eq_false_iff_ne.2 (by omega)
  have b3 : decide ((65536 : Int) - (by_ : Int) < (bx : Int)) = true := by simp; omega
  clear hbx hby hx0 hy0 hA hB
  go_enter Tryd.func22, Tryd.ntmps22
  go_wp2_with fail
  refine H1.out.mono ?_
  rintro e w' ⟨rfl, rfl⟩
  go_wp2_with fail
  refine H2.out.mono ?_
  rintro e w' ⟨rfl, rfl⟩
  go_wp2
  go_ret2
  exact ⟨rfl, rfl⟩



end Go.Proofs.YtffkddnjgbgfpaaDoor
