/- The walks of quo.Div, Up and Gcd. -/
import Derived.Test.YtkgbgmhkbigjhaaDoorQLong
import Derived.Test.YtkgbgmhkbigjhaaDoorWRCmp
import Derived.Deep.LoopGhost
namespace Go.Proofs.YtkgbgmhkbigjhaaDoor
open Go.RowKit

/-- What Div hands back: the quotient and the rest, no error. -/
def TellsD (w : World) (Q R L M : Nat) (e : Ending) (w' : World) : Prop :=
  ∃ A m c zs A' m' c' ys, e = .returned (.tuple #[.slice A m c, .slice A' m' c', .int .i64 0]) ∧ m ≤ L ∧ m' ≤ M ∧ Lim w' A m c zs ∧ Lim w' A' m' c' ys ∧ Bare zs ∧ Bare ys ∧ val zs = Q ∧ val ys = R ∧ Below w.heap.size w w'

set_option maxHeartbeats 2000000 in
theorem div_nought (A : Option Addr) (n c : Nat) (xs : List Nat) (B : Option Addr) (m d : Nat) (ys : List Nat) (w : World) (hA : Lim w A n c xs) (hB : Lim w B m d ys) (hn : n ≤ 1000000) (hm : m ≤ 1000000) (h0 : val ys = 0) :
    Calls Tryd.prog 45 #[.slice A n c, .slice B m d] w fun e w' => e = .returned (.tuple #[.slice none 0 0, .slice none 0 0, .int .i64 1]) ∧ w = w' := by
  have Hlb := Lib.hid (tl_zero_iff.2 h0)
  clear h0
  go_enter Tryd.func45, Tryd.ntmps45
  go_wp2_with fail
  refine (qbare_any (tl xs) A n c xs _ hA (by omega) rfl).mono ?_
  rintro e w' ⟨rfl, rfl⟩
  go_wp2_with fail
  refine (qbare_any 0 B m d ys _ hB (by omega) Hlb).mono ?_
  rintro e w' ⟨rfl, rfl⟩
  go_wp2
  go_ret3
  exact ⟨rfl, rfl⟩

set_option maxHeartbeats 4000000 in
theorem div_any (A : Option Addr) (n c : Nat) (xs : List Nat) (B : Option Addr) (m d : Nat) (ys : List Nat) (w : World) (hA : Lim w A n c xs) (hB : Lim w B m d ys) (hn : n ≤ 1000000) (hm : m ≤ 1000000) (h0 : val ys ≠ 0) (hT : Tab w) :
    Calls Tryd.prog 45 #[.slice A n c, .slice B m d] w (TellsD w (val xs / val ys) (val xs % val ys) n n) := by
  have hP := hA.trim
  have hQ := hB.trim
  have HX := Lib.hid (val_take_tl xs)
  have HY := Lib.hid (val_take_tl ys)
  have l1 := hA.tl_le
  have l2 := hB.tl_le
  have hne : tl ys ≠ 0 := fun h => h0 (tl_zero_iff.1 h)
  have hfew : tl xs < tl ys → val xs < val ys := fun h => val_lt_of_tl_lt hA.words h
  obtain ⟨la, hla⟩ : ∃ l, tl xs = l := ⟨_, rfl⟩
  obtain ⟨lb, hlb⟩ : ∃ l, tl ys = l + 1 := ⟨tl ys - 1, by omega⟩
  have htop : (ys.take (lb + 1)).getD lb 0 ≠ 0 := by
    have := getD_tl_pred hlb
    rw [List.getD_eq_getElem?_getD, List.getElem?_take_of_lt (by omega), ← List.getD_eq_getElem?_getD]
    exact this
  rw [hla] at l1 hP HX hfew
  rw [hlb] at l2 hQ HY hfew
  have Hla := Lib.hid hla
  have Hlb := Lib.hid hlb
  have HA := Lib.hid hA
  have HB := Lib.hid hB
  have Hfew := Lib.hid hfew
  clear hla hlb hne hA hB hfew h0
  generalize xs.take la = ps at hP HX
  generalize ys.take (lb + 1) = qs at hQ HY htop
  have HP := Lib.hid hP
  have HQ := Lib.hid hQ
  have HT := Lib.hid hT
  have Htop := Lib.hid htop
  clear hP hQ hT htop
  have b0 : (((lb : Int) + 1) == 0) = false := beq_eq_false_iff_ne.2 (by omega)
  have b1 : (((lb + 1 : Nat) : Int) == 0) = false := beq_eq_false_iff_ne.2 (by omega)
  by_cases hlt : la < lb + 1
  · have hv := Hfew.out hlt
    have Hb := Lib.hid (bare_any A la c ps w HP.out (by omega))
    have HV : Hid (val xs / val ys = 0 ∧ val xs % val ys = val ps) := ⟨Nat.div_eq_of_lt hv, by rw [Nat.mod_eq_of_lt hv]; exact HX.out.symm⟩
    have b2 : decide ((la : Int) < (lb : Int) + 1) = true := by simp; omega
    have b3 : decide (la < lb + 1) = true := by simp; omega
    clear hv
    go_enter Tryd.func45, Tryd.ntmps45
    go_wp2_with fail
    refine (qbare_any la A n c xs _ HA.out (by omega) Hla).mono ?_
    rintro e w' ⟨rfl, rfl⟩
    go_wp2_with fail
    refine (qbare_any (lb + 1) B m d ys _ HB.out (by omega) Hlb).mono ?_
    rintro e w' ⟨rfl, rfl⟩
    go_wp2_with fail
    refine Hb.out.mono ?_
    rintro e w1 ⟨A1, m1, c1, zs, rfl, hm1, hl1, hb1, hv1, hB1⟩
    have Hfin : Hid (TellsD w (val xs / val ys) (val xs % val ys) n n (.returned (.tuple #[.slice none 0 0, .slice A1 m1 c1, .int .i64 0])) w1) :=
      ⟨none, 0, 0, [], A1, m1, c1, zs, rfl, Nat.zero_le _, by omega, Lim.nil _ _ _, hl1, rfl, hb1, by rw [HV.out.1]; rfl, by rw [HV.out.2]; exact hv1, hB1⟩
    clear hl1 hb1 hv1 hB1 Hb
    go_wp2
    go_ret3
    exact Hfin.out
  · have b2 : decide ((la : Int) < (lb : Int) + 1) = false := by simp; omega
    have b3 : decide (la < lb + 1) = false := by simp; omega
    by_cases h1 : lb = 0
    · subst h1
      obtain ⟨b, o, hBe, hb, hcl⟩ := HQ.out.at_ (by omega)
      subst hBe
      have c1 := hcl 0 (by omega)
      have hvw := HQ.out.words.getD 0
      have htop := Htop.out
      have hval : val qs = qs.getD 0 0 := by
        have := ltop_one qs 0 HQ.out.len
        rw [this, pw_zero, Nat.one_mul]; simp [val]
      rw [Nat.add_zero] at c1
      generalize qs.getD 0 0 = v at c1 hvw htop hval
      rw [HY.out] at hval
      have Hval := Lib.hid hval
      obtain ⟨R, hR⟩ : ∃ R, val ps % v = R := ⟨_, rfl⟩
      have hRb : R < 18446744073709551616 := by rw [← hR]; exact Nat.lt_trans (Nat.mod_lt _ (by omega)) hvw
      have Hs := Lib.hid (small_any A la c ps v w HP.out (by omega) (by omega) hvw R hR)
      have HR := Lib.hid hR
      clear hcl hval hR htop
      go_enter Tryd.func45, Tryd.ntmps45
      go_wp2_with fail
      refine (qbare_any la A n c xs _ HA.out (by omega) Hla).mono ?_
      rintro e w' ⟨rfl, rfl⟩
      go_wp2_with fail
      refine (qbare_any (0 + 1) _ m d ys _ HB.out (by omega) Hlb).mono ?_
      rintro e w' ⟨rfl, rfl⟩
      go_wp2_with fail
      refine Hs.out.mono ?_
      rintro e w1 ⟨A1, m1, c1, zs, rfl, hm1, hl1, hb1, hv1, hB1⟩
      have Ho := Lib.hid (of_any R hRb w1)
      have H1 : Hid (m1 ≤ la ∧ Lim w1 A1 m1 c1 zs ∧ Bare zs ∧ val zs = val ps / v ∧ Below w.heap.size w w1) := ⟨hm1, hl1, hb1, hv1, hB1⟩
      clear hl1 hb1 hv1 hB1 Hs hm1
      go_wp2_with fail
      refine Ho.out.mono ?_
      rintro e w2 ⟨A2, m2, c2, us, rfl, hm2, hl2, hb2, hv2, hB2⟩
      obtain ⟨f0, f1, f2, f3, f4⟩ := H1.out
      have Hfin : Hid (TellsD w (val xs / val ys) (val xs % val ys) n n (.returned (.tuple #[.slice A1 m1 c1, .slice A2 m2 c2, .int .i64 0])) w2) :=
        ⟨A1, m1, c1, zs, A2, m2, c2, us, rfl, by omega, by omega, f1.below hB2, hl2, f2, hb2, by rw [f3, HX.out, Hval.out], by rw [hv2, ← HR.out, HX.out, Hval.out], f4.trans (hB2.mono f4.size)⟩
      clear f0 f1 f2 f3 f4 hl2 hb2 hv2 hB2 Ho H1
      go_wp2
      go_ret3
      exact Hfin.out
    · have Hl := Lib.hid (long_any A la c ps B lb d qs w HP.out HQ.out Htop.out (by omega) (by omega) HT.out)
      have b4 : (((lb : Int) + 1) == 1) = false := beq_eq_false_iff_ne.2 (by omega)
      have b5 : (((lb + 1 : Nat) : Int) == 1) = false := beq_eq_false_iff_ne.2 (by omega)
      go_enter Tryd.func45, Tryd.ntmps45
      go_wp2_with fail
      refine (qbare_any la A n c xs _ HA.out (by omega) Hla).mono ?_
      rintro e w' ⟨rfl, rfl⟩
      go_wp2_with fail
      refine (qbare_any (lb + 1) B m d ys _ HB.out (by omega) Hlb).mono ?_
      rintro e w' ⟨rfl, rfl⟩
      go_wp2_with fail
      refine Hl.out.mono ?_
      rintro e w1 ⟨A1, m1, c1, zs, A2, m2, c2, us, rfl, hm1, hm2, hl1, hl2, hb1, hb2, hv1, hv2, hB1⟩
      have Hfin : Hid (TellsD w (val xs / val ys) (val xs % val ys) n n (.returned (.tuple #[.slice A1 m1 c1, .slice A2 m2 c2, .int .i64 0])) w1) :=
        ⟨A1, m1, c1, zs, A2, m2, c2, us, rfl, by omega, by omega, hl1, hl2, hb1, hb2, by rw [hv1, HX.out, HY.out], by rw [hv2, HX.out, HY.out], hB1⟩
      clear hl1 hl2 hb1 hb2 hv1 hv2 hB1 Hl
      go_wp2
      go_ret3
      exact Hfin.out

/-- The least number that times b is at least a. -/
def upq (a b : Nat) : Nat := a / b + (if a % b = 0 then 0 else 1)
theorem bare_zero {w : World} {A : Option Addr} {n c : Nat} {xs : List Nat} (h : Lim w A n c xs) (hb : Bare xs) : n = 0 ↔ val xs = 0 := by
  rw [← h.len, ← hb]; exact tl_zero_iff




end Go.Proofs.YtkgbgmhkbigjhaaDoor
