/- The walks of quo.Div, Up and Gcd. -/
import Derived.Test.YtkinflmfeamajaaDoorQLong
import Derived.Test.YtkinflmfeamajaaDoorWRCmp
import Derived.Deep.LoopGhost
namespace Go.Proofs.YtkinflmfeamajaaDoor
open Go.RowKit

/-- What Div hands back: the quotient and the rest, no error. -/
def TellsD (w : World) (Q R L M : Nat) (e : Ending) (w' : World) : Prop :=
  ∃ A m c zs A' m' c' ys, e = .returned (.tuple #[.slice A m c, .slice A' m' c', .int .i64 0]) ∧ m ≤ L ∧ m' ≤ M ∧ Lim w' A m c zs ∧ Lim w' A' m' c' ys ∧ Bare zs ∧ Bare ys ∧ val zs = Q ∧ val ys = R ∧ Below w.heap.size w w'

set_option maxHeartbeats 2000000 in
theorem div_nought (A : Option Addr) (n c : Nat) (xs : List Nat) (B : Option Addr) (m d : Nat) (ys : List Nat) (w : World) (hA : Lim w A n c xs) (hB : Lim w B m d ys) (hn : n ≤ 1000000) (hm : m ≤ 1000000) (h0 : val ys = 0) :
    Calls Tryd.prog 9 #[.slice A n c, .slice B m d] w fun e w' => e = .returned (.tuple #[.slice none 0 0, .slice none 0 0, .int .i64 1]) ∧ w = w' := by
  have Hlb := Lib.hid (tl_zero_iff.2 h0)
  clear h0
  go_enter Tryd.func9, Tryd.ntmps9
  go_wp2_with fail
  refine (qbare_any (tl xs) A n c xs _ hA (by omega) rfl).mono ?_
  rintro e w' ⟨rfl, rfl⟩
  go_wp2_with fail
  refine (qbare_any 0 B m d ys _ hB (by omega) Hlb).mono ?_
  rintro e w' ⟨rfl, rfl⟩
  go_wp2
  go_ret3
  exact ⟨rfl, rfl⟩

set_option maxHeartbeats 4000000 in
theorem div_any (A : Option Addr) (n c : Nat) (xs : List Nat) (B : Option Addr) (m d : Nat) (ys : List Nat) (w : World) (hA : Lim w A n c xs) (hB : Lim w B m d ys) (hn : n ≤ 1000000) (hm : m ≤ 1000000) (h0 : val ys ≠ 0) (hT : Tab w) :
    Calls Tryd.prog 9 #[.slice A n c, .slice B m d] w (TellsD w (val xs / val ys) (val xs % val ys) n n) := by
  have hP := hA.trim
  have hQ := hB.trim
  have HX := Lib.hid (val_take_tl xs)
  have HY := Lib.hid (val_take_tl ys)
  have l1 := hA.tl_le
  have l2 := hB.tl_le
  have hne : tl ys ≠ 0 := fun h => h0 (tl_zero_iff.1 h)
  have hfew : tl xs < tl ys → val xs < val ys := fun h => val_lt_of_tl_lt hA.words h
  obtain ⟨la, hla⟩ : ∃ l, tl xs = l := ⟨_, rfl⟩
  obtain ⟨lb, hlb⟩ : ∃ l, tl ys = l + 1 := ⟨tl ys - 1, by omega⟩
  have htop : (ys.take (lb + 1)).getD lb 0 ≠ 0 := by
    have := getD_tl_pred hlb
    rw [List.getD_eq_getElem?_getD, List.getElem?_take_of_lt (by omega), ← List.getD_eq_getElem?_getD]
    exact this
  rw [hla] at l1 hP HX hfew
  rw [hlb] at l2 hQ HY hfew
  have Hla := Lib.hid hla
  have Hlb := Lib.hid hlb
  have HA := Lib.hid hA
  have HB := Lib.hid hB
  have Hfew := Lib.hid hfew
  clear hla hlb hne hA hB hfew h0
  generalize xs.take la = ps at hP HX
  generalize ys.take (lb + 1) = qs at hQ HY htop
  have HP := Lib.hid hP
  have HQ := Lib.hid hQ
  have HT := Lib.hid hT
  have Htop := Lib.hid htop
  clear hP hQ hT htop
  have b0 : (((lb : Int) + 1) == 0) = false := beq_eq_false_iff_ne.2 (by omega)
  have b1 : (((lb + 1 : Nat) : Int) == 0) = false := beq_eq_false_iff_ne.2 (by omega)
  by_cases hlt : la < lb + 1
  · have hv := Hfew.out hlt
    have Hb := Lib.hid (bare_any A la c ps w HP.out (by omega))
    have HV : Hid (val xs / val ys = 0 ∧ val xs % val ys = val ps) := ⟨Nat.div_eq_of_lt hv, by rw [Nat.mod_eq_of_lt hv]; exact HX.out.symm⟩
    have b2 : decide ((la : Int) < (lb : Int) + 1) = true := by simp; omega
    have b3 : decide (la < lb + 1) = true := by simp; omega
    clear hv
    go_enter Tryd.func9, Tryd.ntmps9
    go_wp2_with fail
    refine (qbare_any la A n c xs _ HA.out (by omega) Hla).mono ?_
    rintro e w' ⟨rfl, rfl⟩
    go_wp2_with fail
    refine (qbare_any (lb + 1) B m d ys _ HB.out (by omega) Hlb).mono ?_
    rintro e w' ⟨rfl, rfl⟩
    go_wp2_with fail
    refine Hb.out.mono ?_
    rintro e w1 ⟨A1, m1, c1, zs, rfl, hm1, hl1, hb1, hv1, hB1⟩
    have Hfin : Hid (TellsD w (val xs / val ys) (val xs % val ys) n n (.returned (.tuple #[.slice none 0 0, .slice A1 m1 c1, .int .i64 0])) w1) :=
      ⟨none, 0, 0, [], A1, m1, c1, zs, rfl, Nat.zero_le _, by omega, Lim.nil _ _ _, hl1, rfl, hb1, by rw [HV.out.1]; rfl, by rw [HV.out.2]; exact hv1, hB1⟩
    clear hl1 hb1 hv1 hB1 Hb
    go_wp2
    go_ret3
    exact Hfin.out
  · have b2 : decide ((la : Int) < (lb : Int) + 1) = false := by simp; omega
    have b3 : decide (la < lb + 1) = false := by simp; omega
    by_cases h1 : lb = 0
    · subst h1
      obtain ⟨b, o, hBe, hb, hcl⟩ := HQ.out.at_ (by omega)
      subst hBe
      have c1 := hcl 0 (by omega)
      have hvw := HQ.out.words.getD 0
      have htop := Htop.out
      have hval : val qs = qs.getD 0 0 := by
        have := ltop_one qs 0 HQ.out.len
        rw [this, pw_zero, Nat.one_mul]; simp [val]
      rw [Nat.add_zero] at c1
      generalize qs.getD 0 0 = v at c1 hvw htop hval
      rw [HY.out] at hval
      have Hval := Lib.hid hval
      obtain ⟨R, hR⟩ : ∃ R, val ps % v = R := ⟨_, rfl⟩
      have hRb : R < 18446744073709551616 := by rw [← hR]; exact Nat.lt_trans (Nat.mod_lt _ (by omega)) hvw
      have Hs := Lib.hid (small_any A la c ps v w HP.out (by omega) (by omega) hvw R hR)
      have HR := Lib.hid hR
      clear hcl hval hR htop
      go_enter Tryd.func9, Tryd.ntmps9
      go_wp2_with fail
      refine (qbare_any la A n c xs _ HA.out (by omega) Hla).mono ?_
      rintro e w' ⟨rfl, rfl⟩
      go_wp2_with fail
      refine (qbare_any (0 + 1) _ m d ys _ HB.out (by omega) Hlb).mono ?_
      rintro e w' ⟨rfl, rfl⟩
      go_wp2_with fail
      refine Hs.out.mono ?_
      rintro e w1 ⟨A1, m1, c1, zs, rfl, hm1, hl1, hb1, hv1, hB1⟩
      have Ho := Lib.hid (of_any R hRb w1)
      have H1 : Hid (m1 ≤ la ∧ Lim w1 A1 m1 c1 zs ∧ Bare zs ∧ val zs = val ps / v ∧ Below w.heap.size w w1) := ⟨hm1, hl1, hb1, hv1, hB1⟩
      clear hl1 hb1 hv1 hB1 Hs hm1
      go_wp2_with fail
      refine Ho.out.mono ?_
      rintro e w2 ⟨A2, m2, c2, us, rfl, hm2, hl2, hb2, hv2, hB2⟩
      obtain ⟨f0, f1, f2, f3, f4⟩ := H1.out
      have Hfin : Hid (TellsD w (val xs / val ys) (val xs % val ys) n n (.returned (.tuple #[.slice A1 m1 c1, .slice A2 m2 c2, .int .i64 0])) w2) :=
        ⟨A1, m1, c1, zs, A2, m2, c2, us, rfl, by omega, by omega, f1.below hB2, hl2, f2, hb2, by rw [f3, HX.out, Hval.out], by rw [hv2, ← HR.out, HX.out, Hval.out], f4.trans (hB2.mono f4.size)⟩
      clear f0 f1 f2 f3 f4 hl2 hb2 hv2 hB2 Ho H1
      go_wp2
      go_ret3
      exact Hfin.out
    · have Hl := Lib.hid (long_any A la c ps B lb d qs w HP.out HQ.out Htop.out (by omega) (by omega) HT.out)
      have b4 : (((lb : Int) + 1) == 1) = false := beq_eq_false_iff_ne.2 (by omega)
      have b5 : (((lb + 1 : Nat) : Int) == 1) = false := beq_eq_false_iff_ne.2 (by omega)
      go_enter Tryd.func9, Tryd.ntmps9
      go_wp2_with fail
      refine (qbare_any la A n c xs _ HA.out (by omega) Hla).mono ?_
      rintro e w' ⟨rfl, rfl⟩
      go_wp2_with fail
      refine (qbare_any (lb + 1) B m d ys _ HB.out (by omega) Hlb).mono ?_
      rintro e w' ⟨rfl, rfl⟩
      go_wp2_with fail
      refine Hl.out.mono ?_
      rintro e w1 ⟨A1, m1, c1, zs, A2, m2, c2, us, rfl, hm1, hm2, hl1, hl2, hb1, hb2, hv1, hv2, hB1⟩
      have Hfin : Hid (TellsD w (val xs / val ys) (val xs % val ys) n n (.returned (.tuple #[.slice A1 m1 c1, .slice A2 m2 c2, .int .i64 0])) w1) :=
        ⟨A1, m1, c1, zs, A2, m2, c2, us, rfl, by omega, by omega, hl1, hl2, hb1, hb2, by rw [hv1, HX.out, HY.out], by rw [hv2, HX.out, HY.out], hB1⟩
      clear hl1 hl2 hb1 hb2 hv1 hv2 hB1 Hl
      go_wp2
      go_ret3
      exact Hfin.out

/-- The least number that times b is at least a. -/
def upq (a b : Nat) : Nat := a / b + (if a % b = 0 then 0 else 1)
theorem bare_zero {w : World} {A : Option Addr} {n c : Nat} {xs : List Nat} (h : Lim w A n c xs) (hb : Bare xs) : n = 0 ↔ val xs = 0 := by
  rw [← h.len, ← hb]; exact tl_zero_iff

set_option maxHeartbeats 2000000 in
theorem up_nought (A : Option Addr) (n c : Nat) (xs : List Nat) (B : Option Addr) (m d : Nat) (ys : List Nat) (w : World) (hA : Lim w A n c xs) (hB : Lim w B m d ys) (hn : n ≤ 1000000) (hm : m ≤ 1000000) (h0 : val ys = 0) :
    Calls Tryd.prog 10 #[.slice A n c, .slice B m d] w fun e w' => e = .returned (.tuple #[.slice none 0 0, .int .i64 1]) ∧ w = w' := by
  have Hd := Lib.hid (div_nought A n c xs B m d ys w hA hB hn hm h0)
  clear hA hB h0
  go_enter Tryd.func10, Tryd.ntmps10
  go_wp2_with fail
  refine Hd.out.mono ?_
  rintro e w' ⟨rfl, rfl⟩
  go_wp2
  go_ret2
  exact ⟨rfl, rfl⟩

set_option maxHeartbeats 2000000 in
theorem up_any (A : Option Addr) (n c : Nat) (xs : List Nat) (B : Option Addr) (m d : Nat) (ys : List Nat) (w : World) (hA : Lim w A n c xs) (hB : Lim w B m d ys) (hn : n ≤ 1000000) (hm : m ≤ 1000000) (h0 : val ys ≠ 0) (hT : Tab w) :
    Calls Tryd.prog 10 #[.slice A n c, .slice B m d] w (Tells2 w (upq (val xs) (val ys)) (n + 2) (.int .i64 0)) := by
  have Hd := Lib.hid (div_any A n c xs B m d ys w hA hB hn hm h0 hT)
  clear hA hB h0 hT
  go_enter Tryd.func10, Tryd.ntmps10
  go_wp2_with fail
  refine Hd.out.mono ?_
  rintro e w1 ⟨A1, m1, c1, zs, A2, m2, c2, us, rfl, hm1, hm2, hl1, hl2, hb1, hb2, hv1, hv2, hB1⟩
  have hz := bare_zero hl2 hb2
  rw [hv2] at hz
  have H1 : Hid (Lim w1 A1 m1 c1 zs ∧ Bare zs ∧ val zs = val xs / val ys ∧ Below w.heap.size w w1) := ⟨hl1, hb1, hv1, hB1⟩
  have Hz := Lib.hid hz
  clear hl1 hl2 hb1 hb2 hv1 hv2 hB1 hz Hd
  by_cases h2 : m2 = 0
  · obtain ⟨f1, f2, f3, f4⟩ := H1.out
    have Hfin : Hid (Tells2 w (upq (val xs) (val ys)) (n + 2) (.int .i64 0) (.returned (.tuple #[.slice A1 m1 c1, .int .i64 0])) w1) := ⟨A1, m1, c1, zs, rfl, by omega, f1, f2, by rw [upq, if_pos (Hz.out.1 h2), Nat.add_zero]; exact f3, f4⟩
    subst h2
    clear f1 f2 f3 f4 H1 Hz
    go_wp2
    go_ret2
    exact Hfin.out
  · have b1 : decide (0 < m2) = true := by simp; omega
    have b2 : decide ((0 : Int) < (m2 : Int)) = true := by simp; omega
    have h3 := fun h => h2 (Hz.out.2 h)
    have Hu : Hid (upq (val xs) (val ys) = val xs / val ys + 1) := by show _ = _; rw [upq, if_neg h3]
    have Ho := Lib.hid (of_any 1 (by decide) w1)
    clear h2 h3 Hz
    go_wp2_with fail
    refine Ho.out.mono ?_
    rintro e w2 ⟨A3, m3, c3, os, rfl, hm3, hl3, hb3, hv3, hB3⟩
    obtain ⟨f1, f2, f3, f4⟩ := H1.out
    have Ha := Lib.hid (add_any A1 m1 c1 zs A3 m3 c3 os w2 (f1.below hB3) hl3 (by omega) (by omega))
    rw [f3, hv3, ← Hu.out] at Ha
    have Hb := Lib.hid (f4.trans (hB3.mono f4.size))
    clear f1 f2 f3 f4 H1 hl3 hb3 hv3 hB3 Ho
    go_wp2_with fail
    refine Ha.out.mono ?_
    rintro e w3 ⟨A4, m4, c4, ts, rfl, hm4, hl4, hb4, hv4, hB4⟩
    have Hfin : Hid (Tells2 w (upq (val xs) (val ys)) (n + 2) (.int .i64 0) (.returned (.tuple #[.slice A4 m4 c4, .int .i64 0])) w3) := ⟨A4, m4, c4, ts, rfl, by omega, hl4, hb4, hv4, Hb.out.trans (hB4.mono Hb.out.size)⟩
    clear hl4 hb4 hv4 hB4 Ha Hb
    go_wp2
    go_ret2
    exact Hfin.out

set_option maxHeartbeats 2000000 in
theorem gcd_any (A : Option Addr) (n c : Nat) (xs : List Nat) (B : Option Addr) (m d : Nat) (ys : List Nat) (w : World) (hA : Lim w A n c xs) (hB : Lim w B m d ys) (M : Nat) (hn : n ≤ M) (hm : m ≤ M) (hM : M ≤ 1000000) (hT : Tab w) :
    Calls Tryd.prog 22 #[.slice A n c, .slice B m d] w (Tells w (Nat.gcd (val xs) (val ys)) M) := by
  have HT := Lib.hid hT
  have HB := Lib.hid hB
  have Ha := Lib.hid (bare_any A n c xs w hA (by omega))
  obtain ⟨G, hG⟩ : ∃ G, Nat.gcd (val xs) (val ys) = G := ⟨_, rfl⟩
  rw [hG]
  have HG := Lib.hid hG
  clear hA hB hT hG
  go_enter Tryd.func22, Tryd.ntmps22
  go_wp2_with fail
  refine Ha.out.mono ?_
  rintro e w1 ⟨A1, m1, c1, us, rfl, hm1, hl1, hb1, hv1, hB1⟩
  have Hb := Lib.hid (bare_any B m d ys w1 (HB.out.below hB1) (by omega))
  have H1 : Hid (Lim w1 A1 m1 c1 us ∧ Bare us ∧ val us = val xs ∧ Below w.heap.size w w1) := ⟨hl1, hb1, hv1, hB1⟩
  clear hl1 hb1 hv1 hB1 Ha HB
  go_wp2_with fail
  refine Hb.out.mono ?_
  rintro e w2 ⟨A2, m2, c2, vs, rfl, hm2, hl2, hb2, hv2, hB2⟩
  obtain ⟨f1, f2, f3, f4⟩ := H1.out
  have H2 : Hid (Lim w2 A1 m1 c1 us ∧ Lim w2 A2 m2 c2 vs ∧ Bare us ∧ Bare vs ∧ Nat.gcd (val us) (val vs) = G ∧ Below w.heap.size w w2) := ⟨f1.below hB2, hl2, f2, hb2, by rw [f3, hv2]; exact HG.out, f4.trans (hB2.mono f4.size)⟩
  have g1 : m1 ≤ M := by omega
  have g2 : m2 ≤ M := by omega
  clear f1 f2 f3 f4 hl2 hb2 hv2 hB2 H1 Hb HG hm1 hm2
  go_wp2_with fail
  go_loopg [0, 1] (val vs) (fun g s0 s1 wr => ∃ (A3 : Option Addr) (m3 c3 : Nat) (ts : List Nat) (A4 : Option Addr) (m4 c4 : Nat) (os : List Nat), s0 = .slice A3 m3 c3 ∧ s1 = .slice A4 m4 c4 ∧ m3 ≤ M ∧ m4 ≤ M ∧ Hid (val os = g) ∧ Hid (Lim wr A3 m3 c3 ts ∧ Lim wr A4 m4 c4 os ∧ Bare ts ∧ Bare os ∧ Nat.gcd (val ts) (val os) = G ∧ Below w.heap.size w wr))
  case atStart => exact ⟨A1, m1, c1, us, A2, m2, c2, vs, rfl, rfl, g1, g2, rfl, H2⟩
  case round =>
    clear H2 g1 g2
    obtain ⟨A3, m3, c3, ts, A4, m4, c4, os, rfl, rfl, g1, g2, Hg, H3⟩ := hrel
    obtain ⟨f1, f2, f3, f4, f5, f6⟩ := H3.out
    have hz := bare_zero f2 f4
    by_cases h4 : m4 = 0
    · have hv : val os = 0 := hz.1 h4
      rw [hv, Nat.gcd_zero_right] at f5
      have Hfin : Hid (Tells w G M (.returned (.slice A3 m3 c3)) wr) := ⟨A3, m3, c3, ts, rfl, g1, f1, f3, f5, f6⟩
      subst h4
      clear f1 f2 f3 f4 f5 f6 hz hv H3
      go_wp2
      go_ret
      exact Hfin.out
    · have hv : val os ≠ 0 := fun h => h4 (hz.2 h)
      have Hd := Lib.hid (div_any A3 m3 c3 ts A4 m4 c4 os wr f1 f2 (by omega) (by omega) hv (HT.out.below f6))
      have Hv := Lib.hid hv
      have b1 : decide (0 < m4) = true := by simp; omega
      have b2 : decide ((0 : Int) < (m4 : Int)) = true := by simp; omega
      clear f1 f2 f3 f4 f5 f6 hz hv
      go_wp2_with fail
      refine Hd.out.mono ?_
      rintro e w5 ⟨A5, m5, c5, zs, A6, m6, c6, rs, rfl, hm5, hm6, hl5, hl6, hb5, hb6, hv5, hv6, hB5⟩
      obtain ⟨f1, f2, f3, f4, f5, f6⟩ := H3.out
      have H4 : Hid (Lim w5 A4 m4 c4 os ∧ Lim w5 A6 m6 c6 rs ∧ Bare os ∧ Bare rs ∧ Nat.gcd (val os) (val rs) = G ∧ Below w.heap.size w w5) :=
        ⟨f2.below hB5, hl6, f4, hb6, by rw [hv6, ← f5, Nat.gcd_comm (val os) (val ts % val os), ← Nat.gcd_rec (val os) (val ts)]; exact Nat.gcd_comm _ _, f6.trans (hB5.mono f6.size)⟩
      have Hlt : Hid (val rs < gk) := by
        show _ < _
        rw [hv6, ← Hg.out]
        exact Nat.mod_lt _ (Nat.pos_of_ne_zero Hv.out)
      clear f1 f2 f3 f4 f5 f6 hl5 hl6 hb5 hb6 hv5 hv6 hB5 H3 Hd
      go_wp2
      go_roundg (val rs)
      case rel => exact ⟨A4, m4, c4, os, A6, m6, c6, rs, rfl, rfl, g2, by omega, rfl, H4⟩
      case measure => exact Hlt.out
end Go.Proofs.YtkinflmfeamajaaDoor
