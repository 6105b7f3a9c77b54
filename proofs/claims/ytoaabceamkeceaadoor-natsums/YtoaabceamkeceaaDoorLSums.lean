/- The walk of the law NatSums. -/
import Derived.Test.YtoaabceamkeceaaDoorWRSub
import Derived.Test.YtoaabceamkeceaaDoorLOrder
namespace Go.Proofs.YtoaabceamkeceaaDoor
open Go.RowKit

/-- What stands while the law runs: the two numbers that came in, and the table. -/
def St2 (w w' : World) (A : Option Addr) (n c : Nat) (xs : List Nat) (B : Option Addr) (m d : Nat) (ys : List Nat) : Prop :=
  Below w.heap.size w w' ∧ Tab w' ∧ Lim w' A n c xs ∧ Lim w' B m d ys
theorem St2.next {w w1 w2 : World} {A : Option Addr} {n c : Nat} {xs : List Nat} {B : Option Addr} {m d : Nat} {ys : List Nat}
    (h : St2 w w1 A n c xs B m d ys) (hb : Below w1.heap.size w1 w2) : St2 w w2 A n c xs B m d ys :=
  ⟨h.1.trans (hb.mono h.1.size), h.2.1.below hb, h.2.2.1.below hb, h.2.2.2.below hb⟩

theorem rcmp_b (v : Int) (A : Option Addr) (n c : Nat) (us : List Nat) (B : Option Addr) (m d : Nat) (bs : List Nat) (w : World) (hA : Dig w A n c us) (hB : Dig w B m d bs) (ba : D.Bare us) (bb : D.Bare bs) (hn : n ≤ 1000000) (hm : m ≤ 1000000) (hv : Hid (cmpZ (D.val us) (D.val bs) = v)) :
    Calls Tryd.prog 14 #[.slice A n c, .slice B m d] w fun e w' => e = .returned (.int .i64 v) ∧ Below w.heap.size w w' := by
  rw [← hv.out]
  refine (rcmp_any A n c us B m d bs w hA hB ba bb hn hm).mono ?_
  rintro e w' ⟨rfl, q, rfl⟩
  exact ⟨rfl, below_drewN (Below.refl _ _) q⟩
theorem dlen_small {ds : List Nat} {m : Nat} (hw : D.Words ds) (hb : D.Bare ds) (hl : ds.length = m) : m ≤ 4 ↔ D.val ds < 18446744073709551616 := by
  have h4 : D.pw 4 = 18446744073709551616 := by decide
  constructor
  · intro h
    have h1 := D.val_lt hw
    have h2 := D.pw_mono (show ds.length ≤ 4 by omega)
    omega
  · intro h
    rcases Nat.lt_or_ge 4 m with h5 | h5
    · obtain ⟨j, rfl⟩ : ∃ j, m = j + 1 := ⟨m - 1, by omega⟩
      have h6 := D.val_pos_of_tl (xs := ds) (j := j) (by rw [hb, hl])
      have h7 := D.pw_mono (show 4 ≤ j by omega)
      omega
    · exact h5

set_option maxHeartbeats 4000000 in
set_option maxRecDepth 100000 in
theorem sums_far (A : Option Addr) (n c : Nat) (B : Option Addr) (m d : Nat) (w : World) (hT : Tab w)
    (hn : n ≤ 9223372036854775807) (hm : m ≤ 9223372036854775807) (hfar : 60 < n ∨ 60 < m) :
    Calls Tryd.prog 3 #[.slice A n c, .slice B m d] w fun e w' => e = .returned (.bool true) ∧ Below w.heap.size w w' := by
  have Hal := Lib.hid (alive_any w hT)
  have g : decide ((60 : Int) < (n : Int)) = true ∨ (decide ((60 : Int) < (n : Int)) = false ∧ decide ((60 : Int) < (m : Int)) = true) := by
    by_cases h1 : 60 < n
    · exact Or.inl (by simp; omega)
    · exact Or.inr ⟨by simp; omega, by simp; omega⟩
  clear hfar
  rcases g with b1 | ⟨b1, b2⟩
  all_goals
    go_enter Tryd.func3, Tryd.ntmps3
    go_wp2_with fail
    refine Hal.out.mono ?_
    rintro e w1 ⟨rfl, hb⟩
    go_wp2
    go_ret
    exact ⟨rfl, hb⟩

set_option maxHeartbeats 8000000 in
set_option maxRecDepth 100000 in
theorem sums_near (A : Option Addr) (n c : Nat) (xs : List Nat) (B : Option Addr) (m d : Nat) (ys : List Nat) (w : World) (hT : Tab w)
    (hA : Lim w A n c xs) (hB : Lim w B m d ys) (hn : n ≤ 60) (hm : m ≤ 60) :
    Calls Tryd.prog 3 #[.slice A n c, .slice B m d] w fun e w' => e = .returned (.bool true) ∧ Below w.heap.size w w' := by
  have Hal := Lib.hid (alive_any w hT)
  have hS : St2 w w A n c xs B m d ys := ⟨Below.refl _ _, hT, hA, hB⟩
  obtain ⟨X, hX⟩ : ∃ X, val xs = X := ⟨_, rfl⟩
  obtain ⟨Y, hY⟩ : ∃ Y, val ys = Y := ⟨_, rfl⟩
  obtain ⟨x, hx⟩ : ∃ x, cmpZ X Y = x := ⟨_, rfl⟩
  have HX := Lib.hid hX
  have HY := Lib.hid hY
  have Hx := Lib.hid hx
  have b1 : decide ((60 : Int) < (n : Int)) = false := by simp; omega
  have b2 : decide ((60 : Int) < (m : Int)) = false := by simp; omega
  have g : (Hid (X < Y) ∧ decide (x < 0) = true) ∨ (Hid (Y ≤ X) ∧ decide (x < 0) = false ∧ Hid (X < 18446744073709551616)) ∨ (Hid (Y ≤ X) ∧ decide (x < 0) = false ∧ Hid (18446744073709551616 ≤ X)) := by
    rcases Nat.lt_or_ge X Y with h | h
    · exact Or.inl ⟨h, by rw [← hx, cmpZ_lt h]; rfl⟩
    · have h0 := cmpZ_nonneg h
      rw [hx] at h0
      rcases Nat.lt_or_ge X 18446744073709551616 with h2 | h2
      · exact Or.inr (Or.inl ⟨h, by simp; omega, h2⟩)
      · exact Or.inr (Or.inr ⟨h, by simp; omega, h2⟩)
  clear hX hY hx hA hB hT
  rcases g with ⟨Hlt, b3⟩ | ⟨Hge, b3, Hsm⟩ | ⟨Hge, b3, Hbig⟩
  all_goals
    go_enter Tryd.func3, Tryd.ntmps3
    go_wp2_with fail
    refine Hal.out.mono ?_
    rintro e w1 ⟨rfl, hb⟩
    replace hS := hS.next hb
    clear hb
    go_wp2_with fail
    refine (to_any _ _ _ _ _ hS.2.2.1 (by omega)).mono ?_
    rintro e w2 ⟨A1, m1, c1, ds, rfl, hm1, hds, hbd, hv, hb⟩
    have Hds : Hid (D.val ds = X) := by rw [hv, HX.out]; rfl
    have Hbd := Lib.hid hbd
    replace hS := hS.next hb
    clear hb hv hbd
    go_wp2_with fail
    refine (to_any _ _ _ _ _ hS.2.2.2 (by omega)).mono ?_
    rintro e w3 ⟨A2, m2, c2, es, rfl, hm2, hes, hbe, hv, hb⟩
    have Hes : Hid (D.val es = Y) := by rw [hv, HY.out]; rfl
    have Hbe := Lib.hid hbe
    replace hS := hS.next hb
    replace hds := hds.below hb
    clear hb hv hbe
    go_wp2_with fail
    refine (bare_any _ _ _ _ _ hS.2.2.1 (by omega)).mono ?_
    rintro e w4 ⟨A3, m3, c3, ps, rfl, hm3, hps, hbp, hv, hb⟩
    have Hps : Hid (val ps = X) := by rw [hv, HX.out]; rfl
    have Hbp := Lib.hid hbp
    replace hS := hS.next hb
    replace hds := hds.below hb
    replace hes := hes.below hb
    clear hb hv hbp
    go_wp2_with fail
    refine (same_any _ _ _ _ _ _ _ _ _ hps Hbp.out hds Hbd.out (by rw [Hps.out, Hds.out]) (by omega)).mono ?_
    rintro e w5 ⟨rfl, hb⟩
    replace hS := hS.next hb
    replace hds := hds.below hb
    replace hes := hes.below hb
    clear hb hps
    go_wp2_with fail
    refine (add_any _ _ _ _ _ _ _ _ _ hS.2.2.1 hS.2.2.2 (by omega) (by omega)).mono ?_
    rintro e w6 ⟨A4, m4, c4, qs, rfl, hm4, hqs, hbq, hv, hb⟩
    have Hqs : Hid (val qs = X + Y) := by rw [hv, HX.out, HY.out]; rfl
    have Hbq := Lib.hid hbq
    replace hS := hS.next hb
    replace hds := hds.below hb
    replace hes := hes.below hb
    clear hb hv hbq
    go_wp2_with fail
    refine (radd_any _ _ _ _ _ _ _ _ _ hds hes Hbd.out Hbe.out (by omega) (by omega)).mono ?_
    rintro e w7 ⟨A5, m5, c5, fs, rfl, hm5, hfs, hbf, hv, hb⟩
    have Hfs : Hid (D.val fs = X + Y) := by rw [hv, Hds.out, Hes.out]; rfl
    have Hbf := Lib.hid hbf
    replace hS := hS.next hb
    replace hds := hds.below hb
    replace hes := hes.below hb
    replace hqs := hqs.below hb
    clear hb hv hbf
    go_wp2_with fail
    refine (same_any _ _ _ _ _ _ _ _ _ hqs Hbq.out hfs Hbf.out (by rw [Hqs.out, Hfs.out]) (by omega)).mono ?_
    rintro e w8 ⟨rfl, hb⟩
    replace hS := hS.next hb
    replace hds := hds.below hb
    replace hes := hes.below hb
    clear hb hqs hfs
    go_wp2_with fail
    refine (cmp_b x _ _ _ _ _ _ _ _ _ hS.2.2.1 hS.2.2.2 (by omega) (by omega) (by rw [HX.out, HY.out]; exact Hx)).mono ?_
    rintro e w9 ⟨rfl, hb⟩
    replace hS := hS.next hb
    replace hds := hds.below hb
    replace hes := hes.below hb
    clear hb
    go_wp2_with fail
    refine (rcmp_b x _ _ _ _ _ _ _ _ _ hds hes Hbd.out Hbe.out (by omega) (by omega) (by rw [Hds.out, Hes.out]; exact Hx)).mono ?_
    rintro e w10 ⟨rfl, hb⟩
    replace hS := hS.next hb
    replace hds := hds.below hb
    replace hes := hes.below hb
    clear hb
    go_wp2_with fail
  · refine (sub_no _ _ _ _ _ _ _ _ _ hS.2.2.1 hS.2.2.2 (by omega) (by omega) (by rw [HX.out, HY.out]; exact Hlt.out)).mono ?_
    rintro e w11 ⟨rfl, q, hq⟩
    have hb : Below w10.heap.size w10 w11 := by rw [hq]; exact below_drewN (Below.refl _ _) q
    replace hS := hS.next hb
    replace hds := hds.below hb
    replace hes := hes.below hb
    clear hb hq
    go_wp2_with fail
    refine (rcmp_b x _ _ _ _ _ _ _ _ _ hds hes Hbd.out Hbe.out (by omega) (by omega) (by rw [Hds.out, Hes.out]; exact Hx)).mono ?_
    rintro e w12 ⟨rfl, hb⟩
    replace hS := hS.next hb
    clear hb hds hes
    go_wp2
    go_ret
    exact ⟨rfl, hS.1⟩
  all_goals
    refine (sub_any _ _ _ _ _ _ _ _ _ hS.2.2.1 hS.2.2.2 (by omega) (by omega) (by rw [HX.out, HY.out]; exact Hge.out)).mono ?_
    rintro e w11 ⟨A6, m6, c6, rs, rfl, hm6, hrs, hbr, hv, hb⟩
    have Hrs : Hid (val rs = X - Y) := by rw [hv, HX.out, HY.out]; rfl
    have Hbr := Lib.hid hbr
    replace hS := hS.next hb
    replace hds := hds.below hb
    replace hes := hes.below hb
    clear hb hv hbr
    go_wp2_with fail
    refine (rcmp_b x _ _ _ _ _ _ _ _ _ hds hes Hbd.out Hbe.out (by omega) (by omega) (by rw [Hds.out, Hes.out]; exact Hx)).mono ?_
    rintro e w12 ⟨rfl, hb⟩
    replace hS := hS.next hb
    replace hds := hds.below hb
    replace hes := hes.below hb
    replace hrs := hrs.below hb
    clear hb
    go_wp2_with fail
  · refine (small_yes _ _ _ _ _ hS.2.2.1 (by omega) (by rw [HX.out]; exact Hsm.out)).mono ?_
    rintro e w13 ⟨rfl, rfl⟩
    have b5 : decide ((m1 : Int) ≤ 4) = true := by
      have := (dlen_small hds.words Hbd.out hds.len).2 (by rw [Hds.out]; exact Hsm.out)
      simp; omega
    rw [HX.out]
    go_wp2_with fail
    refine (of_any X Hsm.out _).mono ?_
    rintro e w14 ⟨A7, m7, c7, ts, rfl, hm7, hts, hbt, hv, hb⟩
    have Hts := Lib.hid hv
    have Hbt := Lib.hid hbt
    replace hS := hS.next hb
    replace hds := hds.below hb
    replace hes := hes.below hb
    replace hrs := hrs.below hb
    clear hb hv hbt
    go_wp2_with fail
    refine (same_any _ _ _ _ _ _ _ _ _ hts Hbt.out hds Hbd.out (by rw [Hts.out, Hds.out]) (by omega)).mono ?_
    rintro e w15 ⟨rfl, hb⟩
    replace hS := hS.next hb
    replace hds := hds.below hb
    replace hes := hes.below hb
    replace hrs := hrs.below hb
    clear hb hts
    go_wp2_with fail
    refine (rsub_any _ _ _ _ _ _ _ _ _ hds hes Hbe.out (by rw [Hds.out, Hes.out]; exact Hge.out) (by omega) (by omega)).mono ?_
    rintro e w16 ⟨A8, m8, c8, vs, rfl, hm8, hvs, hbv, hv, hb⟩
    have Hvs : Hid (D.val vs = X - Y) := by rw [hv, Hds.out, Hes.out]; rfl
    have Hbv := Lib.hid hbv
    replace hS := hS.next hb
    replace hrs := hrs.below hb
    clear hb hv hbv hds hes
    go_wp2_with fail
    refine (same_any _ _ _ _ _ _ _ _ _ hrs Hbr.out hvs Hbv.out (by rw [Hrs.out, Hvs.out]) (by omega)).mono ?_
    rintro e w17 ⟨rfl, hb⟩
    replace hS := hS.next hb
    clear hb hrs hvs
    go_wp2
    go_ret
    exact ⟨rfl, hS.1⟩
  · refine (small_no _ _ _ _ _ hS.2.2.1 (by omega) (by rw [HX.out]; exact Hbig.out)).mono ?_
    rintro e w13 ⟨rfl, rfl⟩
    have b5 : decide ((m1 : Int) ≤ 4) = false := by
      have : ¬ m1 ≤ 4 := fun h => by
        have h1 := (dlen_small hds.words Hbd.out hds.len).1 h
        rw [Hds.out] at h1
        have h2 := Hbig.out
        omega
      simp; omega
    go_wp2_with fail
    refine (rsub_any _ _ _ _ _ _ _ _ _ hds hes Hbe.out (by rw [Hds.out, Hes.out]; exact Hge.out) (by omega) (by omega)).mono ?_
    rintro e w16 ⟨A8, m8, c8, vs, rfl, hm8, hvs, hbv, hv, hb⟩
    have Hvs : Hid (D.val vs = X - Y) := by rw [hv, Hds.out, Hes.out]; rfl
    have Hbv := Lib.hid hbv
    replace hS := hS.next hb
    replace hrs := hrs.below hb
    clear hb hv hbv hds hes
    go_wp2_with fail
    refine (same_any _ _ _ _ _ _ _ _ _ hrs Hbr.out hvs Hbv.out (by rw [Hrs.out, Hvs.out]) (by omega)).mono ?_
    rintro e w17 ⟨rfl, hb⟩
    replace hS := hS.next hb
    clear hb hrs hvs
    go_wp2
    go_ret
    exact ⟨rfl, hS.1⟩

theorem walk_natSums (A : Option Addr) (n c : Nat) (xs : List Nat) (B : Option Addr) (m d : Nat) (ys : List Nat) (w : World) (hT : Tab w)
    (hA : Lim w A n c xs) (hn : n ≤ 9223372036854775807) (hB : Lim w B m d ys) (hm : m ≤ 9223372036854775807) :
    Calls Tryd.prog 3 #[.slice A n c, .slice B m d] w fun e w' => e = .returned (.bool true) ∧ Below w.heap.size w w' := by
  by_cases h : 60 < n ∨ 60 < m
  · exact sums_far A n c B m d w hT hn hm h
  · exact sums_near A n c xs B m d ys w hT hA hB (by omega) (by omega)
end Go.Proofs.YtoaabceamkeceaaDoor
