/- The walk of the law NatBack. -/
import Derived.Test.YtoaabceamkeceaaDoorLOrder
namespace Go.Proofs.YtoaabceamkeceaaDoor
open Go.RowKit

set_option maxHeartbeats 4000000 in
set_option maxRecDepth 100000 in
theorem back_far (A : Option Addr) (n c : Nat) (B : Option Addr) (m d : Nat) (C : Option Addr) (l f : Nat) (k : Int) (w : World) (hT : Tab w)
    (hn : n ≤ 9223372036854775807) (hm : m ≤ 9223372036854775807) (hl : l ≤ 9223372036854775807) (hfar : 60 < n ∨ 60 < m ∨ 60 < l) :
    Calls Tryd.prog 5 #[.slice A n c, .slice B m d, .slice C l f, .int .u16 k] w fun e w' => e = .returned (.bool true) ∧ Below w.heap.size w w' := by
  have Hal := Lib.hid (alive_any w hT)
  have g : decide ((60 : Int) < (n : Int)) = true ∨ (decide ((60 : Int) < (n : Int)) = false ∧ decide ((60 : Int) < (m : Int)) = true) ∨ (decide ((60 : Int) < (n : Int)) = false ∧ decide ((60 : Int) < (m : Int)) = false ∧ decide ((60 : Int) < (l : Int)) = true) := by
    by_cases h1 : 60 < n
    · exact Or.inl (by simp; omega)
    · by_cases h2 : 60 < m
      · exact Or.inr (Or.inl ⟨by simp; omega, by simp; omega⟩)
      · exact Or.inr (Or.inr ⟨by simp; omega, by simp; omega, by simp; omega⟩)
  clear hfar
  rcases g with b1 | ⟨b1, b2⟩ | ⟨b1, b2, b3⟩
  all_goals
    go_enter Tryd.func5, Tryd.ntmps5
    go_wp2_with fail
    refine Hal.out.mono ?_
    rintro e w1 ⟨rfl, hb⟩
    go_wp2
    go_ret
    exact ⟨rfl, hb⟩

theorem odd_low {X : Nat} (hX : 0 < X) : (low X = 0) ↔ X % 2 = 1 := by
  have := low_lt_iff (n := 1) hX
  constructor
  · intro h; have h1 := this.1 (by omega); omega
  · intro h
    have h1 := this.2 (by omega)
    omega

set_option maxHeartbeats 8000000 in
set_option maxRecDepth 100000 in
theorem back_near (A : Option Addr) (n c : Nat) (xs : List Nat) (B : Option Addr) (m d : Nat) (ys : List Nat) (C : Option Addr) (l f : Nat) (zs : List Nat) (nn kk : Nat) (w : World) (hT : Tab w)
    (hA : Lim w A n c xs) (hB : Lim w B m d ys) (hC : Lim w C l f zs) (hn : n ≤ 60) (hm : m ≤ 60) (hl : l ≤ 60) (hnn : nn ≤ 65535) (hkk : nn % 3000 = kk) :
    Calls Tryd.prog 5 #[.slice A n c, .slice B m d, .slice C l f, .int .u16 (nn : Int)] w fun e w' => e = .returned (.bool true) ∧ Below w.heap.size w w' := by
  have Hal := Lib.hid (alive_any w hT)
  have hS : St w w A n c xs B m d ys C l f zs := ⟨Below.refl _ _, hT, hA, hB, hC⟩
  have ek : (nn : Int) % 3000 = (kk : Int) := by omega
  have hk3 : kk < 3000 := by omega
  have hblx := blen_le_iff.2 (show val xs < 2 ^ (64 * n) by rw [← pw_two, ← hA.len]; exact val_lt hA.words)
  have Hfx : Hid (blen (val xs) + kk ≤ 65536 ∨ val xs = 0) := Or.inl (by omega)
  have Hfq : Hid (blen (val xs / 2 ^ kk) + kk ≤ 65536 ∨ val xs / 2 ^ kk = 0) := Or.inl (by
    have := blen_mono (Nat.div_le_self (val xs) (2 ^ kk)); omega)
  obtain ⟨X, hX⟩ : ∃ X, val xs = X := ⟨_, rfl⟩
  obtain ⟨Y, hY⟩ : ∃ Y, val ys = Y := ⟨_, rfl⟩
  obtain ⟨Z, hZ⟩ : ∃ Z, val zs = Z := ⟨_, rfl⟩
  rw [hX] at Hfx Hfq
  have HX := Lib.hid hX
  have HY := Lib.hid hY
  have HZ := Lib.hid hZ
  have hp : 0 < 2 ^ kk := Nat.pow_pos (by decide)
  obtain ⟨ob, hob⟩ : ∃ ob, decide (X % 2 = 1) = ob := ⟨_, rfl⟩
  obtain ⟨lw, hlw⟩ : ∃ lw, low X = lw := ⟨_, rfl⟩
  have g : (Hid (cmpZ X 0 = 0) ∧ ob = false) ∨ (Hid (cmpZ X 0 = 1) ∧ ((lw : Int) == 0) = ob) := by
    by_cases h0 : X = 0
    · exact Or.inl ⟨cmpZ_eq h0, by rw [← hob, h0]; rfl⟩
    · refine Or.inr ⟨cmpZ_gt (by omega), ?_⟩
      have := odd_low (X := X) (by omega)
      rw [hlw] at this
      rw [← hob]
      by_cases h1 : lw = 0
      · rw [decide_eq_true (this.1 h1)]; exact beq_iff_eq.2 (by omega)
      · rw [decide_eq_false (fun h => h1 (this.2 h))]; exact beq_eq_false_iff_ne.2 (by omega)
  have Hob := Lib.hid hob
  have Hlw := Lib.hid hlw
  have Hrest : Hid (decide (X * 2 ^ kk % 2 ^ kk ≠ 0) = false) := by simp [Hid]
  have Hleft : Hid (blen (X - X / 2 ^ kk * 2 ^ kk) ≤ kk) := blen_le_iff.2 (by
    have := Nat.div_add_mod X (2 ^ kk)
    rw [Nat.mul_comm] at this
    have h2 := Nat.mod_lt X hp
    omega)
  have Hback := Lib.hid (show X / 2 ^ kk * 2 ^ kk ≤ X from Nat.div_mul_le_self X (2 ^ kk))
  have Hp := Lib.hid hp
  have b1 : decide ((60 : Int) < (n : Int)) = false := by simp; omega
  have b2 : decide ((60 : Int) < (m : Int)) = false := by simp; omega
  have b3 : decide ((60 : Int) < (l : Int)) = false := by simp; omega
  clear hX hY hZ hob hlw hA hB hC hT hp hblx hkk
  rcases g with ⟨Hc, g2⟩ | ⟨Hc, g2⟩
  all_goals
    go_enter Tryd.func5, Tryd.ntmps5
    go_wp2_with fail
    refine Hal.out.mono ?_
    rintro e w1 ⟨rfl, hb⟩
    replace hS := hS.next hb
    clear hb
    go_wp2_with fail
    refine (add_any _ _ _ _ _ _ _ _ _ hS.2.2.1 hS.2.2.2.1 (by omega) (by omega)).mono ?_
    rintro e w2 ⟨A1, m1, c1, ss, rfl, hm1, hs, _, hv, hb⟩
    have Hs : Hid (val ss = X + Y) := by rw [hv, HX.out, HY.out]; rfl
    replace hS := hS.next hb
    clear hb hv
    go_wp2_with fail
    refine (sub_any _ _ _ _ _ _ _ _ _ hs hS.2.2.2.1 (by omega) (by omega) (by rw [Hs.out, HY.out]; omega)).mono ?_
    rintro e w3 ⟨A2, m2, c2, dd, rfl, hm2, hd, _, hv, hb⟩
    have Hd : Hid (val dd = X) := by rw [hv, Hs.out, HY.out]; exact Nat.add_sub_cancel _ _
    replace hS := hS.next hb
    replace hs := hs.below hb
    clear hb hv
    go_wp2_with fail
    refine (cmp_b 0 _ _ _ _ _ _ _ _ _ hd hS.2.2.1 (by omega) (by omega) (cmpZ_eq (by rw [Hd.out, HX.out]))).mono ?_
    rintro e w4 ⟨rfl, hb⟩
    replace hS := hS.next hb
    replace hs := hs.below hb
    clear hb hd
    go_wp2_with fail
    refine (add_any _ _ _ _ _ _ _ _ _ hS.2.2.2.1 hS.2.2.1 (by omega) (by omega)).mono ?_
    rintro e w5 ⟨A3, m3, c3, ts, rfl, hm3, ht, _, hv, hb⟩
    have Ht : Hid (val ts = Y + X) := by rw [hv, HX.out, HY.out]; rfl
    replace hS := hS.next hb
    replace hs := hs.below hb
    clear hb hv
    go_wp2_with fail
    refine (cmp_b 0 _ _ _ _ _ _ _ _ _ hs ht (by omega) (by omega) (cmpZ_eq (by rw [Hs.out, Ht.out, Nat.add_comm]))).mono ?_
    rintro e w6 ⟨rfl, hb⟩
    replace hS := hS.next hb
    replace hs := hs.below hb
    clear hb ht
    go_wp2_with fail
    refine (add_any _ _ _ _ _ _ _ _ _ hs hS.2.2.2.2 (by omega) (by omega)).mono ?_
    rintro e w7 ⟨A4, m4, c4, us, rfl, hm4, hu, _, hv, hb⟩
    have Hu : Hid (val us = X + Y + Z) := by rw [hv, Hs.out, HZ.out]; rfl
    replace hS := hS.next hb
    replace hs := hs.below hb
    clear hb hv
    go_wp2_with fail
    refine (add_any _ _ _ _ _ _ _ _ _ hS.2.2.2.1 hS.2.2.2.2 (by omega) (by omega)).mono ?_
    rintro e w8 ⟨A5, m5, c5, vs, rfl, hm5, hvv, _, hv, hb⟩
    have Hvs : Hid (val vs = Y + Z) := by rw [hv, HY.out, HZ.out]; rfl
    replace hS := hS.next hb
    replace hs := hs.below hb
    replace hu := hu.below hb
    clear hb hv
    go_wp2_with fail
    refine (add_any _ _ _ _ _ _ _ _ _ hS.2.2.1 hvv (by omega) (by omega)).mono ?_
    rintro e w9 ⟨A6, m6, c6, ws, rfl, hm6, hw, _, hv, hb⟩
    have Hw : Hid (val ws = X + (Y + Z)) := by rw [hv, HX.out, Hvs.out]; rfl
    replace hS := hS.next hb
    replace hs := hs.below hb
    replace hu := hu.below hb
    clear hb hv hvv
    go_wp2_with fail
    refine (cmp_b 0 _ _ _ _ _ _ _ _ _ hu hw (by omega) (by omega) (cmpZ_eq (by rw [Hu.out, Hw.out, Nat.add_assoc]))).mono ?_
    rintro e w10 ⟨rfl, hb⟩
    replace hS := hS.next hb
    replace hs := hs.below hb
    clear hb hu hw
    obtain ⟨v, hvc⟩ : ∃ v, cmpZ (val ss) (val xs) = v := ⟨_, rfl⟩
    have hv0 : 0 ≤ v := by rw [← hvc]; exact cmpZ_nonneg (by rw [Hs.out, HX.out]; omega)
    have Hvc := Lib.hid hvc
    clear hvc
    go_wp2_with fail
    refine (cmp_b v _ _ _ _ _ _ _ _ _ hs hS.2.2.1 (by omega) (by omega) Hvc).mono ?_
    rintro e w11 ⟨rfl, hb⟩
    replace hS := hS.next hb
    clear hb hs
    go_wp2_with fail
    refine (shl_all _ _ _ _ _ hS.2.2.1 (by omega) kk (by rw [HX.out]; exact Hfx.out)).mono ?_
    rintro e w12 ⟨A7, m7, c7, ls, rfl, hm7, hls, _, hv, hb⟩
    have Hls : Hid (val ls = X * 2 ^ kk) := by rw [hv, HX.out]; rfl
    replace hS := hS.next hb
    clear hb hv
    have h13 := shr_all _ _ _ _ _ hls (by omega) hS.2.1 kk (by omega)
    rw [Int.toNat_natCast, Hls.out, Hrest.out] at h13
    have H13 := Lib.hid h13
    clear h13
    go_wp2_with fail
    refine H13.out.mono ?_
    rintro e w13 ⟨A8, m8, c8, rs, rfl, hm8, hrs, _, hv, hb⟩
    have Hrs : Hid (val rs = X) := by rw [hv]; exact Nat.mul_div_cancel _ Hp.out
    replace hS := hS.next hb
    clear hb hv H13 hls
    go_wp2_with fail
    refine (cmp_b 0 _ _ _ _ _ _ _ _ _ hrs hS.2.2.1 (by omega) (by omega) (cmpZ_eq (by rw [Hrs.out, HX.out]))).mono ?_
    rintro e w14 ⟨rfl, hb⟩
    replace hS := hS.next hb
    clear hb hrs
    go_wp2_with fail
    refine (shr_all _ _ _ _ _ hS.2.2.1 (by omega) hS.2.1 kk (by omega)).mono ?_
    rintro e w15 ⟨A9, m9, c9, qs, rfl, hm9, hqs, _, hv, hb⟩
    have Hqs : Hid (val qs = X / 2 ^ kk) := by rw [hv, HX.out, Int.toNat_natCast]; rfl
    replace hS := hS.next hb
    clear hb hv
    go_wp2_with fail
    refine (shl_all _ _ _ _ _ hqs (by omega) kk (by rw [Hqs.out]; exact Hfq.out)).mono ?_
    rintro e w16 ⟨A10, m10, c10, bs, rfl, hm10, hbs, _, hv, hb⟩
    have Hbs : Hid (val bs = X / 2 ^ kk * 2 ^ kk) := by rw [hv, Hqs.out]; rfl
    replace hS := hS.next hb
    clear hb hv hqs
    go_wp2_with fail
    refine (sub_any _ _ _ _ _ _ _ _ _ hS.2.2.1 hbs (by omega) (by omega) (by rw [Hbs.out, HX.out]; exact Hback.out)).mono ?_
    rintro e w17 ⟨A11, m11, c11, fs, rfl, hm11, hfs, _, hv, hb⟩
    have Hfs : Hid (val fs = X - X / 2 ^ kk * 2 ^ kk) := by rw [hv, HX.out, Hbs.out]; rfl
    replace hS := hS.next hb
    clear hb hv hbs
    obtain ⟨bl, hbl⟩ : ∃ bl, blen (val fs) = bl := ⟨_, rfl⟩
    have hbl2 : bl ≤ kk := by rw [← hbl, Hfs.out]; exact Hleft.out
    have h18 := bits_any _ _ _ _ _ hfs (by omega)
    rw [hbl] at h18
    have H18 := Lib.hid h18
    clear hbl h18
    have b9 : decide (bl ≤ kk) = true := by simp; omega
    go_wp2_with fail
    refine H18.out.mono ?_
    rintro e w18 ⟨rfl, rfl⟩
    clear H18
    have h19 := odd_any _ _ _ _ _ hS.2.2.1 (by omega)
    rw [HX.out, Hob.out] at h19
    have H19 := Lib.hid h19
    clear h19
    go_wp2_with fail
    refine H19.out.mono ?_
    rintro e w19 ⟨rfl, rfl⟩
    clear H19
    go_wp2_with fail
    refine (cmp_b _ _ _ _ _ _ _ _ [] _ hS.2.2.1 (Lim.nil _ _ _) (by omega) (by omega) (by rw [HX.out]; exact Hc)).mono ?_
    rintro e w20 ⟨rfl, hb⟩
    replace hS := hS.next hb
    clear hb
    have h21 := low_any _ _ _ _ _ hS.2.2.1 (by omega) hS.2.1
    rw [HX.out, Hlw.out] at h21
    have H21 := Lib.hid h21
    clear h21
    go_wp2_with fail
    first
      | (refine H21.out.mono ?_
         rintro e w21 ⟨rfl, rfl⟩
         go_wp2)
      | skip
    go_ret
    exact ⟨by simp, hS.1⟩

theorem walk_natBack (A : Option Addr) (n c : Nat) (xs : List Nat) (B : Option Addr) (m d : Nat) (ys : List Nat) (C : Option Addr) (l f : Nat) (zs : List Nat) (k : Int) (w : World) (hT : Tab w)
    (hA : Lim w A n c xs) (hn : n ≤ 9223372036854775807) (hB : Lim w B m d ys) (hm : m ≤ 9223372036854775807) (hC : Lim w C l f zs) (hl : l ≤ 9223372036854775807) (hk0 : 0 ≤ k) (hk : k ≤ 65535) :
    Calls Tryd.prog 5 #[.slice A n c, .slice B m d, .slice C l f, .int .u16 k] w fun e w' => e = .returned (.bool true) ∧ Below w.heap.size w w' := by
  by_cases h : 60 < n ∨ 60 < m ∨ 60 < l
  · exact back_far A n c B m d C l f k w hT hn hm hl h
  · obtain ⟨k, rfl⟩ := Int.eq_ofNat_of_zero_le hk0
    exact back_near A n c xs B m d ys C l f zs k (k % 3000) w hT hA hB hC (by omega) (by omega) (by omega) (by omega) rfl
end Go.Proofs.YtoaabceamkeceaaDoor
