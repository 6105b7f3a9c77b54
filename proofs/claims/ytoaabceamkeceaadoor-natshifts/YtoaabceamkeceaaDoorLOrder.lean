/- The walk of the law NatOrder. -/
import Derived.Test.YtoaabceamkeceaaDoorWAlive
import Derived.Test.YtoaabceamkeceaaDoorWApp
namespace Go.Proofs.YtoaabceamkeceaaDoor
open Go.RowKit

/-- What stands while the law runs: the three numbers that came in, and the table. -/
def St (w w' : World) (A : Option Addr) (n c : Nat) (xs : List Nat) (B : Option Addr) (m d : Nat) (ys : List Nat) (C : Option Addr) (l f : Nat) (zs : List Nat) : Prop :=
  Below w.heap.size w w' ∧ Tab w' ∧ Lim w' A n c xs ∧ Lim w' B m d ys ∧ Lim w' C l f zs
theorem St.next {w w1 w2 : World} {A : Option Addr} {n c : Nat} {xs : List Nat} {B : Option Addr} {m d : Nat} {ys : List Nat} {C : Option Addr} {l f : Nat} {zs : List Nat}
    (h : St w w1 A n c xs B m d ys C l f zs) (hb : Below w1.heap.size w1 w2) : St w w2 A n c xs B m d ys C l f zs :=
  ⟨h.1.trans (hb.mono h.1.size), h.2.1.below hb, h.2.2.1.below hb, h.2.2.2.1.below hb, h.2.2.2.2.below hb⟩

/-- Cmp, with the world behind it a letter. -/
theorem cmp_b (v : Int) (A : Option Addr) (n c : Nat) (xs : List Nat) (B : Option Addr) (m d : Nat) (ys : List Nat) (w : World) (hA : Lim w A n c xs) (hB : Lim w B m d ys) (hn : n ≤ 1099511627776) (hm : m ≤ 1099511627776) (hv : Hid (cmpZ (val xs) (val ys) = v)) :
    Calls Tryd.prog 13 #[.slice A n c, .slice B m d] w fun e w' => e = .returned (.int .i64 v) ∧ Below w.heap.size w w' := by
  rw [← hv.out]
  refine (cmp_any A n c xs B m d ys w hA hB hn hm).mono ?_
  rintro e w' ⟨rfl, q, rfl⟩
  exact ⟨rfl, below_drewN (Below.refl _ _) q⟩

theorem cmpZ_swap (x y : Nat) : cmpZ y x = - cmpZ x y := by
  rcases Nat.lt_trichotomy x y with h | h | h
  · rw [cmpZ_gt h, cmpZ_lt h]; rfl
  · rw [cmpZ_eq h, cmpZ_eq h.symm]; rfl
  · rw [cmpZ_lt h, cmpZ_gt h]
theorem cmpZ_bd (x y : Nat) : -1 ≤ cmpZ x y ∧ cmpZ x y ≤ 1 := by
  rcases Nat.lt_trichotomy x y with h | h | h
  · rw [cmpZ_lt h]; decide
  · rw [cmpZ_eq h]; decide
  · rw [cmpZ_gt h]; decide
theorem cmpZ_le {x y : Nat} (h : cmpZ x y ≤ 0) : x ≤ y := by
  rcases Nat.lt_or_ge y x with h' | h'
  · rw [cmpZ_gt h'] at h; omega
  · exact h'
theorem le_cmpZ {x y : Nat} (h : x ≤ y) : cmpZ x y ≤ 0 := by
  rcases Nat.lt_or_ge x y with h' | h'
  · rw [cmpZ_lt h']; decide
  · rw [cmpZ_eq (by omega)]; decide
theorem cmpZ_mul {x y p : Nat} (hp : 0 < p) : cmpZ (x * p) (y * p) = cmpZ x y := by
  rcases Nat.lt_trichotomy x y with h | h | h
  · rw [cmpZ_lt h, cmpZ_lt (Nat.mul_lt_mul_of_pos_right h hp)]
  · rw [cmpZ_eq h, cmpZ_eq (by rw [h])]
  · rw [cmpZ_gt h, cmpZ_gt (Nat.mul_lt_mul_of_pos_right h hp)]

/-- append([]uint64{}, a...), as the walk meets it. -/
theorem app_one (A : Option Addr) (n c : Nat) (xs : List Nat) (w : World) (hA : Lim w A n c xs) (hn : n ≤ 1000000) :
    ∃ A1 c1 w', (Builtin.append_ #[22, 22] 22 #[.slice (some ⟨w.heap.size, 0, none⟩) 0 0, .slice A n c]).run Tryd.prog (w.alloc (.cells #[] 35)) = .ok (.slice A1 n c1) w' ∧
      Below w.heap.size w w' ∧ Own .u64 35 w' w.heap.size (.slice A1 n c1) xs := by
  have hb : Below w.heap.size w (w.alloc (.cells #[] 35)) := (Below.refl _ _).alloc (Nat.le_refl _) _
  have hown : Own .u64 35 (w.alloc (.cells #[] 35)) w.heap.size (.slice (some ⟨w.heap.size, 0, none⟩) 0 0) [] :=
    ⟨rfl, Or.inr ⟨w.heap.size, 0, #[], rfl, Nat.le_refl _, heap_alloc_new w _, Nat.le_refl _, Nat.zero_le _, rfl, rfl⟩⟩
  obtain ⟨v', w', hrun, ho, hb'⟩ := run_app (P := Tryd.prog) (T := 22) (ty := 22) Tryd.underlying22 info64 hown (hA.below hb).toRow hb.size (by simp; omega) (by simp; omega)
  rw [List.nil_append] at ho
  obtain ⟨A1, c1, rfl, hr⟩ := ho.row
  rw [hA.len] at hrun ho
  exact ⟨A1, c1, w', hrun, hb.trans hb', ho⟩
/-- .. and two noughts behind it. -/
theorem app_two (w w6 : World) (A1 : Option Addr) (n c1 : Nat) (xs : List Nat) (hw : Words xs) (hb : Below w.heap.size w w6) (hown : Own .u64 35 w6 w.heap.size (.slice A1 n c1) xs) (hn : n ≤ 1000000) :
    ∃ A2 c2 w', (Builtin.append_ #[22, 22] 22 #[.slice A1 n c1, .slice (some ⟨w6.heap.size, 0, none⟩) 2 2]).run Tryd.prog (w6.alloc (.cells #[.int .u64 0, .int .u64 0] 35)) = .ok (.slice A2 (n + 2) c2) w' ∧
      Below w.heap.size w w' ∧ Lim w' A2 (n + 2) c2 (xs ++ [0, 0]) := by
  obtain ⟨_, _, e, hr0⟩ := hown.row
  injection e with _ e _
  have hb2 : Below w6.heap.size w6 (w6.alloc (.cells #[.int .u64 0, .int .u64 0] 35)) := (Below.refl _ _).alloc (Nat.le_refl _) _
  obtain ⟨v', w', hrun, ho, hb'⟩ := run_app (P := Tryd.prog) (T := 22) (ty := 22) Tryd.underlying22 info64 (hown.keep hb2) (lim_new2 w6 35 0 0 0 0 rfl rfl (by decide) (by decide)).toRow (Nat.le_trans hb.size hb2.size) (by rw [← e]; omega) (by rw [← e]; omega)
  obtain ⟨A2, c2, rfl, hr⟩ := ho.row
  have el : (xs ++ [0, 0]).length = n + 2 := by simp [← e]
  rw [el] at hrun hr
  exact ⟨A2, c2, w', hrun, (hb.trans (hb2.mono hb.size)).trans hb', hr.toLim (hw.append (Words.cons (by decide) (Words.one (by decide))))⟩

set_option maxHeartbeats 4000000 in
theorem order_far (A : Option Addr) (n c : Nat) (B : Option Addr) (m d : Nat) (C : Option Addr) (l f : Nat) (k : Int) (w : World) (hT : Tab w)
    (hn : n ≤ 9223372036854775807) (hm : m ≤ 9223372036854775807) (hl : l ≤ 9223372036854775807) (hfar : 60 < n ∨ 60 < m ∨ 60 < l) :
    Calls Tryd.prog 6 #[.slice A n c, .slice B m d, .slice C l f, .int .u8 k] w fun e w' => e = .returned (.bool true) ∧ Below w.heap.size w w' := by
  have Hal := Lib.hid (alive_any w hT)
  by_cases h1 : 60 < n
  · have b1 : decide ((60 : Int) < (n : Int)) = true := by simp; omega
    clear hfar
    go_enter Tryd.func6, Tryd.ntmps6
    go_wp2_with fail
    refine Hal.out.mono ?_
    rintro e w1 ⟨rfl, hb⟩
    go_wp2
    go_ret
    exact ⟨rfl, hb⟩
  · have b1 : decide ((60 : Int) < (n : Int)) = false := by simp; omega
    by_cases h2 : 60 < m
    · have b2 : decide ((60 : Int) < (m : Int)) = true := by simp; omega
      clear hfar
      go_enter Tryd.func6, Tryd.ntmps6
      go_wp2_with fail
      refine Hal.out.mono ?_
      rintro e w1 ⟨rfl, hb⟩
      go_wp2
      go_ret
      exact ⟨rfl, hb⟩
    · have b2 : decide ((60 : Int) < (m : Int)) = false := by simp; omega
      have b3 : decide ((60 : Int) < (l : Int)) = true := by simp; omega
      clear hfar
      go_enter Tryd.func6, Tryd.ntmps6
      go_wp2_with fail
      refine Hal.out.mono ?_
      rintro e w1 ⟨rfl, hb⟩
      go_wp2
      go_ret
      exact ⟨rfl, hb⟩

set_option maxHeartbeats 4000000 in
set_option maxRecDepth 100000 in
theorem order_near (A : Option Addr) (n c : Nat) (xs : List Nat) (B : Option Addr) (m d : Nat) (ys : List Nat) (C : Option Addr) (l f : Nat) (zs : List Nat) (k : Nat) (w : World) (hT : Tab w)
    (hA : Lim w A n c xs) (hB : Lim w B m d ys) (hC : Lim w C l f zs) (hn : n ≤ 60) (hm : m ≤ 60) (hl : l ≤ 60) (hk : k ≤ 255) :
    Calls Tryd.prog 6 #[.slice A n c, .slice B m d, .slice C l f, .int .u8 (k : Int)] w fun e w' => e = .returned (.bool true) ∧ Below w.heap.size w w' := by
  have Hal := Lib.hid (alive_any w hT)
  have hS : St w w A n c xs B m d ys C l f zs := ⟨Below.refl _ _, hT, hA, hB, hC⟩
  obtain ⟨x, hx⟩ : ∃ x, cmpZ (val xs) (val ys) = x := ⟨_, rfl⟩
  obtain ⟨y, hy⟩ : ∃ y, cmpZ (val ys) (val zs) = y := ⟨_, rfl⟩
  obtain ⟨z, hz⟩ : ∃ z, cmpZ (val xs) (val zs) = z := ⟨_, rfl⟩
  have hxb := cmpZ_bd (val xs) (val ys)
  rw [hx] at hxb
  obtain ⟨hxb1, hxb2⟩ := hxb
  have hxyz : x ≤ 0 → y ≤ 0 → z ≤ 0 := fun h1 h2 => by
    rw [← hx] at h1; rw [← hy] at h2; rw [← hz]
    exact le_cmpZ (Nat.le_trans (cmpZ_le h1) (cmpZ_le h2))
  have Hx := Lib.hid hx
  have Hy := Lib.hid hy
  have Hz := Lib.hid hz
  have Hx' : Hid (cmpZ (val ys) (val xs) = -x) := by rw [cmpZ_swap, Hx.out]; rfl
  clear hx hy hz hA hB hC hT
  have b1 : decide ((60 : Int) < (n : Int)) = false := by simp; omega
  have b2 : decide ((60 : Int) < (m : Int)) = false := by simp; omega
  have b3 : decide ((60 : Int) < (l : Int)) = false := by simp; omega
  have g : decide (x ≤ 0) = false ∨ (decide (x ≤ 0) = true ∧ decide (y ≤ 0) = false) ∨ (decide (x ≤ 0) = true ∧ decide (y ≤ 0) = true ∧ decide (0 < z) = false) := by
    by_cases h1 : x ≤ 0
    · by_cases h2 : y ≤ 0
      · exact Or.inr (Or.inr ⟨by simpa using h1, by simpa using h2, by have := hxyz h1 h2; simpa using this⟩)
      · exact Or.inr (Or.inl ⟨by simpa using h1, by simpa using h2⟩)
    · exact Or.inl (by simpa using h1)
  clear hxyz
  have Hxx : Hid (cmpZ (val xs) (val (xs ++ [0, 0])) = 0) := cmpZ_eq (by rw [val_append]; simp [val])
  have Hfx : Hid (blen (val xs) + k ≤ 65536 ∨ val xs = 0) := by
    have := blen_le_iff.2 (show val xs < 2 ^ (64 * n) by rw [← pw_two, ← hS.2.2.1.len]; exact val_lt hS.2.2.1.words)
    exact Or.inl (by omega)
  have Hfy : Hid (blen (val ys) + k ≤ 65536 ∨ val ys = 0) := by
    have := blen_le_iff.2 (show val ys < 2 ^ (64 * m) by rw [← pw_two, ← hS.2.2.2.1.len]; exact val_lt hS.2.2.2.1.words)
    exact Or.inl (by omega)
  have Hbits := Lib.hid (fun W hW => bits_any A n c xs W hW (by omega))
  have hbs : blen (val xs) ≤ 64 ↔ val xs < 18446744073709551616 := blen_le_iff
  generalize blen (val xs) = bl at hbs Hbits
  have g' : (Hid (val xs < 18446744073709551616) ∧ decide ((bl : Int) ≤ 64) = true) ∨ (Hid (18446744073709551616 ≤ val xs) ∧ decide ((bl : Int) ≤ 64) = false) := by
    by_cases h : val xs < 18446744073709551616
    · exact Or.inl ⟨h, by have := hbs.2 h; simp; omega⟩
    · exact Or.inr ⟨Nat.le_of_not_lt h, by have := Nat.lt_of_not_le (fun h' => h (hbs.1 h')); simp; omega⟩
  clear hbs
  have g4 : decide (0 < x) = !decide (x ≤ 0) := by
    by_cases h : x ≤ 0
    · rw [decide_eq_true h, decide_eq_false (by omega)]; rfl
    · rw [decide_eq_false h, decide_eq_true (by omega)]; rfl
  rcases g with g1 | ⟨g1, g2⟩ | ⟨g1, g2, g3⟩ <;> rcases g' with ⟨Hs, g6⟩ | ⟨Hs, g6⟩ <;> rw [g1] at g4
  all_goals
    go_enter Tryd.func6, Tryd.ntmps6
    go_wp2_with fail
    refine Hal.out.mono ?_
    rintro e w1 ⟨rfl, hb⟩
    replace hS := hS.next hb
    clear hb
    go_wp2_with fail
    refine (cmp_b x _ _ _ _ _ _ _ _ _ hS.2.2.1 hS.2.2.2.1 (by omega) (by omega) Hx).mono ?_
    rintro e w2 ⟨rfl, hb⟩
    replace hS := hS.next hb
    clear hb
    go_wp2_with fail
    refine (cmp_b y _ _ _ _ _ _ _ _ _ hS.2.2.2.1 hS.2.2.2.2 (by omega) (by omega) Hy).mono ?_
    rintro e w3 ⟨rfl, hb⟩
    replace hS := hS.next hb
    clear hb
    go_wp2_with fail
    refine (cmp_b z _ _ _ _ _ _ _ _ _ hS.2.2.1 hS.2.2.2.2 (by omega) (by omega) Hz).mono ?_
    rintro e w4 ⟨rfl, hb⟩
    replace hS := hS.next hb
    clear hb
    go_wp2_with fail
    refine (cmp_b (-x) _ _ _ _ _ _ _ _ _ hS.2.2.2.1 hS.2.2.1 (by omega) (by omega) Hx').mono ?_
    rintro e w5 ⟨rfl, hb⟩
    replace hS := hS.next hb
    clear hb
    obtain ⟨A1, c1, w6, hrun1, hb6, hown1⟩ := app_one A n c xs w5 hS.2.2.1 (by omega)
    obtain ⟨A2, c2, w7, hrun2, hb7, hlim7⟩ := app_two w5 w6 A1 n c1 xs hS.2.2.1.words hb6 hown1 (by omega)
    replace hS := hS.next hb7
    clear hb6 hb7
    have Hown1 := Lib.hid hown1
    clear hown1
    have Hrun1 := Lib.hid hrun1
    have Hrun2 := Lib.hid hrun2
    clear hrun1 hrun2
    go_wp2_with (first
      | (at_builtin; refine wpList_app (s := .tmp 66) (x := .tmp 67) (by rfl) rfl rfl rfl Hrun1.out ?_)
      | (at_builtin; refine wpList_app (s := .tmp 68) (x := .tmp 69) (by rfl) rfl rfl rfl Hrun2.out ?_)
      | fail)
    refine (cmp_b 0 _ _ _ _ _ _ _ _ _ hS.2.2.1 hlim7 (by omega) (by omega) Hxx).mono ?_
    rintro e w8 ⟨rfl, hb⟩
    replace hS := hS.next hb
    clear hb hlim7 Hown1 Hrun1 Hrun2
    go_wp2_with fail
    refine (shl_all _ _ _ _ _ hS.2.2.1 (by omega) k Hfx.out).mono ?_
    rintro e w9 ⟨P1, m1, c3, ps, rfl, hm1, hp, _, hvp, hb⟩
    have Hvp := Lib.hid hvp
    replace hS := hS.next hb
    clear hb hvp
    go_wp2_with fail
    refine (shl_all _ _ _ _ _ hS.2.2.2.1 (by omega) k Hfy.out).mono ?_
    rintro e w10 ⟨P2, m2, c4, qs, rfl, hm2, hq, _, hvq, hb⟩
    have Hvq := Lib.hid hvq
    replace hS := hS.next hb
    replace hp := hp.below hb
    clear hb hvq
    go_wp2_with fail
    refine (shr_all _ _ _ _ _ hS.2.2.1 (by omega) hS.2.1 k (by omega)).mono ?_
    rintro e w11 ⟨P3, m3, c5, rs, rfl, hm3, hr, _, hvr, hb⟩
    have Hvr := Lib.hid hvr
    replace hS := hS.next hb
    replace hp := hp.below hb
    replace hq := hq.below hb
    clear hb hvr
    go_wp2_with fail
    refine (shr_all _ _ _ _ _ hS.2.2.2.1 (by omega) hS.2.1 k (by omega)).mono ?_
    rintro e w12 ⟨P4, m4, c6, ss, rfl, hm4, hs, _, hvs, hb⟩
    have Hvs := Lib.hid hvs
    replace hS := hS.next hb
    replace hp := hp.below hb
    replace hq := hq.below hb
    replace hr := hr.below hb
    clear hb hvs
    go_wp2_with fail
    first
      | refine (small_yes _ _ _ _ _ hS.2.2.1 (by omega) Hs.out).mono ?_
      | refine (small_no _ _ _ _ _ hS.2.2.1 (by omega) Hs.out).mono ?_
    rintro e w13 ⟨rfl, rfl⟩
    go_wp2_with fail
    refine (cmp_b x _ _ _ _ _ _ _ _ _ hp hq (by omega) (by omega) (by show cmpZ (val ps) (val qs) = x; rw [Hvp.out, Hvq.out, cmpZ_mul (Nat.pow_pos (by decide))]; exact Hx.out)).mono ?_
    rintro e w14 ⟨rfl, hb⟩
    replace hS := hS.next hb
    replace hr := hr.below hb
    replace hs := hs.below hb
    clear hb hp hq
    obtain ⟨v, hv⟩ : ∃ v, cmpZ (val rs) (val ss) = v := ⟨_, rfl⟩
    have hv0 : decide (x ≤ 0) = true → decide (v ≤ 0) = true := fun h => by
      rw [← hv, Hvr.out, Hvs.out]
      have h1 : x ≤ 0 := by simpa using h
      rw [← Hx.out] at h1
      have h2 : val xs / 2 ^ (k : Int).toNat ≤ val ys / 2 ^ (k : Int).toNat := Nat.div_le_div_right (cmpZ_le h1)
      simpa using le_cmpZ h2
    have Hv := Lib.hid hv
    have Hv0 := Lib.hid hv0
    clear hv hv0
    first
      | (have g5 := Hv0.out g1
         go_wp2_with fail
         refine (cmp_b v _ _ _ _ _ _ _ _ _ hr hs (by omega) (by omega) Hv).mono ?_
         rintro e w15 ⟨rfl, hb⟩
         replace hS := hS.next hb
         clear hb hr hs
         go_wp2_with fail)
      | go_wp2_with fail
    first
      | (refine (of_any (val xs) Hs.out _).mono ?_
         rintro e w16 ⟨P5, m5, c7, us, rfl, hm5, hu, _, hvu, hb⟩
         have Hvu := Lib.hid hvu
         replace hS := hS.next hb
         clear hb hvu
         go_wp2_with fail
         refine (cmp_b 0 _ _ _ _ _ _ _ _ _ hu hS.2.2.1 (by omega) (by omega) (by show cmpZ (val us) (val xs) = 0; exact cmpZ_eq Hvu.out)).mono ?_
         rintro e w17 ⟨rfl, hb⟩
         replace hS := hS.next hb
         clear hb hu
         go_wp2_with fail
         refine (Hbits.out _ hS.2.2.1).mono ?_
         rintro e w18 ⟨rfl, rfl⟩)
      | (refine (Hbits.out _ hS.2.2.1).mono ?_
         rintro e w18 ⟨rfl, rfl⟩)
    go_wp2
    go_ret
    exact ⟨rfl, hS.1⟩

theorem walk_natOrder (A : Option Addr) (n c : Nat) (xs : List Nat) (B : Option Addr) (m d : Nat) (ys : List Nat) (C : Option Addr) (l f : Nat) (zs : List Nat) (k : Int) (w : World) (hT : Tab w)
    (hA : Lim w A n c xs) (hn : n ≤ 9223372036854775807) (hB : Lim w B m d ys) (hm : m ≤ 9223372036854775807) (hC : Lim w C l f zs) (hl : l ≤ 9223372036854775807) (hk0 : 0 ≤ k) (hk : k ≤ 255) :
    Calls Tryd.prog 6 #[.slice A n c, .slice B m d, .slice C l f, .int .u8 k] w fun e w' => e = .returned (.bool true) ∧ Below w.heap.size w w' := by
  by_cases h : 60 < n ∨ 60 < m ∨ 60 < l
  · exact order_far A n c B m d C l f k w hT hn hm hl h
  · obtain ⟨k, rfl⟩ := Int.eq_ofNat_of_zero_le hk0
    exact order_near A n c xs B m d ys C l f zs k w hT hA hB hC (by omega) (by omega) (by omega) (by omega)
end Go.Proofs.YtoaabceamkeceaaDoor
