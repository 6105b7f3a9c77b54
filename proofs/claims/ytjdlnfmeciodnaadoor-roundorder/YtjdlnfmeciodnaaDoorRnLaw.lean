/- What the laws of layer 7 call: alive, value; slices.Clone and dyad.Minus of a dyad that can't be bare. -/
import Derived.Test.YtjdlnfmeciodnaaDoorRnOrd
import Derived.Test.YtjdlnfmeciodnaaDoorDyMul
namespace Go.Proofs.YtjdlnfmeciodnaaDoor
open Go.RowKit

theorem to_one : toR false (val [9007199254740993]) 0 false 0 = (4845873199050653696, 1, 0) := by
  have hl : low 9007199254740993 = 0 := low_eq (l := 0) (m := 4503599627370496) (by decide)
  have hv : val [9007199254740993] = 9007199254740993 := by decide
  have hm : mk false 9007199254740993 0 = some ⟨false, 9007199254740993, 0⟩ := by
    unfold mk; rw [hl]; rfl
  have hr : rndO false 9007199254740993 0 false 0 = (4845873199050653696, 1) := by decide +kernel
  rw [hv, toR_some (by decide) hm (by decide), hr]
theorem to_none : toR false (val []) 0 true 0 = (0, 0, 1) := by decide

theorem ralive_any (w : World) (hT : Tab w) : Calls Tryd.prog 6 #[] w fun e w' => e = .returned (.bool true) ∧ Below w.heap.size w w' := by
  have a3 := below1 w (.cells #[.int .u64 9007199254740993] 30)
  have n1 := lim_new1 w 30 9007199254740993 9007199254740993 rfl (by decide)
  have H1 := Lib.hid (to_l 4845873199050653696 1 0 false _ 1 1 [9007199254740993] 0 false 0 _ n1 (by decide) (hT.below a3) to_one)
  have HS := Lib.hid a3
  have HT := Lib.hid (hT.below a3)
  clear a3 n1 hT
  go_enter Tryd.func6, Tryd.ntmps6
  go_wp2_with fail
  refine H1.out.mono ?_
  rintro e w1 ⟨rfl, hb⟩
  have HS1 := Lib.hid (HS.out.trans (hb.mono HS.out.size))
  have H2 := Lib.hid (to_l 0 0 1 false none 0 0 [] 0 true 0 w1 (Lim.nil _ _ _) (by decide) (HT.out.below hb) to_none)
  clear hb HS HT H1
  go_wp2_with fail
  refine H2.out.mono ?_
  rintro e w2 ⟨rfl, hb⟩
  have Hfin := Lib.hid (HS1.out.trans (hb.mono HS1.out.size))
  clear hb HS1 H2
  go_wp2
  go_ret
  exact ⟨rfl, Hfin.out⟩

theorem sign_off (x : Nat) (hx : x < 18446744073709551616) : bits .andNot .u64 (x : Int) 9223372036854775808 = ((x % 9223372036854775808 : Nat) : Int) := by
  show IntKind.u64.wrap ((BitVec.ofInt 64 (x : Int) &&& ~~~BitVec.ofInt 64 ((9223372036854775808 : Nat) : Int)).toNat : Int) = _
  have h1 : (BitVec.ofInt 64 (x : Int)).toNat = x := by
    rw [BitVec.ofInt_natCast, BitVec.toNat_ofNat]; exact Nat.mod_eq_of_lt (by omega)
  have h2 : (BitVec.ofInt 64 ((9223372036854775808 : Nat) : Int)).toNat = 9223372036854775808 := by
    rw [BitVec.ofInt_natCast, BitVec.toNat_ofNat]
  rw [BitVec.toNat_and, BitVec.toNat_not, h1, h2, show 2 ^ 64 - 1 - 9223372036854775808 = 2 ^ 63 - 1 from by decide, Nat.and_two_pow_sub_one_eq_mod, IntKind.wrap_u64]
  omega
theorem value_l (v : Int) (x : Nat) (hx : x < 18446744073709551616) (hi : x % 9223372036854775808 ≤ 9223372036854775807) (w : World) (hv : Hid (rv x = v)) :
    Calls Tryd.prog 12 #[.int .u64 (x : Int)] w fun e w' => e = .returned (.int .i64 v) ∧ w = w' := by
  have h := hv.out
  unfold rv at h
  obtain ⟨s, hs⟩ : ∃ s, fng x = s := ⟨_, rfl⟩
  have Hs := Lib.hid hs
  rw [hs] at h
  cases s with
  | false =>
    have hx2 : x < 9223372036854775808 := by
      have := of_decide_eq_false hs
      omega
    obtain rfl : (x : Int) = v := h
    clear hv hs hi
    go_enter Tryd.func12, Tryd.ntmps12
    go_wp2_with fail
    refine (fneg_l false x hx w Hs).mono ?_
    rintro e w' ⟨rfl, rfl⟩
    go_wp2
    go_ret
    exact ⟨rfl, rfl⟩
  | true =>
    have ho := sign_off x hx
    obtain ⟨P, hP⟩ : ∃ P, x % 9223372036854775808 = P := ⟨_, rfl⟩
    rw [hP] at ho h hi
    obtain rfl : -(P : Int) = v := h
    clear hv hs hP
    go_enter Tryd.func12, Tryd.ntmps12
    go_wp2_with fail
    refine (fneg_l true x hx w Hs).mono ?_
    rintro e w' ⟨rfl, rfl⟩
    go_wp2
    go_ret
    exact ⟨rfl, rfl⟩

theorem app_copy64 (w : World) (A : Option Addr) (n c : Nat) (ds : List Nat) (hA : Row .u64 w A n c ds) (hn : n ≤ 1000000000) :
    ∃ A' c' w', (Builtin.append_ #[22, 22] 22 #[.slice (some ⟨w.heap.size, 0, none⟩) 0 0, .slice A n c]).run Tryd.prog (w.alloc (.cells #[] 30)) = .ok (.slice A' n c') w' ∧
      Row .u64 w' A' n c' ds ∧ Below w.heap.size w w' := by
  have hb : Below w.heap.size w (w.alloc (.cells #[] 30)) := (Below.refl _ _).alloc (Nat.le_refl _) _
  have hown : Own .u64 30 (w.alloc (.cells #[] 30)) w.heap.size (.slice (some ⟨w.heap.size, 0, none⟩) 0 0) [] :=
    ⟨rfl, Or.inr ⟨w.heap.size, 0, #[], rfl, Nat.le_refl _, heap_alloc_new w _, Nat.le_refl _, Nat.zero_le _, rfl, rfl⟩⟩
  obtain ⟨v', w', hrun, ho, hb'⟩ := run_app (P := Tryd.prog) (T := 22) (ty := 22) Tryd.underlying22 info64 hown (hA.below hb) hb.size (by simp; omega) (by simp; omega)
  rw [List.nil_append] at ho
  obtain ⟨A1, c1, rfl, hr⟩ := ho.row
  rw [hA.len] at hrun hr
  exact ⟨A1, c1, w', hrun, hr, hb.trans hb'⟩
set_option maxRecDepth 20000 in
theorem clone_l (A : Option Addr) (n c : Nat) (xs : List Nat) (w : World) (hA : Lim w A n c xs) (hn : n ≤ 1000000) :
    Calls Tryd.prog 31 #[.slice A n c] w fun e w' => ∃ A' c', e = .returned (.slice A' n c') ∧ Lim w' A' n c' xs ∧ Below w.heap.size w w' := by
  cases A with
  | none =>
    obtain rfl : n = 0 := by
      rcases Nat.eq_zero_or_pos n with h | h
      · exact h
      · obtain ⟨b, o, e, _⟩ := hA.at_ h; cases e
    obtain rfl : xs = [] := List.eq_nil_of_length_eq_zero hA.len
    have Hfin : Hid (Lim w none 0 0 [] ∧ Below w.heap.size w w) := ⟨Lim.nil _ _ _, Below.refl _ _⟩
    have he : ∀ w : World, (binOp .eql 22 (.slice none 0 c) (.slice none 0 0)).run Tryd.prog w = .ok (.bool true) w := fun _ => rfl
    clear hA
    go_enter Tryd.func31, Tryd.ntmps31
    go_wp2
    go_ret
    exact ⟨none, 0, rfl, Hfin.out⟩
  | some ad =>
    obtain ⟨A', c', w', hrun, hr, hb⟩ := app_copy64 w (some ad) n c xs hA.toRow (by omega)
    have Hrun := Lib.hid hrun
    have Hfin : Hid (Lim w' A' n c' xs ∧ Below w.heap.size w w') := ⟨hr.toLim hA.words, hb⟩
    have he : ∀ w : World, (binOp .eql 22 (.slice (some ad) n c) (.slice none 0 0)).run Tryd.prog w = .ok (.bool false) w := fun _ => rfl
    clear hrun hr hb hA
    go_enter Tryd.func31, Tryd.ntmps31
    go_wp2_with (at_builtin; refine wpList_app (s := .tmp 5) (x := .tmp 6) (by rfl) rfl rfl rfl Hrun.out ?_)
    go_ret
    exact ⟨A', c', rfl, Hfin.out⟩

/-- Minus of a dyad that can't be bare: with the other sign, else as it was. -/
theorem minus_no (g : Bool) (A : Option Addr) (n c : Nat) (xs : List Nat) (e1 : Int) (w : World) (hA : Lim w A n c xs) (hn : n ≤ 1000000) (hT : Tab w) (ho : Hid (mk (!g) (val xs) e1 = none)) :
    Calls Tryd.prog 11 #[.agg #[.bool g, .slice A n c, .int .i64 e1]] w fun e w' => ∃ A' c', e = .returned (.agg #[.bool (!g), .slice A' n c', .int .i64 e1]) ∧ Lim w' A' n c' xs ∧ Below w.heap.size w w' := by
  have a3 : Below w.heap.size w ((w.alloc (.cells #[.bool g, .slice A n c, .int .i64 e1] 35)).alloc (.cells #[.bool false, .slice none 0 0, .int .i64 0] 35)) := ((Below.refl _ _).alloc (Nat.le_refl _) _).alloc (by simp) _
  have H1 := Lib.hid (make_any (!g) A n c xs e1 _ (hA.below a3) (by omega) (hT.below a3))
  have b1 := (Bd.new w 35 g A n c e1).alloc (.cells #[.bool false, .slice none 0 0, .int .i64 0] 35)
  have b2 := Bd.new (w.alloc (.cells #[.bool g, .slice A n c, .int .i64 e1] 35)) 35 false none 0 0 0
  rw [World.size_alloc] at b2
  have Hb1 := Lib.hid b1
  have Hb2 := Lib.hid b2
  have HS := Lib.hid a3
  have HL := Lib.hid (hA.below a3)
  rw [ho.out] at H1
  clear hA a3 b1 b2 hT ho
  go_enter Tryd.func11, Tryd.ntmps11
  go_wp2_with fail
  refine H1.out.mono ?_
  rintro e w1 ⟨g1, A1, m1, c1, zs, E1, r1, rfl, hm1, hl1, hb1, ⟨rfl, rfl, hz, rfl⟩, hB1⟩
  have a4 := below1 w1 (.cells #[.bool false, .slice A1 m1 c1, .int .i64 0] 35)
  have hB2 := hB1.trans (a4.mono hB1.size)
  have k1 := Hb1.out.below hB2
  have k2 := Hb2.out.below hB2
  have HL2 := Lib.hid (HL.out.below hB2)
  have HS2 := Lib.hid (HS.out.trans (hB2.mono HS.out.size))
  have K0 : Hid ((w1.alloc (.cells #[.bool false, .slice A1 m1 c1, .int .i64 0] 35)).drew.cell? ⟨w.heap.size, 0, none⟩ = some (.bool g) ∧ (w1.alloc (.cells #[.bool false, .slice A1 m1 c1, .int .i64 0] 35)).drew.cell? ⟨w.heap.size, 1, none⟩ = some (.slice A n c) ∧ (w1.alloc (.cells #[.bool false, .slice A1 m1 c1, .int .i64 0] 35)).drew.cell? ⟨w.heap.size, 2, none⟩ = some (.int .i64 e1)) := ⟨k1.drew.c0, k1.drew.c1, k1.drew.c2⟩
  have Hk1 := Lib.hid k1
  have Hk2 := Lib.hid k2
  clear k1 k2 a4 hB1 hB2 hl1 hb1 hz H1 Hb1 Hb2 HS HL
  go_wp2_with fail
  go_region_held3 (fun w' => w'.cell? ⟨w.heap.size, 0, none⟩ = some (.bool g) ∧ w'.cell? ⟨w.heap.size, 1, none⟩ = some (.slice A n c) ∧ w'.cell? ⟨w.heap.size, 2, none⟩ = some (.int .i64 e1))
    (first | (with_reducible exact K0.out) | (with_reducible exact K1.out) | (with_reducible exact K2.out))
    (first | (go_at_call 31; (with_reducible refine (clone_l A n c xs _ HL2.out.drew hn).mono ?_); rintro e w2 ⟨A2, c2, rfl, hl2, hB3⟩; have j1 := Hk1.out.drew.below hB3; have j2 := Hk2.out.drew.below hB3; have K1 : Hid (w2.cell? ⟨w.heap.size, 0, none⟩ = some (.bool g) ∧ w2.cell? ⟨w.heap.size, 1, none⟩ = some (.slice A n c) ∧ w2.cell? ⟨w.heap.size, 2, none⟩ = some (.int .i64 e1)) := ⟨j1.c0, j1.c1, j1.c2⟩; have j3 := j1.other (b' := w.heap.size + 1) (by omega) (!g) A2 n c2 e1; have K2 := Lib.hid (And.intro j3.c0 (And.intro j3.c1 j3.c2)); have Hfin : Hid (Lim (World.put w2 (w.heap.size + 1) (!g) A2 n c2 e1) A2 n c2 xs ∧ Below w.heap.size w (World.put w2 (w.heap.size + 1) (!g) A2 n c2 e1)) := ⟨j2.lim hl2 _ _ _ _ _, below_put (HS2.out.trans (((Below.refl _ _).drew.trans (hB3.mono (Nat.le_refl _))).mono HS2.out.size)) (by omega) _ _ _ _ _⟩; have y0 := j2.c0; have y1 := j2.c1; have y2 := j2.c2; have yf := j2.fz; clear j1 j2 j3 hB3 hl2))
  all_goals (
    go_wp2_with fail
    exact bodyPost_ret (v := .agg #[.bool (!g), .slice A2 n c2, .int .i64 e1]) (by simp [results, Tryd.results11, go_sem, y0, y1, y2]) rfl ⟨A2, c2, rfl, Hfin.out⟩)
end Go.Proofs.YtjdlnfmeciodnaaDoor
