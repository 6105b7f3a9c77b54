/- The walk of exact.number. -/
import Derived.Test.YtmmeejofepmgaaaGreatDoorExExp
namespace Go.Proofs.YtmmeejofepmgaaaGreatDoor
open Go.RowKit

/-- What number tells: a list and a bool. -/
def NumTold (w : World) (V : Nat) (M K : Int) (e : Ending) (w' : World) : Prop :=
  ∃ A m c zs b, e = .returned (.tuple #[.slice A m c, .bool b]) ∧ m ≤ 1024 ∧ Lim w' A m c zs ∧ Below w.heap.size w w' ∧ ((b = true ∧ val zs % 2 = 1 ∧ NumIs V M K (val zs)) ∨ (b = false ∧ ∀ U, NumIs V M K U → 54 < blen U))

/-- An exponent in its block, and a list. -/
def HoldK (w : World) (b : Nat) (M K : Int) (A : Option Addr) (n c : Nat) (xs : List Nat) (u : World) : Prop := Qx u b M K ∧ Lim u A n c xs ∧ Tab u ∧ Below w.heap.size w u
section
variable {w : World} {b : Nat} {M K : Int} {A : Option Addr} {n c : Nat} {xs : List Nat} {u u' : World}
theorem HoldK.below (h : HoldK w b M K A n c xs u) (hb : Below u.heap.size u u') : HoldK w b M K A n c xs u' := ⟨h.1.below hb, h.2.1.below hb, h.2.2.1.below hb, h.2.2.2.trans (hb.mono h.2.2.2.size)⟩
theorem HoldK.c0 (h : HoldK w b M K A n c xs u) : u.cell? ⟨b, 0, none⟩ = some (.int .i64 M) := h.1.c0
theorem HoldK.c1 (h : HoldK w b M K A n c xs u) : u.cell? ⟨b, 1, none⟩ = some (.int .i64 K) := h.1.c1
theorem HoldK.cells (h : HoldK w b M K A n c xs u) : u.cell? ⟨b, 0, none⟩ = some (.int .i64 M) ∧ u.cell? ⟨b, 1, none⟩ = some (.int .i64 K) := ⟨h.1.c0, h.1.c1⟩
theorem HoldK.lim (h : HoldK w b M K A n c xs u) : Lim u A n c xs := h.2.1
theorem HoldK.tab_ (h : HoldK w b M K A n c xs u) : Tab u := h.2.2.1
theorem HoldK.old (h : HoldK w b M K A n c xs u) : Below w.heap.size w u := h.2.2.2
end
theorem num_one {M K : Int} : NumIs 1 M K 1 := ⟨1, by rw [Nat.one_pow], by
  rcases Int.lt_or_le M 0 with h | h
  · exact Or.inr ⟨h, rfl, rfl⟩
  · exact Or.inl ⟨h, by rw [Nat.one_pow]⟩⟩

set_option maxHeartbeats 1000000 in
/-- Of 1, and to the power 0. -/
theorem enum_one (A : Option Addr) (n c : Nat) (xs : List Nat) (M K : Int) (w : World) (hA : Lim w A n c xs) (hn : n ≤ 100) (h1 : blen (val xs) = 1 ∨ M = 0) (hN : Hid (NumIs (val xs) M K 1)) :
    Calls Tryz.prog 45 #[.slice A n c, .agg #[.int .i64 M, .int .i64 K]] w (NumTold w (val xs) M K) := by
  have a1 := below1 w (.cells #[.int .i64 M, .int .i64 K] 36)
  obtain ⟨b, hb⟩ : ∃ b, blen (val xs) = b := ⟨_, rfl⟩
  have H2 := Lib.hid (bits_l b A n c xs _ (hA.below a1) (by omega) hb)
  have HO := Lib.hid (of_any 1 (by decide) (w.alloc (.cells #[.int .i64 M, .int .i64 K] 36)))
  have HS := Lib.hid a1
  rw [hb] at h1
  clear hA a1 hb
  by_cases hb1 : b = 1
  · have c1 : ((b : Int) == 1) = true := beq_yes (by omega)
    clear hb1 h1
    go_enter Tryz.func45, Tryz.ntmps45
    go_wp2_with fail
    refine H2.out.mono ?_
    rintro e w' ⟨rfl, rfl⟩
    go_wp2_with fail
    refine HO.out.mono ?_
    rintro e w1 ⟨A1, m1, c1, zs, rfl, hm1, hl1, hb1, hv1, hB1⟩
    have Hfin : Hid (NumTold w (val xs) M K (.returned (.tuple #[.slice A1 m1 c1, .bool true])) w1) := ⟨A1, m1, c1, zs, true, rfl, by omega, hl1, HS.out.trans (hB1.mono HS.out.size), Or.inl ⟨rfl, by rw [hv1], by rw [hv1]; exact hN.out⟩⟩
    clear hl1 hb1 hv1 hB1 HO H2 HS hN
    go_wp2
    go_ret2
    exact Hfin.out
  · obtain rfl : M = 0 := by omega
    have c1 : ((b : Int) == 1) = false := beq_no (by omega)
    clear hb1 h1
    go_enter Tryz.func45, Tryz.ntmps45
    go_wp2_with fail
    refine H2.out.mono ?_
    rintro e w' ⟨rfl, rfl⟩
    go_wp2_with fail
    refine HO.out.mono ?_
    rintro e w1 ⟨A1, m1, c1, zs, rfl, hm1, hl1, hb1, hv1, hB1⟩
    have Hfin : Hid (NumTold w (val xs) 0 K (.returned (.tuple #[.slice A1 m1 c1, .bool true])) w1) := ⟨A1, m1, c1, zs, true, rfl, by omega, hl1, HS.out.trans (hB1.mono HS.out.size), Or.inl ⟨rfl, by rw [hv1], by rw [hv1]; exact hN.out⟩⟩
    clear hl1 hb1 hv1 hB1 HO H2 HS hN
    go_wp2
    go_ret2
    exact Hfin.out

set_option maxHeartbeats 1000000 in
/-- Below 0. -/
theorem enum_neg (A : Option Addr) (n c : Nat) (xs : List Nat) (M K : Int) (w : World) (hA : Lim w A n c xs) (hn : n ≤ 100) (h1 : blen (val xs) ≠ 1) (h2 : M < 0) (hN : Hid (∀ U, NumIs (val xs) M K U → 54 < blen U)) :
    Calls Tryz.prog 45 #[.slice A n c, .agg #[.int .i64 M, .int .i64 K]] w (NumTold w (val xs) M K) := by
  have a1 := below1 w (.cells #[.int .i64 M, .int .i64 K] 36)
  obtain ⟨b, hb⟩ : ∃ b, blen (val xs) = b := ⟨_, rfl⟩
  have H2 := Lib.hid (bits_l b A n c xs _ (hA.below a1) (by omega) hb)
  have HS := Lib.hid a1
  rw [hb] at h1
  have c1 : ((b : Int) == 1) = false := beq_no (by omega)
  have c2 : (M == 0) = false := beq_no (by omega)
  have c3 : decide (M < 0) = true := decide_eq_true h2
  clear hA a1 hb h1 h2
  go_enter Tryz.func45, Tryz.ntmps45
  go_wp2_with fail
  refine H2.out.mono ?_
  rintro e w' ⟨rfl, rfl⟩
  go_wp2_with fail
  go_quiet (fail)
  go_wp2
  go_ret2
  exact ⟨none, 0, 0, [], false, rfl, by decide, Lim.nil _ _ _, HS.out.trans (below_drewN (Below.refl _ _) _), Or.inr ⟨rfl, hN.out⟩⟩

set_option maxHeartbeats 2000000 in
/-- Above 0. -/
theorem enum_pos (A : Option Addr) (n c : Nat) (xs : List Nat) (m k : Nat) (w : World) (hA : Lim w A n c xs) (hn : n ≤ 100) (hT : Tab w) (ho : val xs % 2 = 1) (h1 : val xs ≠ 1) (h2 : 0 < m) (hM2 : m ≤ 9223372036854775807) (hK1 : 1 ≤ k) (hK2 : k ≤ 9223372036854775807) :
    Calls Tryz.prog 45 #[.slice A n c, .agg #[.int .i64 (m : Int), .int .i64 (k : Int)]] w (NumTold w (val xs) m k) := by
  have a1 := below1 w (.cells #[.int .i64 (m : Int), .int .i64 (k : Int)] 36)
  have h0 : HoldK w w.heap.size m k A n c xs (w.alloc (.cells #[.int .i64 (m : Int), .int .i64 (k : Int)] 36)) := ⟨Qx.new _ _ _, hA.below a1, hT.below a1, a1⟩
  have K0 := Lib.hid (h0.below (below_drew _))
  obtain ⟨b, hb⟩ : ∃ b, blen (val xs) = b := ⟨_, rfl⟩
  have hbl := hA.blen_le
  have hb0 := blen_pos (show val xs ≠ 0 by omega)
  have hb1 : b ≠ 1 := fun h => by
    have h3 := lt_blen (val xs)
    rw [hb, h] at h3
    omega
  rw [hb] at hbl hb0
  have H2 : Hid (∀ u, HoldK w w.heap.size m k A n c xs u → Calls Tryz.prog 43 #[.slice A n c] u fun e w' => e = .returned (.int .i64 (b : Int)) ∧ u = w') := fun u hu => bits_l b A n c xs u hu.lim (by omega) hb
  obtain ⟨v, hv⟩ : ∃ v, cntB b m k = v := ⟨_, rfl⟩
  have H3 : Hid (∀ u, Calls Tryz.prog 59 #[.int .i64 (b : Int), .agg #[.int .i64 (m : Int), .int .i64 (k : Int)]] u fun e w' => e = .returned (.bool v) ∧ Below u.heap.size u w') := fun u => ecounts_l v b m k u (by omega) (by omega) (by omega) (by omega) (by omega) (by omega) hv
  have c1 : ((b : Int) == 1) = false := beq_no (by omega)
  have c2 : ((m : Int) == 0) = false := beq_no (by omega)
  have c3 : decide (((m : Nat) : Int) < 0) = false := decide_eq_false (by omega)
  have H0 := Lib.hid h0
  rw [← hb] at hv
  cases v with
  | false =>
    have HN : Hid (∀ U, NumIs (val xs) m k U → 54 < blen U) := fun U hU => count_no ho h1 (by omega) (by omega) hv hU
    clear hA a1 hb h0 h1 ho h2 hv hT hbl hb0 hb1
    go_enter Tryz.func45, Tryz.ntmps45
    go_wp2_with fail
    refine (H2.out _ H0.out).mono ?_
    rintro e w' ⟨rfl, rfl⟩
    go_wp2_with fail
    go_region_held3 (fun w' => w'.cell? ⟨w.heap.size, 0, none⟩ = some (.int .i64 (m : Int)) ∧ w'.cell? ⟨w.heap.size, 1, none⟩ = some (.int .i64 (k : Int)))
      (first | (with_reducible exact K0.out.cells) | (with_reducible exact K1.out.cells))
      (first
        | (go_at_call 43; (with_reducible refine (H2.out _ K0.out).mono ?_); rintro e w5 ⟨rfl, rfl⟩)
        | (go_at_call 59; (with_reducible refine (H3.out _).mono ?_); rintro e w6 ⟨rfl, hB6⟩; have K1 := Lib.hid (K0.out.below hB6); clear hB6))
    all_goals (
      have Hold := Lib.hid K1.out.old
      clear K0 K1 H0 H2 H3
      go_wp2
      go_ret2
      exact ⟨none, 0, 0, [], false, rfl, by decide, Lim.nil _ _ _, Hold.out, Or.inr ⟨rfl, HN.out⟩⟩)
  | true =>
    obtain ⟨bb, hbb⟩ : ∃ bb, decide (Ex k (val xs)) = bb := ⟨_, rfl⟩
    obtain ⟨r, hr⟩ : ∃ r, rt k (val xs) = r := ⟨_, rfl⟩
    have H4 : Hid (∀ u, HoldK w w.heap.size m k A n c xs u → Calls Tryz.prog 60 #[.slice A n c, .int .i64 (k : Int)] u (Tells2 u r n (.bool bb))) := fun u hu => by rw [← hr]; exact ewhole_l k bb A n c xs u hu.lim hn hu.tab_ hK1 hK2 hbb
    cases bb with
    | false =>
      have HN : Hid (∀ U, NumIs (val xs) m k U → 54 < blen U) := fun U ⟨s, hs, _⟩ => absurd ((ex_iff hK1).2 ⟨s, by rw [Int.toNat_natCast] at hs; exact hs.symm⟩) (of_decide_eq_false hbb)
      clear hA a1 hb h0 h1 ho h2 hv hT hbl hb0 hb1 hbb hr
      go_enter Tryz.func45, Tryz.ntmps45
      go_wp2_with fail
      refine (H2.out _ H0.out).mono ?_
      rintro e w' ⟨rfl, rfl⟩
      go_wp2_with fail
      go_region_held3 (fun w' => w'.cell? ⟨w.heap.size, 0, none⟩ = some (.int .i64 (m : Int)) ∧ w'.cell? ⟨w.heap.size, 1, none⟩ = some (.int .i64 (k : Int)))
        (first | (with_reducible exact K0.out.cells) | (with_reducible exact K1.out.cells))
        (first
          | (go_at_call 43; (with_reducible refine (H2.out _ K0.out).mono ?_); rintro e w5 ⟨rfl, rfl⟩)
          | (go_at_call 59; (with_reducible refine (H3.out _).mono ?_); rintro e w6 ⟨rfl, hB6⟩; have K1 := Lib.hid (K0.out.below hB6); clear hB6))
      all_goals (
        have x0 := K1.out.c0
        have x1 := K1.out.c1
        clear K0 H0 H2 H3
        go_wp2_with fail
        refine (H4.out _ K1.out).mono ?_
        rintro e w7 ⟨A3, m3, c3, zs, rfl, hm3, hl3, hb3, hv3, hB3⟩
        have Hold := Lib.hid (K1.out.below hB3).old
        clear K1 H4 hl3 hb3 hv3 hB3 x0 x1
        go_wp2
        go_ret2
        exact ⟨none, 0, 0, [], false, rfl, by decide, Lim.nil _ _ _, Hold.out, Or.inr ⟨rfl, HN.out⟩⟩)
    | true =>
      have hex : r ^ k = val xs := by rw [← hr]; exact of_decide_eq_true hbb
      have hro : r % 2 = 1 := odd_base (by rw [hex]; exact ho) (by omega)
      have hsm := count_yes hex.symm ho h2 hK1 hv
      have hpw := pow_small hro hsm
      have HN : Hid (r ^ m % 2 = 1 ∧ NumIs (val xs) m k (r ^ m)) := ⟨odd_pow hro m, r, by rw [Int.toNat_natCast]; exact hex.symm, Or.inl ⟨by omega, by rw [Int.toNat_natCast]⟩⟩
      have H5 : Hid (∀ u A3 m3 c3 zs, Lim u A3 m3 c3 zs → m3 ≤ 100 → Tab u → val zs = r → Calls Tryz.prog 61 #[.agg #[.bool false, .slice A3 m3 c3, .int .i64 0], .int .i64 (m : Int)] u (ToldR u ⟨false, r ^ m, 0⟩ 0)) := fun u A3 m3 c3 zs g1 g2 g3 g4 =>
        rpow_l _ _ false A3 m3 c3 zs 0 m u g1 (by omega) g3 (by omega) (by omega) (by show _ = _; rw [g4]; exact hpw)
      have Hn := Lib.hid hn
      clear hA a1 hb h0 h1 ho h2 hv hT hbl hb0 hb1 hbb hr hex hro hsm hpw hn
      go_enter Tryz.func45, Tryz.ntmps45
      go_wp2_with fail
      refine (H2.out _ H0.out).mono ?_
      rintro e w' ⟨rfl, rfl⟩
      go_wp2_with fail
      go_region_held3 (fun w' => w'.cell? ⟨w.heap.size, 0, none⟩ = some (.int .i64 (m : Int)) ∧ w'.cell? ⟨w.heap.size, 1, none⟩ = some (.int .i64 (k : Int)))
        (first | (with_reducible exact K0.out.cells) | (with_reducible exact K1.out.cells))
        (first
          | (go_at_call 43; (with_reducible refine (H2.out _ K0.out).mono ?_); rintro e w5 ⟨rfl, rfl⟩)
          | (go_at_call 59; (with_reducible refine (H3.out _).mono ?_); rintro e w6 ⟨rfl, hB6⟩; have K1 := Lib.hid (K0.out.below hB6); clear hB6))
      all_goals (
        have x0 := K1.out.c0
        have x1 := K1.out.c1
        clear K0 H0 H2 H3
        go_wp2_with fail
        refine (H4.out _ K1.out).mono ?_
        rintro e w7 ⟨A3, m3, c3, zs, rfl, hm3, hl3, hb3, hv3, hB3⟩
        replace K1 := Lib.hid (K1.out.below hB3)
        have H6 := Lib.hid (H5.out _ A3 m3 c3 zs hl3 (Nat.le_trans hm3 Hn.out) K1.out.tab_ hv3)
        clear x0 x1 hl3 hb3 hv3 hB3 H4 H5 hm3
        have x0 := K1.out.c0
        have x1 := K1.out.c1
        go_wp2_with fail
        refine H6.out.mono ?_
        rintro e w8 ⟨A4, m4, c4, us, rfl, hm4, hl4, hb4, hv4, hB4⟩
        have a9 := below1 w8 (.cells #[.bool false, .slice A4 m4 c4, .int .i64 0] 32)
        have hold := K1.out.old.trans (hB4.mono K1.out.old.size)
        have Hfin : Hid (NumTold w (val xs) m k (.returned (.tuple #[.slice A4 m4 c4, .bool true])) (w8.alloc (.cells #[.bool false, .slice A4 m4 c4, .int .i64 0] 32))) :=
          ⟨A4, m4, c4, us, true, rfl, hm4, hl4.below a9, hold.trans (a9.mono hold.size), Or.inl ⟨rfl, by rw [hv4]; exact HN.out.1, by rw [hv4]; exact HN.out.2⟩⟩
        clear K1 H6 hl4 hb4 hv4 hB4 a9 hold x0 x1 HN
        go_wp2
        go_ret2
        exact Hfin.out)

theorem enum_l (A : Option Addr) (n c : Nat) (xs : List Nat) (M K : Int) (w : World) (hA : Lim w A n c xs) (hn : n ≤ 100) (hT : Tab w) (ho : val xs % 2 = 1) (hM1 : -9223372036854775808 ≤ M) (hM2 : M ≤ 9223372036854775807) (hK1 : 1 ≤ K) (hK2 : K ≤ 9223372036854775807) (hg : Nat.gcd M.natAbs K.toNat = 1) :
    Calls Tryz.prog 45 #[.slice A n c, .agg #[.int .i64 M, .int .i64 K]] w (NumTold w (val xs) M K) := by
  by_cases hv : val xs = 1
  · exact enum_one A n c xs M K w hA hn (Or.inl (by rw [hv]; decide)) (by show NumIs _ _ _ _; rw [hv]; exact num_one)
  · by_cases hM : M = 0
    · subst hM
      have hk : K.toNat = 1 := by
        rw [show (0 : Int).natAbs = 0 from rfl, Nat.gcd_zero_left] at hg; exact hg
      exact enum_one A n c xs 0 K w hA hn (Or.inr rfl) ⟨val xs, by rw [hk, Nat.pow_one], Or.inl ⟨by decide, rfl⟩⟩
    · rcases Int.lt_or_le M 0 with h | h
      · refine enum_neg A n c xs M K w hA hn (fun hb => hv ?_) h (fun U hU => ?_)
        · have h3 := lt_blen (val xs)
          rw [hb] at h3
          omega
        · obtain ⟨r, h1, h2⟩ := hU
          rcases h2 with ⟨h2, _⟩ | ⟨_, h2, _⟩
          · omega
          · exact absurd (by rw [h1, h2, Nat.one_pow]) hv
      · obtain ⟨m, rfl⟩ := Int.eq_ofNat_of_zero_le h
        obtain ⟨k, rfl⟩ := Int.eq_ofNat_of_zero_le (show 0 ≤ K by omega)
        exact enum_pos A n c xs m k w hA hn hT ho hv (by omega) (by omega) (by omega) (by omega)
end Go.Proofs.YtmmeejofepmgaaaGreatDoor
