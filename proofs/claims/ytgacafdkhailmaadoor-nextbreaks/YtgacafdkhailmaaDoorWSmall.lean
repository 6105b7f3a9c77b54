/- The walks of nat.Bits, Low, Odd, Small, Of, Bare and of planimeterref01.Same. -/
import Derived.Test.YtgacafdkhailmaaDoorWSub
import Derived.Laws.CopyOwn
namespace Go.Proofs.YtgacafdkhailmaaDoor
open Go.RowKit

theorem ret_int {k : IntKind} {a b : Int} (h : a = b) : Ending.returned (.int k a) = .returned (.int k b) := by rw [h]

theorem val_last {ps : List Nat} {j : Nat} (hl : ps.length = j + 1) : val ps = val (ps.take j) + 2 ^ (64 * j) * ps.getD j 0 := by
  have := val_take_succ ps j (by omega)
  rw [List.take_of_length_le (by omega), pw_two] at this
  exact this

set_option maxHeartbeats 1000000 in
theorem bits_any (A : Option Addr) (n c : Nat) (xs : List Nat) (w : World) (hA : Lim w A n c xs) (hn : n ≤ 4398046511104) :
    Calls Tryd.prog 64 #[.slice A n c] w fun e w' => e = .returned (.int .i64 (blen (val xs) : Int)) ∧ w = w' := by
  have hP := hA.trim
  have l1 := hA.tl_le
  have HX := Lib.hid (val_take_tl xs)
  cases hla : tl xs with
  | zero =>
    have HV : Hid (blen (val xs) = 0) := by rw [tl_zero hla]; rfl
    have Hla := Lib.hid hla
    clear hla hP HX
    go_enter Tryd.func64, Tryd.ntmps64
    go_wp2_with fail
    refine (trim_to 0 A n c xs _ hA (by omega) Hla).mono ?_
    rintro e w' ⟨rfl, rfl⟩
    go_wp2
    go_ret
    exact ⟨by rw [HV.out]; rfl, rfl⟩
  | succ j =>
    have hne := getD_tl_pred hla
    rw [hla] at hP l1 HX
    have hgx : (xs.take (j + 1)).getD j 0 = xs.getD j 0 := by rw [List.getD_eq_getElem?_getD, List.getD_eq_getElem?_getD, List.getElem?_take_of_lt (by omega)]
    rw [← hgx] at hne
    generalize xs.take (j + 1) = ps at hP HX hne hgx
    clear hgx
    have hlo := val_lt (hP.words.take j)
    rw [List.length_take, hP.len, Nat.min_eq_left (by omega), pw_two] at hlo
    have HV : Hid (blen (val xs) = 64 * j + blen (ps.getD j 0)) := by
      rw [← HX.out, val_last hP.len]
      exact blen_last hlo hne
    obtain ⟨b, o, rfl, hb, hcl⟩ := hP.at_ (by omega)
    have c1 := hcl j (by omega)
    have hxw := hP.words.getD j
    have hlen := blen_le_iff.2 (show ps.getD j 0 < 2 ^ 64 from hxw)
    generalize ps.getD j 0 = x at c1 HV hxw hne hlen
    generalize hbx : blen x = bx at HV hlen
    have hL := len_any x w hxw
    rw [hbx] at hL
    have HL := Lib.hid hL
    have Hla := Lib.hid hla
    have b1 : (((j : Int) + 1) == 0) = false := beq_eq_false_iff_ne.2 (by omega)
    clear hla hP HX hcl hlo hL hbx hne
    go_enter Tryd.func64, Tryd.ntmps64
    go_wp2_with fail
    refine (trim_to (j + 1) _ n c xs _ hA (by omega) Hla).mono ?_
    rintro e w' ⟨rfl, rfl⟩
    go_wp2_with fail
    refine HL.out.mono ?_
    rintro e w' ⟨rfl, rfl⟩
    go_wp2
    go_ret
    exact ⟨ret_int (a := (j : Int) * 64 + bx) (by rw [HV.out]; omega), rfl⟩

set_option maxHeartbeats 1000000 in
theorem low_any (A : Option Addr) (n c : Nat) (xs : List Nat) (w : World) (hA : Lim w A n c xs) (hn : n ≤ 4398046511104) (hT : Tab w) :
    Calls Tryd.prog 55 #[.slice A n c] w fun e w' => e = .returned (.int .i64 (low (val xs) : Int)) ∧ w = w' := by
  have HA := Lib.hid hA
  have HT := Lib.hid hT
  clear hA hT
  go_enter Tryd.func55, Tryd.ntmps55
  go_wp2
  go_loop [7] (fun i => ∃ k : Nat, k ≤ n ∧ i = .int .i64 k ∧ Hid (∀ j, j < k → xs.getD j 0 = 0)) (fun i => n - (intOf i).toNat)
  case atStart => exact ⟨0, Nat.zero_le _, rfl, fun j h => by omega⟩
  case round =>
    obtain ⟨k, hk, rfl, hz⟩ := hrel
    by_cases hlt : k < n
    · obtain ⟨b, o, rfl, hb, hcl⟩ := HA.out.at_ (by omega)
      have c1 := hcl k hlt
      have hxw := HA.out.words.getD k
      have hl := HA.out.len
      by_cases h0 : xs.getD k 0 = 0
      · rw [h0] at c1
        have Hz : Hid (∀ j, j < k + 1 → xs.getD j 0 = 0) := fun j hj => by
          by_cases e : j = k
          · rw [e]; exact h0
          · exact hz.out j (by omega)
        clear h0 hcl hxw hl
        go_wp2
        go_round
        case rel => exact ⟨k + 1, by omega, by go_num, Hz⟩
        case measure => simp [intOf]; omega
      · have hd : val xs = val (xs.take k) + pw k * (xs.getD k 0 + 18446744073709551616 * val (xs.drop (k + 1))) := by
          rw [val_split xs k (by omega), drop_cons xs k (by omega), val]
        have hz' := val_of_zeros hz.out
        generalize hx : xs.getD k 0 = x at c1 hxw h0 hd
        obtain ⟨t, m, ht, hxe, hcall⟩ := tz_any x (by omega) hxw w HT.out
        have HV : Hid (low (val xs) = 64 * k + t) := by rw [hd]; exact low_limb hz' hxe ht
        have Hcall := Lib.hid hcall
        have b1 : ((x : Int) != 0) = true := by rw [bne_iff_ne]; omega
        clear hd hz' hx hcl hcall hxe hl h0
        go_wp2_with fail
        refine Hcall.out.mono ?_
        rintro e w' ⟨rfl, rfl⟩
        go_wp2
        go_ret
        exact ⟨ret_int (a := (k : Int) * 64 + t) (by rw [HV.out]; omega), rfl⟩
    · obtain rfl : k = n := by omega
      have HV : Hid (low (val xs) = 0) := by
        have := val_of_zeros hz.out
        rw [List.take_of_length_le (by have := HA.out.len; omega)] at this
        rw [this]; rfl
      go_wp2
      go_ret
      exact ⟨by rw [HV.out]; rfl, rfl⟩


theorem small_yes (A : Option Addr) (n c : Nat) (xs : List Nat) (w : World) (hA : Lim w A n c xs) (hn : n ≤ 4398046511104) (hs : val xs < 18446744073709551616) :
    Calls Tryd.prog 82 #[.slice A n c] w fun e w' => e = .returned (.tuple #[.int .u64 (val xs : Int), .bool true]) ∧ w = w' := by
  have hP := hA.trim
  have HX := val_take_tl xs
  cases hla : tl xs with
  | zero =>
    rw [tl_zero hla]
    have Hla := Lib.hid hla
    clear hla hP HX hs
    go_enter Tryd.func82, Tryd.ntmps82
    go_wp2_with fail
    refine (trim_to 0 A n c xs _ hA (by omega) Hla).mono ?_
    rintro e w' ⟨rfl, rfl⟩
    go_wp2
    go_ret2
    exact ⟨rfl, rfl⟩
  | succ j =>
    cases j with
    | zero =>
      rw [hla] at hP HX
      generalize xs.take (0 + 1) = ps at hP HX
      obtain ⟨x, rfl⟩ : ∃ x, ps = [x] := List.length_eq_one_iff.1 hP.len
      obtain ⟨b, o, rfl, hb, hcl⟩ := hP.at_ (by omega)
      have c1 := hcl 0 (by omega)
      rw [Nat.add_zero, getD_cons_zero] at c1
      rw [show val [x] = x from rfl] at HX
      rw [← HX]
      have Hla := Lib.hid hla
      clear hla hP HX hs hcl
      go_enter Tryd.func82, Tryd.ntmps82
      go_wp2_with fail
      refine (trim_to 1 _ n c xs _ hA (by omega) Hla).mono ?_
      rintro e w' ⟨rfl, rfl⟩
      go_wp2
      go_ret2
      exact ⟨rfl, rfl⟩
    | succ j =>
      have h1 := val_pos_of_tl hla
      have h2 : pw 1 ≤ pw (j + 1) := pw_mono (by omega)
      have h3 : pw 1 = 18446744073709551616 := by decide
      omega

theorem small_no (A : Option Addr) (n c : Nat) (xs : List Nat) (w : World) (hA : Lim w A n c xs) (hn : n ≤ 4398046511104) (hs : 18446744073709551616 ≤ val xs) :
    Calls Tryd.prog 82 #[.slice A n c] w fun e w' => e = .returned (.tuple #[.int .u64 0, .bool false]) ∧ w = w' := by
  have h1 := val_lt_tl hA.words
  obtain ⟨l, hl⟩ : ∃ l, tl xs = l := ⟨_, rfl⟩
  rw [hl] at h1
  have h2 : 2 ≤ l := by
    rcases Nat.lt_or_ge l 2 with h | h
    · have := pw_mono (show l ≤ 1 by omega)
      have h3 : pw 1 = 18446744073709551616 := by decide
      omega
    · exact h
  have Hl := Lib.hid hl
  have l1 := hA.tl_le
  rw [hl] at l1
  clear hl h1 hs
  have b0 : ((l : Int) == 0) = false := beq_eq_false_iff_ne.2 (by omega)
  have b1 : ((l : Int) == 1) = false := beq_eq_false_iff_ne.2 (by omega)
  go_enter Tryd.func82, Tryd.ntmps82
  go_wp2_with fail
  refine (trim_to l _ n c xs _ hA (by omega) Hl).mono ?_
  rintro e w' ⟨rfl, rfl⟩
  go_wp2
  go_ret2
  exact ⟨rfl, rfl⟩

theorem of_any (x : Nat) (hx : x < 18446744073709551616) (w : World) : Calls Tryd.prog 32 #[.int .u64 (x : Int)] w (Tells w x 1) := by
  by_cases h0 : x = 0
  · subst h0
    go_enter Tryd.func32, Tryd.ntmps32
    go_wp2
    go_ret
    exact ⟨none, 0, 0, [], rfl, Nat.zero_le _, Lim.nil _ _ _, rfl, rfl, Below.refl _ _⟩
  · have b0 : ((x : Int) == 0) = false := beq_eq_false_iff_ne.2 (by omega)
    have HB : Hid (Bare [x]) := by show (if (0 : Nat) = 0 then (if x = 0 then 0 else 1) else 0 + 1) = 1; simp [h0]
    clear h0
    go_enter Tryd.func32, Tryd.ntmps32
    go_wp2
    go_ret
    refine ⟨some ⟨w.heap.size, 0, none⟩, 1, 1, [x], rfl, Nat.le_refl _, ⟨rfl, Nat.le_refl _, Words.one hx, fun _ => ⟨w.heap.size, 0, rfl, by simp, fun k hk => ?_⟩⟩, HB.out, by simp [val], (Below.refl _ _).alloc (Nat.le_refl _) _⟩
    obtain rfl : k = 0 := by omega
    simp [World.cell?_alloc_new]

/-- Two lists of limbs held against each other: the same. -/
theorem same_yes (A : Option Addr) (n c : Nat) (xs : List Nat) (B : Option Addr) (d : Nat) (w : World) (hA : Lim w A n c xs) (hB : Lim w B n d xs) (hn : n ≤ 4398046511104) :
    Calls Tryd.prog 54 #[.slice A n c, .slice B n d] w fun e w' => e = .returned (.bool true) ∧ ∃ q, w' = w.drewN q := by
  have HA := Lib.hid hA
  have HB := Lib.hid hB
  clear hA hB
  have b1 : ((n : Int) != (n : Int)) = false := by simp
  go_enter Tryd.func54, Tryd.ntmps54
  go_wp2
  clear b1
  go_loopw [5] (fun i wr => ∃ k q : Nat, k ≤ n ∧ i = .int .i64 k ∧ wr = w.drewN q) (fun i _ => n - (intOf i).toNat)
  case atStart => exact ⟨0, 0, Nat.zero_le _, rfl, rfl⟩
  case round =>
    obtain ⟨k, q, hk, rfl, rfl⟩ := hrel
    by_cases hlt : k < n
    · obtain ⟨b, o, rfl, hb, hcl⟩ := HA.out.at_ (by omega)
      have c1 := hcl k hlt
      clear hcl
      obtain ⟨b', o', rfl, hb', hcl⟩ := HB.out.at_ (by omega)
      have c2 := hcl k hlt
      clear hcl
      generalize xs.getD k 0 = x at c1 c2
      have hk1 : (k : Int) < (n : Int) := by omega
      have b3 : ((x : Int) != (x : Int)) = false := by simp
      go_wp2
      go_quiet (fail)
      go_wp2
      go_roundw
      case rel => exact ⟨k + 1, _, by omega, by go_num, rfl⟩
      case measure => simp [intOf]; omega
    · go_wp2
      go_ret
      exact ⟨rfl, q, rfl⟩
end Go.Proofs.YtgacafdkhailmaaDoor
