/- The walks of planimeterref01.Cmp and of nat.Bare. -/
import Derived.Test.YtkgbgmhkbigjhaaDoorWRAdd
import Derived.Laws.CopyOwn
namespace Go.Proofs.YtkgbgmhkbigjhaaDoor
open Go.RowKit

set_option maxHeartbeats 2000000 in
theorem rcmp_any (A : Option Addr) (n c : Nat) (us : List Nat) (B : Option Addr) (m d : Nat) (bs : List Nat) (w : World) (hA : Dig w A n c us) (hB : Dig w B m d bs) (ba : D.Bare us) (bb : D.Bare bs) (hn : n ≤ 1000000) (hm : m ≤ 1000000) :
    Calls Tryd.prog 12 #[.slice A n c, .slice B m d] w fun e w' => e = .returned (.int .i64 (cmpZ (D.val us) (D.val bs))) ∧ ∃ q, w' = w.drewN q := by
  have hta : D.tl us = n := by rw [ba, hA.len]
  have htb : D.tl bs = m := by rw [bb, hB.len]
  rcases Nat.lt_trichotomy n m with hlt | heq | hgt
  · have HV := Lib.hid (cmpZ_lt (D.val_lt_of_tl_lt (ys := bs) hA.words (by omega)))
    have b1 : ((n : Int) != (m : Int)) = true := by rw [bne_iff_ne]; omega
    have b2 : decide (n < m) = true := by simp; omega
    clear hta htb hA hB ba bb
    go_enter Tryd.func12, Tryd.ntmps12
    go_wp2
    go_ret
    exact ⟨by rw [HV.out]; rfl, 0, rfl⟩
  · subst heq
    have HA := Lib.hid hA
    have HB := Lib.hid hB
    clear hta htb hA hB ba bb
    have b1 : ((n : Int) != (n : Int)) = false := by simp
    go_enter Tryd.func12, Tryd.ntmps12
    go_wp2
    clear b1
    go_loopw [5] (fun i wr => ∃ k q : Nat, k ≤ n ∧ i = .int .i64 ((k : Int) - 1) ∧ wr = w.drewN q ∧ Hid (∀ j, k ≤ j → j < n → us.getD j 0 = bs.getD j 0)) (fun i _ => (intOf i + 1).toNat)
    case atStart => exact ⟨n, 0, Nat.le_refl _, rfl, rfl, fun j h1 h2 => by omega⟩
    case round =>
      obtain ⟨k, q, hk, rfl, rfl, hz⟩ := hrel
      have Hfa : Hid (us.take n = us) := List.take_of_length_le (by rw [HA.out.len]; exact Nat.le_refl _)
      have Hfb : Hid (bs.take n = bs) := List.take_of_length_le (by rw [HB.out.len]; exact Nat.le_refl _)
      cases k with
      | zero =>
        have HV := Lib.hid (cmpZ_eq (show D.val us = D.val bs by rw [← Hfa.out, ← Hfb.out]; exact D.take_congr (fun j hj => hz.out j (Nat.zero_le _) hj)))
        go_wp2
        go_ret
        exact ⟨by rw [HV.out]; rfl, q, rfl⟩
      | succ k =>
        rw [show (((k + 1 : Nat) : Int) - 1) = (k : Int) from by omega]
        obtain ⟨b, o, rfl, hb, hcl⟩ := HA.out.at_ (by omega)
        have c1 := hcl k (by omega)
        clear hcl
        obtain ⟨b', o', rfl, hb', hcl⟩ := HB.out.at_ (by omega)
        have c2 := hcl k (by omega)
        clear hcl
        obtain ⟨x, hx⟩ : ∃ x, us.getD k 0 = x := ⟨_, rfl⟩
        obtain ⟨y, hy⟩ : ∃ y, bs.getD k 0 = y := ⟨_, rfl⟩
        rw [hx] at c1
        rw [hy] at c2
        have Hx := Lib.hid hx
        have Hy := Lib.hid hy
        clear hx hy
        have hk1 : (k : Int) < (n : Int) := by omega
        rcases Nat.lt_trichotomy x y with hlt | heq | hgt
        · have b4 : decide (x < y) = true := by simp; omega
          have HV := Lib.hid (cmpZ_lt (show D.val us < D.val bs by
            rw [← Hfa.out, ← Hfb.out]
            exact D.val_lt_of_digit HA.out.words (i := k) (by omega) (by have := HA.out.len; omega) (by have := HB.out.len; omega) (fun j h1 h2 => hz.out j (by omega) h2) (by rw [Hx.out, Hy.out]; exact hlt)))
          go_wp2
          go_quiet (fail)
          go_wp2
          go_ret
          exact ⟨by rw [HV.out]; rfl, _, by first | rfl | (simp only [World.drewN_drewN]; rfl)⟩
        · subst heq
          have b4 : decide (x < x) = false := by simp
          go_wp2
          go_quiet (fail)
          go_wp2
          go_quiet (fail)
          go_wp2
          go_roundw
          case rel => exact ⟨k, _, by omega, by go_num, by first | rfl | (simp only [World.drewN_drewN]; rfl), fun j h1 h2 => by
            by_cases e : j = k
            · rw [e, Hx.out, Hy.out]
            · exact hz.out j (by omega) h2⟩
          case measure => simp [intOf]
        · have b4 : decide (x < y) = false := by simp; omega
          have b5 : decide (y < x) = true := by simp; omega
          have HV := Lib.hid (cmpZ_gt (show D.val bs < D.val us by
            rw [← Hfa.out, ← Hfb.out]
            exact D.val_lt_of_digit HB.out.words (i := k) (by omega) (by have := HB.out.len; omega) (by have := HA.out.len; omega) (fun j h1 h2 => (hz.out j (by omega) h2).symm) (by rw [Hx.out, Hy.out]; exact hgt)))
          go_wp2
          go_quiet (fail)
          go_wp2
          go_quiet (fail)
          go_wp2
          go_ret
          exact ⟨by rw [HV.out]; rfl, _, by first | rfl | (simp only [World.drewN_drewN]; rfl)⟩
  · have HV := Lib.hid (cmpZ_gt (D.val_lt_of_tl_lt (ys := us) hB.words (by omega)))
    have b1 : ((n : Int) != (m : Int)) = true := by rw [bne_iff_ne]; omega
    have b2 : decide (n < m) = false := by simp; omega
    clear hta htb hA hB ba bb
    go_enter Tryd.func12, Tryd.ntmps12
    go_wp2
    go_ret
    exact ⟨by rw [HV.out]; rfl, 0, rfl⟩

theorem size64 : (Tryd.prog.info? 33).map (·.size) = some 1 := by kernel_rfl

set_option maxHeartbeats 1000000 in
/-- nat.Bare. -/
theorem bare_any (A : Option Addr) (n c : Nat) (xs : List Nat) (w : World) (hA : Lim w A n c xs) (hn : n ≤ 1000000) :
    Calls Tryd.prog 30 #[.slice A n c] w (Tells w (val xs) n) := by
  have hP := hA.trim
  have l1 := hA.tl_le
  have hbare := bare_take xs
  have hval := val_take_tl xs
  obtain ⟨la, hla⟩ : ∃ l, tl xs = l := ⟨_, rfl⟩
  rw [hla] at l1 hP hbare hval
  have Hla := Lib.hid hla
  clear hla
  generalize xs.take la = ps at hP hbare hval
  have hmk := run_make_row' (P := Tryd.prog) 22 33 (.int .u64 0) 8 Tryd.underlying22 info64 rfl .i64 .i64 la (by omega) (by omega)
  have Hval := Lib.hid hval
  have HP := Lib.hid hP
  clear hval hP
  obtain ⟨cs, hcs⟩ : ∃ cs, cs = ps.map (fun z => Value.int .u64 ((z : Nat) : Int)) := ⟨_, rfl⟩
  have hcl : cs.length = la := by rw [hcs, List.length_map, HP.out.len]
  have Hcs := Lib.hid hcs
  have Hcl := Lib.hid hcl
  have hone : ∀ v ∈ cs, v.oneCell' = true := by rw [hcs]; intro u hu; obtain ⟨z, _, rfl⟩ := List.mem_map.1 hu; rfl
  have Hone := Lib.hid hone
  have hpos : 0 < cs.length → (some (⟨w.heap.size, 0, none⟩ : Addr)) = some ⟨w.heap.size, 0, none⟩ ∧ ∃ ad, A = some ad ∧ ∀ j v, cs[j]? = some v → (w.alloc (.cells (madeCells #[.int .u64 0] la) 33)).cell? (ad.add j) = some v := fun h => by
    obtain ⟨b, o, rfl, hb, hc⟩ := (HP.out.alloc (.cells (madeCells #[.int .u64 0] la) 33)).at_ (by omega)
    refine ⟨rfl, ⟨b, o, none⟩, rfl, fun j v hv => ?_⟩
    have hj : j < la := by
      rcases Nat.lt_or_ge j la with h | h
      · exact h
      · rw [List.getElem?_eq_none (by omega)] at hv; cases hv
    rw [add_addr, hc j hj, ← hv, hcs, List.getElem?_map, List.getD_eq_getElem?_getD, List.getElem?_eq_getElem (by rw [HP.out.len]; exact hj)]
    rfl
  have Hpos := Lib.hid hpos
  clear hcs hcl hone hpos
  go_enter Tryd.func30, Tryd.ntmps30
  go_wp2_with fail
  refine (trim_to la A n c xs _ hA (by omega) Hla).mono ?_
  rintro e w' ⟨rfl, rfl⟩
  go_wp2_with (with_reducible refine wpList_copy_splice rfl (.tmp 9) (.tmp 10) 22 22 rfl 33 Tryd.underlying22 size64 _ _ _ _ _ _ rfl rfl w.heap.size 0 (madeCells #[.int .u64 0] la).toList 33 ?g1 cs ?g2 ?g3 ?g4 ?g5 w.heap.size w ?g6 (Nat.le_refl _) ?_)
  case g1 => rw [Array.toArray_toList]; exact heap_alloc_new w _
  case g2 => rw [Hcl.out]; exact (Nat.min_self la).symm
  case g3 => first | exact Hpos.out | exact fun h => (Hpos.out h).2
  case g4 => have e := Array.length_toList (xs := madeCells #[.int .u64 0] la); rw [size_madeCells] at e; rw [e, Hcl.out]; omega
  case g5 => exact Hone.out
  case g6 => exact (Below.refl _ _).alloc (Nat.le_refl _) _
  intro w' Hg hb
  have hl : Lim w' (some ⟨w.heap.size, 0, none⟩) la la ps := by
    refine ⟨HP.out.len, Nat.le_refl _, HP.out.words, fun h => ⟨w.heap.size, 0, rfl, ?_, fun k hk => ?_⟩⟩
    · rcases Nat.lt_or_ge w.heap.size w'.heap.size with h' | h'
      · exact h'
      · have := Hg.out; rw [Array.getElem?_eq_none h'] at this; cases this
    · have e : splice (madeCells #[.int .u64 0] la).toList 0 cs = cs := by
        unfold splice
        rw [List.take_zero, List.nil_append, List.drop_of_length_le (by rw [Array.length_toList, size_madeCells, Hcl.out]; omega), List.append_nil]
      have hg := Hg.out
      rw [e] at hg
      rw [Nat.zero_add, cell_of_row w' w.heap.size k cs.toArray 33 (0, 0) hg, Hcs.out, List.getElem?_toArray, List.getElem?_map, List.getD_eq_getElem?_getD, List.getElem?_eq_getElem (by rw [HP.out.len]; exact hk)]
      rfl
  have Hfin : Hid (Tells w (val xs) n (.returned (.slice (some ⟨w.heap.size, 0, none⟩) la la)) w') := ⟨_, _, _, ps, rfl, l1, hl, hbare, Hval.out, hb⟩
  clear hl Hg hmk
  go_wp2
  go_ret
  exact Hfin.out
end Go.Proofs.YtkgbgmhkbigjhaaDoor
