/- The walks of planimeterref01.Norm, To, Of and of planimeterlaw01.same. -/
import Derived.Test.YtgacafdkhailmaaDoorDMem
import Derived.Test.YtgacafdkhailmaaDoorWSmall
import Derived.Deep.RegionHeld3
namespace Go.Proofs.YtgacafdkhailmaaDoor
open Go.RowKit

set_option maxHeartbeats 1000000 in
theorem norm_any (A : Option Addr) (n c : Nat) (ds : List Nat) (w : World) (h : Dig w A n c ds) (hn : n ≤ 1000000) :
    Calls Tryd.prog 61 #[.slice A n c] w (DTells w (D.val ds) n) := by
  have hc := h.le
  have HD := Lib.hid h
  clear h
  go_enter Tryd.func61, Tryd.ntmps61
  go_wp2
  go_loop [3] (fun i => ∃ k : Nat, k ≤ n ∧ i = .int .i64 k ∧ Hid (∀ j, k ≤ j → j < ds.length → ds.getD j 0 = 0)) (fun i => (intOf i).toNat)
  case atStart => exact ⟨n, Nat.le_refl _, rfl, fun j h1 h2 => by have := HD.out.len; omega⟩
  case round =>
    obtain ⟨k, hk, rfl, hz⟩ := hrel
    have fin : Hid (D.tl ds = k → ∃ A' c' w', (Builtin.append_ #[35, 35] 35 #[.slice (some ⟨w.heap.size, 0, none⟩) 0 0, .slice A k c]).run Tryd.prog (w.alloc (.cells #[] 62)) = .ok (.slice A' k c') w' ∧
        DTells w (D.val ds) n (.returned (.slice A' k c')) w') := fun e => by
      have hd := HD.out.take (m := k) hk
      obtain ⟨A', c', w', hrun, ho, hb⟩ := app_copy w A k c (ds.take k) hd.1 (by omega)
      refine ⟨A', c', w', hrun, A', k, c', ds.take k, rfl, hk, ho.dig hd.len hd.words, ?_, ?_, hb⟩
      · rw [← e]; exact D.bare_take ds
      · rw [← e]; exact D.val_take_tl ds
    cases k with
    | zero =>
      obtain ⟨A', c', w', hrun, hfin⟩ := fin.out (D.tl_eq (k := 0) hz.out (fun j hj => by omega))
      have Hrun := Lib.hid hrun
      have Hfin := Lib.hid hfin
      clear hrun hfin fin
      go_wp2_with (at_builtin; refine wpList_app (s := .tmp 18) (x := .tmp 21) (by rfl) rfl rfl rfl Hrun.out ?_)
      go_ret
      exact Hfin.out
    | succ k =>
      obtain ⟨b, o, rfl, hb, hcl⟩ := HD.out.at_ (by omega)
      have c1 := hcl k (by omega)
      clear hcl
      obtain ⟨x, hx⟩ : ∃ x, x = ds.getD k 0 := ⟨_, rfl⟩
      rw [← hx] at c1
      have Hx := Lib.hid hx
      clear hx
      by_cases h0 : x = 0
      · subst h0
        clear fin
        go_wp2
        go_round
        case rel => exact ⟨k, by omega, by go_num, fun j h1 h2 => by
          by_cases e : j = k
          · rw [e]; exact Hx.out.symm
          · exact hz.out j (by omega) h2⟩
        case measure => simp [intOf]
      · obtain ⟨A', c', w', hrun, hfin⟩ := fin.out (D.tl_eq (k := k + 1) hz.out (fun j hj => by obtain rfl : j = k := (by omega); rw [← Hx.out]; exact h0))
        have hb0 : ((x : Int) == 0) = false := beq_eq_false_iff_ne.2 (by omega)
        have Hrun := Lib.hid hrun
        have Hfin := Lib.hid hfin
        clear hrun hfin fin h0
        go_wp2_with (at_builtin; refine wpList_app (s := .tmp 18) (x := .tmp 21) (by rfl) rfl rfl rfl Hrun.out ?_)
        go_ret
        exact Hfin.out

theorem dig_step {x d x' k V Z : Nat} (hx : x = d + 65536 * x') (h : Z + D.pw k * x = V) : Z + D.pw k * d + D.pw (k + 1) * x' = V := by
  rw [hx, Nat.mul_add] at h
  rw [D.pw_succ, Nat.mul_comm 65536, Nat.mul_assoc]
  omega
theorem pw_dig (i : Nat) : D.pw (4 * i) = pw i := by
  rw [D.pw_two, pw_two]
  congr 1
  omega

set_option maxHeartbeats 2000000 in
set_option maxRecDepth 20000 in
theorem to_any (A : Option Addr) (n c : Nat) (xs : List Nat) (w : World) (h : Lim w A n c xs) (hn : n ≤ 100000) :
    Calls Tryd.prog 36 #[.slice A n c] w (DTells w (val xs) (4 * n)) := by
  have HA := Lib.hid h
  clear h
  go_enter Tryd.func36, Tryd.ntmps36
  go_wp2
  go_loopw [3, 4] (fun v i wr => ∃ (k m c1 : Nat) (A1 : Option Addr) (ds : List Nat), k ≤ n ∧ m ≤ 4 * k ∧ 4 * k ≤ m ∧ i = .int .i64 k ∧ v = .slice A1 m c1 ∧ Hid (ds.length = m) ∧ Hid (Own .u32 62 wr w.heap.size (.slice A1 m c1) ds) ∧ Hid (D.Words ds) ∧ Hid (D.val ds = val (xs.take k)) ∧ Below w.heap.size w wr) (fun _ i _ => n - (intOf i).toNat)
  case atStart => exact ⟨0, 0, 0, none, [], Nat.zero_le _, Nat.zero_le _, Nat.zero_le _, rfl, rfl, rfl, Own.nil _ _ _ _, D.Words.nil, by simp [Hid, D.val, val], Below.refl _ _⟩
  case round =>
    obtain ⟨k, m, c1, A1, ds, hk, hm1, hm2, rfl, rfl, Hl, Ho, Hw, HV, hb⟩ := hrel
    by_cases hlt : k < n
    · obtain ⟨b, o, rfl, hbl, hcl⟩ := HA.out.at_ (by omega)
      have c2 := (hb.cell (p := ⟨b, o + k, none⟩) hbl).trans (hcl k hlt)
      clear hcl
      have hxw := HA.out.words.getD k
      obtain ⟨x, hx⟩ : ∃ x, xs.getD k 0 = x := ⟨_, rfl⟩
      rw [hx] at c2 hxw
      have HE : Hid (D.val ds + D.pw m * x = val (xs.take (k + 1))) := by
        rw [HV.out, val_take_succ', hx, show m = 4 * k from by omega, pw_dig]; rfl
      have Hx := Lib.hid hx
      clear hx HV
      go_wp2
      clear c2
      go_loopw [3, 5, 6] (fun v y j wr2 => ∃ (q m2 c2 x2 : Nat) (A2 : Option Addr) (es : List Nat), q ≤ 4 ∧ m2 ≤ m + q ∧ m + q ≤ m2 ∧ j = .int .i64 q ∧ y = .int .u64 x2 ∧ v = .slice A2 m2 c2 ∧ Hid (x2 < D.pw (4 - q)) ∧ x2 < 18446744073709551616 ∧ Hid (es.length = m2) ∧ Hid (Own .u32 62 wr2 w.heap.size (.slice A2 m2 c2) es) ∧ Hid (D.Words es) ∧ Hid (D.val es + D.pw m2 * x2 = val (xs.take (k + 1))) ∧ Below w.heap.size w wr2) (fun _ _ j _ => 4 - (intOf j).toNat)
      case atStart => exact ⟨0, m, c1, x, A1, ds, Nat.zero_le _, Nat.le_refl _, Nat.le_refl _, rfl, rfl, rfl, hxw, hxw, Hl, Ho, Hw, HE, hb⟩
      case round =>
        obtain ⟨q, m2, c2, x2, A2, es, hq, hm3, hm4, rfl, rfl, rfl, Hx2, hx2, Hl2, Ho2, Hw2, HE2, hb2⟩ := hrel
        by_cases hq4 : q < 4
        · obtain ⟨dg, x3, hdx, hdg⟩ : ∃ dg x3, x2 = dg + 65536 * x3 ∧ dg < 65536 := ⟨x2 % 65536, x2 / 65536, by omega, by omega⟩
          have e1 : (x2 : Int) % 65536 = (dg : Int) := by omega
          have e2 : (x2 : Int) / 65536 = (x3 : Int) := by omega
          have hx3 : x3 < 18446744073709551616 := by omega
          have Hx3 : Hid (x3 < D.pw (4 - (q + 1))) := by
            have h1 := Hx2.out
            rw [show 4 - q = (4 - (q + 1)) + 1 from by omega, D.pw_succ] at h1
            show x3 < _
            omega
          have HE3 := Lib.hid (dig_step hdx HE2.out)
          obtain ⟨A3, c3, w3, hrun, ho3, hb3⟩ := app_digit wr w.heap.size A2 m2 c2 es dg dg rfl Ho2.out Hl2.out hb2.size (by omega)
          have Hrun := Lib.hid hrun
          have Ho3 := Lib.hid ho3
          have hb4 := hb2.trans hb3
          have Hl3 : Hid ((es ++ [dg]).length = m2 + 1) := by have := Hl2.out; simp [Hid]; omega
          have Hw3 : Hid (D.Words (es ++ [dg])) := Hw2.out.append (D.Words.one hdg)
          have HE4 : Hid (D.val (es ++ [dg]) + D.pw (m2 + 1) * x3 = val (xs.take (k + 1))) := by rw [D.val_snoc, Hl2.out]; exact HE3.out
          clear hrun ho3 hb3 hdx
          go_wp2_with (at_builtin; refine wpList_app (s := .tmp 21) (x := .tmp 25) (by rfl) rfl rfl rfl Hrun.out ?_)
          go_roundw
          case rel => exact ⟨q + 1, m2 + 1, c3, x3, A3, es ++ [dg], by omega, by omega, by omega, by go_num, rfl, rfl, Hx3, hx3, Hl3, Ho3, Hw3, HE4, hb4⟩
          case measure => simp [intOf]; omega
        · obtain rfl : q = 4 := by omega
          have hx0 : x2 = 0 := by
            have h1 := Hx2.out
            rw [show (4 : Nat) - 4 = 0 from rfl, D.pw_zero] at h1
            omega
          have HV3 : Hid (D.val es = val (xs.take (k + 1))) := by
            have := HE2.out
            rw [hx0] at this
            exact this
          clear hx0 HE2
          go_wp2
          go_roundw
          case rel => exact ⟨k + 1, m2, c2, A2, es, by omega, by omega, by omega, by go_num, rfl, Hl2, Ho2, Hw2, HV3, hb2⟩
          case measure => simp [intOf]; omega
    · obtain rfl : k = n := by omega
      have hV : D.val ds = val xs := by
        have := HV.out
        rw [List.take_of_length_le (by have := HA.out.len; omega)] at this
        exact this
      have hd := Ho.out.dig Hl.out Hw.out
      have hN := (norm_any A1 m c1 ds _ hd (by omega)).mono (R' := DTells w (val xs) (4 * k)) (fun e w' h => by
        obtain ⟨A', m', c', es, h1, h2, h3, h4, h5, h6⟩ := h
        exact ⟨A', m', c', es, h1, by omega, h3, h4, h5.trans hV, hb.trans (h6.mono hb.size)⟩)
      have HN := Lib.hid hN
      clear hV hd hN
      go_wp2_with fail
      refine HN.out.mono ?_
      intro e w' hr
      obtain ⟨A', m', c', es, rfl, h3⟩ := hr
      have H3 := Lib.hid h3
      clear h3
      go_wp2
      go_ret
      exact ⟨A', m', c', es, rfl, H3.out⟩
end Go.Proofs.YtgacafdkhailmaaDoor
