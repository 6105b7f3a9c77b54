/- The document's digits of long lists: contracts of planimeterref01.Norm, To, Bits, Bit, Double, Shr, planimeterref05.Of and the law's own of, for up to 2^20 limbs (written by mk_ebig.py). -/
import Derived.Test.YtijhdlkfihjbiaaGreatDoorEpLawW
namespace Go.Proofs.YtijhdlkfihjbiaaGreatDoor
open Go.RowKit

set_option maxHeartbeats 1000000 in
theorem norm_anyB (A : Option Addr) (n c : Nat) (ds : List Nat) (w : World) (h : Dig w A n c ds) (hn : n ≤ 5000000) :
    Calls Tryz.prog 91 #[.slice A n c] w (DTells w (D.val ds) n) := by
  have hc := h.le
  have HD := Lib.hid h
  clear h
  go_enter Tryz.func91, Tryz.ntmps91
  go_wp2
  go_loop [3] (fun i => ∃ k : Nat, k ≤ n ∧ i = .int .i64 k ∧ Hid (∀ j, k ≤ j → j < ds.length → ds.getD j 0 = 0)) (fun i => (intOf i).toNat)
  case atStart => exact ⟨n, Nat.le_refl _, rfl, fun j h1 h2 => by have := HD.out.len; omega⟩
  case round =>
    obtain ⟨k, hk, rfl, hz⟩ := hrel
    have fin : Hid (D.tl ds = k → ∃ A' c' w', (Builtin.append_ #[26, 26] 26 #[.slice (some ⟨w.heap.size, 0, none⟩) 0 0, .slice A k c]).run Tryz.prog (w.alloc (.cells #[] 87)) = .ok (.slice A' k c') w' ∧
        DTells w (D.val ds) n (.returned (.slice A' k c')) w') := fun e => by
      have hd := HD.out.take (m := k) hk
      obtain ⟨A', c', w', hrun, ho, hb⟩ := app_copy w A k c (ds.take k) hd.1 (by omega)
      refine ⟨A', c', w', hrun, A', k, c', ds.take k, rfl, hk, ho.dig hd.len hd.words, ?_, ?_, hb⟩
      · rw [← e]; exact D.bare_take ds
      · rw [← e]; exact D.val_take_tl ds
    cases k with
    | zero =>
      obtain ⟨A', c', w', hrun, hfin⟩ := fin.out (D.tl_eq (k := 0) hz.out (fun j hj => by omega))
      have Hrun := Lib.hid hrun
      have Hfin := Lib.hid hfin
      clear hrun hfin fin
      go_wp2_with (at_builtin; refine wpList_app (s := .tmp 18) (x := .tmp 21) (by rfl) rfl rfl rfl Hrun.out ?_)
      go_ret
      exact Hfin.out
    | succ k =>
      obtain ⟨b, o, rfl, hb, hcl⟩ := HD.out.at_ (by omega)
      have c1 := hcl k (by omega)
      clear hcl
      obtain ⟨x, hx⟩ : ∃ x, x = ds.getD k 0 := ⟨_, rfl⟩
      rw [← hx] at c1
      have Hx := Lib.hid hx
      clear hx
      by_cases h0 : x = 0
      · subst h0
        clear fin
        go_wp2
        go_round
        case rel => exact ⟨k, by omega, by go_num, fun j h1 h2 => by
          by_cases e : j = k
          · rw [e]; exact Hx.out.symm
          · exact hz.out j (by omega) h2⟩
        case measure => simp [intOf]
      · obtain ⟨A', c', w', hrun, hfin⟩ := fin.out (D.tl_eq (k := k + 1) hz.out (fun j hj => by obtain rfl : j = k := (by omega); rw [← Hx.out]; exact h0))
        have hb0 : ((x : Int) == 0) = false := beq_eq_false_iff_ne.2 (by omega)
        have Hrun := Lib.hid hrun
        have Hfin := Lib.hid hfin
        clear hrun hfin fin h0
        go_wp2_with (at_builtin; refine wpList_app (s := .tmp 18) (x := .tmp 21) (by rfl) rfl rfl rfl Hrun.out ?_)
        go_ret
        exact Hfin.out


set_option maxHeartbeats 2000000 in
set_option maxRecDepth 20000 in
theorem to_anyB (A : Option Addr) (n c : Nat) (xs : List Nat) (w : World) (h : Lim w A n c xs) (hn : n ≤ 1048576) :
    Calls Tryz.prog 51 #[.slice A n c] w (DTells w (val xs) (4 * n)) := by
  have HA := Lib.hid h
  clear h
  go_enter Tryz.func51, Tryz.ntmps51
  go_wp2
  go_loopw [3, 4] (fun v i wr => ∃ (k m c1 : Nat) (A1 : Option Addr) (ds : List Nat), k ≤ n ∧ m ≤ 4 * k ∧ 4 * k ≤ m ∧ i = .int .i64 k ∧ v = .slice A1 m c1 ∧ Hid (ds.length = m) ∧ Hid (Own .u32 87 wr w.heap.size (.slice A1 m c1) ds) ∧ Hid (D.Words ds) ∧ Hid (D.val ds = val (xs.take k)) ∧ Below w.heap.size w wr) (fun _ i _ => n - (intOf i).toNat)
  case atStart => exact ⟨0, 0, 0, none, [], Nat.zero_le _, Nat.zero_le _, Nat.zero_le _, rfl, rfl, rfl, Own.nil _ _ _ _, D.Words.nil, by simp [Hid, D.val, val], Below.refl _ _⟩
  case round =>
    obtain ⟨k, m, c1, A1, ds, hk, hm1, hm2, rfl, rfl, Hl, Ho, Hw, HV, hb⟩ := hrel
    by_cases hlt : k < n
    · obtain ⟨b, o, rfl, hbl, hcl⟩ := HA.out.at_ (by omega)
      have c2 := (hb.cell (p := ⟨b, o + k, none⟩) hbl).trans (hcl k hlt)
      clear hcl
      have hxw := HA.out.words.getD k
      obtain ⟨x, hx⟩ : ∃ x, xs.getD k 0 = x := ⟨_, rfl⟩
      rw [hx] at c2 hxw
      have HE : Hid (D.val ds + D.pw m * x = val (xs.take (k + 1))) := by
        rw [HV.out, val_take_succ', hx, show m = 4 * k from by omega, pw_dig]; rfl
      have Hx := Lib.hid hx
      clear hx HV
      go_wp2
      clear c2
      go_loopw [3, 5, 6] (fun v y j wr2 => ∃ (q m2 c2 x2 : Nat) (A2 : Option Addr) (es : List Nat), q ≤ 4 ∧ m2 ≤ m + q ∧ m + q ≤ m2 ∧ j = .int .i64 q ∧ y = .int .u64 x2 ∧ v = .slice A2 m2 c2 ∧ Hid (x2 < D.pw (4 - q)) ∧ x2 < 18446744073709551616 ∧ Hid (es.length = m2) ∧ Hid (Own .u32 87 wr2 w.heap.size (.slice A2 m2 c2) es) ∧ Hid (D.Words es) ∧ Hid (D.val es + D.pw m2 * x2 = val (xs.take (k + 1))) ∧ Below w.heap.size w wr2) (fun _ _ j _ => 4 - (intOf j).toNat)
      case atStart => exact ⟨0, m, c1, x, A1, ds, Nat.zero_le _, Nat.le_refl _, Nat.le_refl _, rfl, rfl, rfl, hxw, hxw, Hl, Ho, Hw, HE, hb⟩
      case round =>
        obtain ⟨q, m2, c2, x2, A2, es, hq, hm3, hm4, rfl, rfl, rfl, Hx2, hx2, Hl2, Ho2, Hw2, HE2, hb2⟩ := hrel
        by_cases hq4 : q < 4
        · obtain ⟨dg, x3, hdx, hdg⟩ : ∃ dg x3, x2 = dg + 65536 * x3 ∧ dg < 65536 := ⟨x2 % 65536, x2 / 65536, by omega, by omega⟩
          have e1 : (x2 : Int) % 65536 = (dg : Int) := by omega
          have e2 : (x2 : Int) / 65536 = (x3 : Int) := by omega
          have hx3 : x3 < 18446744073709551616 := by omega
          have Hx3 : Hid (x3 < D.pw (4 - (q + 1))) := by
            have h1 := Hx2.out
            rw [show 4 - q = (4 - (q + 1)) + 1 from by omega, D.pw_succ] at h1
            show x3 < _
            omega
          have HE3 := Lib.hid (dig_step hdx HE2.out)
          obtain ⟨A3, c3, w3, hrun, ho3, hb3⟩ := app_digit wr w.heap.size A2 m2 c2 es dg dg rfl Ho2.out Hl2.out hb2.size (by omega)
          have Hrun := Lib.hid hrun
          have Ho3 := Lib.hid ho3
          have hb4 := hb2.trans hb3
          have Hl3 : Hid ((es ++ [dg]).length = m2 + 1) := by have := Hl2.out; simp [Hid]; omega
          have Hw3 : Hid (D.Words (es ++ [dg])) := Hw2.out.append (D.Words.one hdg)
          have HE4 : Hid (D.val (es ++ [dg]) + D.pw (m2 + 1) * x3 = val (xs.take (k + 1))) := by rw [D.val_snoc, Hl2.out]; exact HE3.out
          clear hrun ho3 hb3 hdx
          go_wp2_with (at_builtin; refine wpList_app (s := .tmp 21) (x := .tmp 25) (by rfl) rfl rfl rfl Hrun.out ?_)
          go_roundw
          case rel => exact ⟨q + 1, m2 + 1, c3, x3, A3, es ++ [dg], by omega, by omega, by omega, by go_num, rfl, rfl, Hx3, hx3, Hl3, Ho3, Hw3, HE4, hb4⟩
          case measure => simp [intOf]; omega
        · obtain rfl : q = 4 := by omega
          have hx0 : x2 = 0 := by
            have h1 := Hx2.out
            rw [show (4 : Nat) - 4 = 0 from rfl, D.pw_zero] at h1
            omega
          have HV3 : Hid (D.val es = val (xs.take (k + 1))) := by
            have := HE2.out
            rw [hx0] at this
            exact this
          clear hx0 HE2
          go_wp2
          go_roundw
          case rel => exact ⟨k + 1, m2, c2, A2, es, by omega, by omega, by omega, by go_num, rfl, Hl2, Ho2, Hw2, HV3, hb2⟩
          case measure => simp [intOf]; omega
    · obtain rfl : k = n := by omega
      have hV : D.val ds = val xs := by
        have := HV.out
        rw [List.take_of_length_le (by have := HA.out.len; omega)] at this
        exact this
      have hd := Ho.out.dig Hl.out Hw.out
      have hN := (norm_anyB A1 m c1 ds _ hd (by omega)).mono (R' := DTells w (val xs) (4 * k)) (fun e w' h => by
        obtain ⟨A', m', c', es, h1, h2, h3, h4, h5, h6⟩ := h
        exact ⟨A', m', c', es, h1, by omega, h3, h4, h5.trans hV, hb.trans (h6.mono hb.size)⟩)
      have HN := Lib.hid hN
      clear hV hd hN
      go_wp2_with fail
      refine HN.out.mono ?_
      intro e w' hr
      obtain ⟨A', m', c', es, rfl, h3⟩ := hr
      have H3 := Lib.hid h3
      clear h3
      go_wp2
      go_ret
      exact ⟨A', m', c', es, rfl, H3.out⟩

set_option maxHeartbeats 1000000 in
theorem rbits_anyB (A : Option Addr) (n c : Nat) (ds : List Nat) (w : World) (h : Dig w A n c ds) (hb : D.Bare ds) (hn : n ≤ 5000000) :
    Calls Tryz.prog 26 #[.slice A n c] w fun e w' => e = .returned (.int .i64 (blen (D.val ds) : Int)) ∧ w = w' := by
  cases n with
  | zero =>
    have HV : Hid (blen (D.val ds) = 0) := by
      have : ds = [] := List.eq_nil_of_length_eq_zero h.len
      subst this; rfl
    clear h hb
    go_enter Tryz.func26, Tryz.ntmps26
    go_wp2
    go_ret
    exact ⟨by rw [HV.out]; rfl, rfl⟩
  | succ j =>
    have hne := D.getD_tl_pred (xs := ds) (j := j) (by rw [hb, h.len])
    have hlo := D.val_lt (h.words.take j)
    rw [List.length_take, h.len, Nat.min_eq_left (by omega), D.pw_two] at hlo
    have hlast := D.val_take_succ ds j (by rw [h.len]; omega)
    rw [List.take_of_length_le (by rw [h.len]; exact Nat.le_refl _), D.pw_two] at hlast
    have hV : blen (D.val ds) = 16 * j + blen (ds.getD j 0) := by rw [hlast]; exact blen_top hlo hne
    obtain ⟨b, o, rfl, hbl, hcl⟩ := h.at_ (by omega)
    have c1 := hcl j (by omega)
    have hxw := h.words.getD j
    generalize ds.getD j 0 = x at c1 hV hxw hne
    have hxb := blen_le_iff.2 (show x < 2 ^ 16 from hxw)
    have b1 : (((j : Int) + 1) == 0) = false := beq_eq_false_iff_ne.2 (by omega)
    have HV := Lib.hid hV
    have Hxb := Lib.hid hxb
    clear hne hlo hlast hV hcl h hb hxb
    go_enter Tryz.func26, Tryz.ntmps26
    go_wp2
    clear b1 c1
    go_loop [3, 4] (fun i y => ∃ k z : Nat, k ≤ 16 ∧ z < 65536 ∧ i = .int .i64 (16 * (j : Int) + k) ∧ y = .int .u32 z ∧ Hid (k + blen z = blen x)) (fun _ y => (intOf y).toNat)
    case atStart => exact ⟨0, x, by omega, hxw, rfl, rfl, by show 0 + blen x = blen x; omega⟩
    case round =>
      obtain ⟨k, z, hk, hz, rfl, rfl, HE⟩ := hrel
      by_cases h0 : z = 0
      · subst h0
        have HF : Hid (blen (D.val ds) = 16 * j + k) := by
          rw [HV.out]
          have := HE.out
          rw [blen_zero] at this
          show _ = _
          omega
        go_wp2
        go_ret
        exact ⟨ret_int (a := 16 * (j : Int) + k) (by rw [HF.out]; omega), rfl⟩
      · have HE2 : Hid ((k + 1) + blen (z / 2) = blen x) := by
          have h1 := HE.out
          rw [blen_half h0] at h1
          show _ = _
          omega
        have hk2 : k + 1 ≤ 16 := by have h1 := HE2.out; have h2 := Hxb.out; omega
        have b2 : decide (0 < z) = true := by simp; omega
        have b3 : decide ((0 : Int) < (z : Int)) = true := by simp; omega
        go_wp2
        go_round
        case rel => exact ⟨k + 1, z / 2, hk2, by omega, by go_num, by go_num, HE2⟩
        case measure => simp [intOf]; omega


set_option maxHeartbeats 1000000 in
theorem rbit_anyB (v : Nat) (A : Option Addr) (n c : Nat) (ds : List Nat) (i : Nat) (w : World) (h : Dig w A n c ds) (hn : n ≤ 5000000) (hi : i ≤ 1000000000) (hv : Hid (D.val ds / 2 ^ i % 2 = v)) :
    Calls Tryz.prog 52 #[.slice A n c, .int .i64 (i : Int)] w fun e w' => e = .returned (.int .u32 (v : Int)) ∧ w = w' := by
  obtain ⟨q, hq⟩ : ∃ q, i / 16 = q := ⟨_, rfl⟩
  obtain ⟨r, hr⟩ : ∃ r, i % 16 = r := ⟨_, rfl⟩
  have e1 : (i : Int) / 16 = (q : Int) := by omega
  have e2 : (i : Int) % 16 = (r : Int) := by omega
  have hr16 : r < 16 := by omega
  by_cases hlt : q < n
  · have HV := Lib.hid (hv.out.symm.trans (bit_at (i := i) h.words (by rw [h.len]; omega)))
    rw [hq, hr] at HV
    obtain ⟨b, o, rfl, hbl, hcl⟩ := h.at_ (by omega)
    have c1 := hcl q hlt
    have hxw := h.words.getD q
    generalize ds.getD q 0 = x at c1 HV hxw
    have b1 : decide (n ≤ q) = false := by simp; omega
    clear hcl h hq hr hv
    go_enter Tryz.func52, Tryz.ntmps52
    go_wp2
    clear c1 e1
    go_loop [5, 6] (fun y j => ∃ k z : Nat, k ≤ r ∧ z < 65536 ∧ j = .int .i64 k ∧ y = .int .u32 z ∧ Hid (z = x / 2 ^ k)) (fun _ j => r - (intOf j).toNat)
    case atStart => exact ⟨0, x, Nat.zero_le _, hxw, rfl, rfl, by simp [Hid]⟩
    case round =>
      obtain ⟨k, z, hk, hz, rfl, rfl, HE⟩ := hrel
      by_cases hkr : k < r
      · have HE2 : Hid (z / 2 = x / 2 ^ (k + 1)) := by rw [HE.out, Nat.div_div_eq_div_mul, Nat.pow_succ]; rfl
        go_wp2
        go_round
        case rel => exact ⟨k + 1, z / 2, by omega, by omega, by go_num, by go_num, HE2⟩
        case measure => simp [intOf]; omega
      · obtain rfl : k = r := by omega
        have HF : Hid (v = z % 2) := by rw [HV.out, HE.out]; rfl
        go_wp2
        go_ret
        exact ⟨ret_int (a := (z : Int) % 2) (by rw [HF.out]; omega), rfl⟩
  · have HV := Lib.hid (hv.out.symm.trans (bit_past (i := i) h.words (by rw [h.len]; omega)))
    have b1 : decide (n ≤ q) = true := by simp; omega
    clear h hq hr hv
    go_enter Tryz.func52, Tryz.ntmps52
    go_wp2
    go_ret
    exact ⟨by rw [HV.out]; rfl, rfl⟩


set_option maxHeartbeats 4000000 in
theorem rdouble_anyB (A : Option Addr) (n c : Nat) (us : List Nat) (mo : Nat) (w : World) (hA : Dig w A n c us) (ba : D.Bare us) (hmo : mo ≤ 1) (hn : n ≤ 400000000) :
    Calls Tryz.prog 67 #[.slice A n c, .int .u32 (mo : Int)] w (DTells w (2 * D.val us + mo) (n + 1)) := by
  have HA := Lib.hid hA
  have Hga := Lib.hid (dval_ge ba hA.len)
  clear hA ba
  go_enter Tryz.func67, Tryz.ntmps67
  go_wp2
  go_loopw [5, 6, 7] (fun v cy i wr => ∃ (k cn m1 c1 : Nat) (A1 : Option Addr) (es : List Nat), k ≤ n + 1 ∧ cn ≤ 1 ∧ m1 ≤ k ∧ k ≤ m1 ∧ i = .int .i64 k ∧ cy = .int .u32 cn ∧ v = .slice A1 m1 c1 ∧ Hid (es.length = m1) ∧ Hid (Own .u32 87 wr w.heap.size (.slice A1 m1 c1) es) ∧ Hid (D.Words es) ∧ Hid (D.val es + D.pw k * cn = 2 * D.val (us.take k) + mo) ∧ Hid (k ≤ n ∨ (cn = 0 ∧ D.pw n ≤ 2 * D.val us + mo)) ∧ Below w.heap.size w wr) (fun _ _ i _ => n + 1 - (intOf i).toNat)
  case atStart => exact ⟨0, mo, 0, 0, none, [], Nat.zero_le _, hmo, Nat.zero_le _, Nat.zero_le _, rfl, rfl, rfl, rfl, Own.nil _ _ _ _, D.Words.nil, by simp [Hid, D.val, D.pw_zero], Or.inl (Nat.zero_le _), Below.refl _ _⟩
  case round =>
    obtain ⟨k, cn, m1, c1, A1, es, hk, hcn, hm1, hm2, rfl, rfl, rfl, Hl, Ho, Hw, HE, HM, hb⟩ := hrel
    obtain ⟨x, hx⟩ : ∃ x, us.getD k 0 = x := ⟨_, rfl⟩
    have hxw := HA.out.words.getD k
    rw [hx] at hxw
    obtain ⟨s, t, hst, hs, ht⟩ : ∃ s t, s + 65536 * t = cn + 2 * x ∧ s < 65536 ∧ t ≤ 1 := ⟨(cn + 2 * x) % 65536, (cn + 2 * x) / 65536, by omega, by omega, by omega⟩
    have hm3 : m1 = k := by omega
    have HE' := Lib.hid (ddbl_step hst HE.out)
    rw [← hx, ← D.val_take_succ'] at HE'
    obtain ⟨A3, c3, w3, hrun, ho3, hb3⟩ := app_digit wr w.heap.size A1 m1 c1 es s s rfl Ho.out Hl.out hb.size (by omega)
    have Hrun := Lib.hid hrun
    have Ho3 := Lib.hid ho3
    have hb4 := hb.trans hb3
    have Hl3 : Hid ((es ++ [s]).length = m1 + 1) := by have := Hl.out; simp [Hid]; omega
    have Hw3 : Hid (D.Words (es ++ [s])) := Hw.out.append (D.Words.one hs)
    have HE3 : Hid (D.val (es ++ [s]) + D.pw (k + 1) * t = 2 * D.val (us.take (k + 1)) + mo) := by rw [D.val_snoc, Hl.out, hm3]; exact HE'.out
    have Hst := Lib.hid hst
    have Hx := Lib.hid hx
    have hla := HA.out.len
    clear hrun ho3 hb3 hx hst HE' hm3
    by_cases h1 : k < n
    · have HM3 : Hid (k + 1 ≤ n ∨ (t = 0 ∧ D.pw n ≤ 2 * D.val us + mo)) := Or.inl (by omega)
      obtain ⟨ba, oa, rfl, hba, hcl⟩ := HA.out.at_ (by omega)
      have ca := (hb.cell (p := ⟨ba, oa + k, none⟩) hba).trans (hcl k (by omega))
      rw [Hx.out] at ca
      clear hcl
      have e1 : ((cn : Int) + 2 * (x : Int)) % 65536 = (s : Int) := by have := Hst.out; omega
      have e2 : ((cn : Int) + 2 * (x : Int)) / 65536 = (t : Int) := by have := Hst.out; omega
      have b1 : decide (k < n) = true := by simp; omega
      clear hla
      go_wp2_with (at_builtin; refine wpList_app (s := .tmp 32) (x := .tmp 35) (by rfl) rfl rfl rfl Hrun.out ?_)
      go_roundw
      case rel => exact ⟨k + 1, t, m1 + 1, c3, A3, es ++ [s], by omega, ht, by omega, by omega, by go_num, by first | rfl | rw [e2], rfl, Hl3, Ho3, Hw3, HE3, HM3, hb4⟩
      case measure => simp [intOf]; omega
    · have hx0 : x = 0 := by rw [← Hx.out]; exact getD_past (by omega)
      have b1 : decide (k < n) = false := by simp; omega
      have hta : us.take k = us := List.take_of_length_le (by omega)
      have HEf : Hid (D.val es + D.pw k * cn = 2 * D.val us + mo) := by have := HE.out; rw [hta] at this; exact this
      by_cases h3 : cn = 1
      · have e1 : (cn : Int) % 65536 = (s : Int) := by have := Hst.out; omega
        have e2 : (cn : Int) / 65536 = (t : Int) := by have := Hst.out; omega
        have b3 : decide (0 < cn) = true := by simp; omega
        have hkM : k ≤ n := by
          rcases HM.out with h | ⟨h, _⟩
          · exact h
          · omega
        have HM3 : Hid (k + 1 ≤ n ∨ (t = 0 ∧ D.pw n ≤ 2 * D.val us + mo)) := Or.inr ⟨by have := Hst.out; omega, by
          have h4 := HEf.out
          rw [h3, Nat.mul_one, show k = n from by omega] at h4
          omega⟩
        clear hla hx0 hta h3
        go_wp2_with (at_builtin; refine wpList_app (s := .tmp 32) (x := .tmp 35) (by rfl) rfl rfl rfl Hrun.out ?_)
        go_roundw
        case rel => exact ⟨k + 1, t, m1 + 1, c3, A3, es ++ [s], by omega, ht, by omega, by omega, by go_num, by first | rfl | rw [e2], rfl, Hl3, Ho3, Hw3, HE3, HM3, hb4⟩
        case measure => simp [intOf]; omega
      · obtain rfl : cn = 0 := by omega
        have hV : D.val es = 2 * D.val us + mo := by have := HEf.out; rw [Nat.mul_zero, Nat.add_zero] at this; exact this
        have hbare : D.Bare es := dbare_of Hw.out Hl.out (by
          rw [hV]
          rcases HM.out with h | ⟨_, h⟩
          · obtain rfl : m1 = n := by omega
            rcases Hga.out with g | g
            · exact Or.inl g
            · exact Or.inr (by omega)
          · by_cases e : m1 ≤ n
            · obtain rfl : m1 = n := by omega
              have : D.pw (m1 - 1) ≤ D.pw m1 := D.pw_mono (by omega)
              exact Or.inr (by omega)
            · rw [show m1 - 1 = n from by omega]
              exact Or.inr h)
        have Hfin : Hid (DTells w (2 * D.val us + mo) (n + 1) (.returned (.slice A1 m1 c1)) wr) := ⟨A1, m1, c1, es, rfl, by omega, Ho.out.dig Hl.out Hw.out, hbare, hV, hb⟩
        clear hla hx0 hta h3 hV hbare
        go_wp2
        go_ret
        exact Hfin.out

set_option maxHeartbeats 4000000 in
theorem rshr_posB (A : Option Addr) (n c : Nat) (ds : List Nat) (N : Nat) (hNb : N ≤ 9223372036854775807) (w : World) (hA : Dig w A n c ds) (ba : D.Bare ds) (hn : n ≤ 5000000) :
    Calls Tryz.prog 32 #[.slice A n c, .int .i64 (N : Int)] w (DTells2 w (D.val ds / 2 ^ N) 400000000 (.bool (decide (D.val ds % 2 ^ N ≠ 0)))) := by
  obtain ⟨V, hV⟩ : ∃ V, D.val ds = V := ⟨_, rfl⟩
  obtain ⟨R, hR⟩ : ∃ R, decide (V % 2 ^ N ≠ 0) = R := ⟨_, rfl⟩
  obtain ⟨Q, hQ⟩ : ∃ Q, V / 2 ^ N = Q := ⟨_, rfl⟩
  rw [hV, hR, hQ]
  have HR := Lib.hid hR
  have HQ := Lib.hid hQ
  have HV := Lib.hid hV
  have HA := Lib.hid hA
  obtain ⟨bl, hbl⟩ : ∃ bl, blen V = bl := ⟨_, rfl⟩
  have hblb : bl ≤ 16 * n := by
    rw [← hbl, ← hV]
    exact blen_le_iff.2 (by rw [← D.pw_two, ← hA.len]; exact D.val_lt hA.words)
  have Hlt : Hid (V < 2 ^ bl) := by rw [← hbl]; exact lt_blen V
  have hbits := rbits_anyB A n c ds w hA ba (by omega)
  rw [hV, hbl] at hbits
  have Hbits := Lib.hid hbits
  have b0 : decide ((N : Int) < 0) = false := by simp
  clear hR hQ hV hbl hbits hA ba
  go_enter Tryz.func32, Tryz.ntmps32
  go_wp2_with fail
  refine Hbits.out.mono ?_
  rintro e w' ⟨rfl, rfl⟩
  go_wp2_with fail
  clear Hbits b0
  go_loopw [7, 8] (fun v i wr => ∃ (j m1 c1 : Nat) (A1 : Option Addr) (es : List Nat), j ≤ bl ∧ m1 + j ≤ 2 * bl + 5 ∧ i = .int .i64 ((j : Int) - 1) ∧ v = .slice A1 m1 c1 ∧ Hid (N ≤ j ∨ j = bl) ∧ Hid (Dig wr A1 m1 c1 es) ∧ Hid (D.Bare es) ∧ Hid (D.val es = V / 2 ^ j) ∧ Below w.heap.size w wr) (fun _ i _ => (intOf i + 1).toNat)
  case atStart => exact ⟨bl, 0, 0, none, [], Nat.le_refl _, by omega, rfl, rfl, Or.inr rfl, Dig.nil _ _ _, rfl, by rw [Nat.div_eq_of_lt Hlt.out]; rfl, Below.refl _ _⟩
  case round =>
    obtain ⟨j, m1, c1, A1, es, hj, hm1, rfl, rfl, Hj, Hes, Hbe, HE, hb⟩ := hrel
    by_cases hc : N < j
    · obtain ⟨j, rfl⟩ : ∃ j', j = j' + 1 := ⟨j - 1, by omega⟩
      rw [show (((j + 1 : Nat) : Int) - 1) = (j : Int) from by omega]
      obtain ⟨v, hv⟩ : ∃ v, V / 2 ^ j % 2 = v := ⟨_, rfl⟩
      have hv2 : v ≤ 1 := by rw [← hv]; omega
      have hdb := half_step V j
      rw [hv] at hdb
      have Hdb := Lib.hid hdb
      have Hv := Lib.hid hv
      have hbit := rbit_anyB v A n c ds j wr (HA.out.below hb) (by omega) (by omega) (by rw [HV.out]; exact Hv)
      have Hbit := Lib.hid hbit
      have b2 : decide (N ≤ j) = true := by simp; omega
      clear hbit hdb hv
      go_wp2_with fail
      refine Hbit.out.mono ?_
      rintro e w' ⟨rfl, rfl⟩
      go_wp2_with fail
      refine (rdouble_anyB A1 m1 c1 es v _ Hes.out Hbe.out hv2 (by omega)).mono ?_
      rintro e w2 ⟨A2, m2, c2, fs, rfl, hm2, hfs, hbf, hvf, hb2⟩
      have Hfs := Lib.hid hfs
      have Hbf := Lib.hid hbf
      have Hvf : Hid (D.val fs = V / 2 ^ j) := by rw [hvf, HE.out]; exact Hdb.out
      have hb3 := hb.trans (hb2.mono hb.size)
      clear hfs hbf hvf hb2
      go_wp2
      go_roundw
      case rel => exact ⟨j, m2, c2, A2, fs, by omega, by omega, by go_num, rfl, Or.inl (by omega), Hfs, Hbf, Hvf, hb3⟩
      case measure => simp [intOf]
    · have HQ2 : Hid (D.val es = Q) := by
        rw [HE.out, ← HQ.out]
        rcases Hj.out with h | h
        · rw [show j = N from by omega]; rfl
        · have h1 := Hlt.out
          rw [h, Nat.div_eq_of_lt h1, Nat.div_eq_of_lt (Nat.lt_of_lt_of_le h1 (Nat.pow_le_pow_right (by decide) (by omega)))]; rfl
      have b2 : decide ((N : Int) ≤ (j : Int) - 1) = false := by simp; omega
      go_wp2_with fail
      clear b2
      go_loop [9, 10] (fun r i => ∃ (k : Nat) (rb : Bool), k ≤ N ∧ k ≤ bl ∧ i = .int .i64 k ∧ r = .bool rb ∧ Hid (rb = decide (V % 2 ^ k ≠ 0))) (fun _ i => bl - (intOf i).toNat)
      case atStart => exact ⟨0, false, Nat.zero_le _, Nat.zero_le _, rfl, rfl, by simp [Hid, Nat.mod_one]⟩
      case round =>
        obtain ⟨k, rb, hk1, hk2, rfl, rfl, Hrb⟩ := hrel
        by_cases hc2 : k < N ∧ k < bl
        · obtain ⟨h1, h2⟩ := hc2
          obtain ⟨v, hv⟩ : ∃ v, V / 2 ^ k % 2 = v := ⟨_, rfl⟩
          have hv2 : v = 0 ∨ v = 1 := by rw [← hv]; omega
          have hst := rest_step Hrb.out hv
          have Hst := Lib.hid hst
          have Hv := Lib.hid hv
          have hbit := rbit_anyB v A n c ds k wr (HA.out.below hb) (by omega) (by omega) (by rw [HV.out]; exact Hv)
          have Hbit := Lib.hid hbit
          have b3 : decide (k < N) = true := by simp; omega
          have b4 : decide (k < bl) = true := by simp; omega
          clear hbit hst hv
          cases rb with
          | true =>
            clear hv2
            go_wp2
            go_round
            case rel => exact ⟨k + 1, true, by omega, by omega, by go_num, rfl, by have := Hst.out; rw [Bool.true_or] at this; exact this⟩
            case measure => simp [intOf]; omega
          | false =>
            rcases hv2 with rfl | rfl
            · go_wp2_with fail
              refine Hbit.out.mono ?_
              rintro e w' ⟨rfl, rfl⟩
              go_wp2
              go_round
              case rel => exact ⟨k + 1, false, by omega, by omega, by go_num, rfl, Hst.out⟩
              case measure => simp [intOf]; omega
            · go_wp2_with fail
              refine Hbit.out.mono ?_
              rintro e w' ⟨rfl, rfl⟩
              go_wp2
              go_round
              case rel => exact ⟨k + 1, true, by omega, by omega, by go_num, rfl, Hst.out⟩
              case measure => simp [intOf]; omega
        · have HR2 : Hid (rb = R) := by
            rw [Hrb.out, ← HR.out]
            by_cases e : k = N
            · rw [e]; rfl
            · have h1 := Hlt.out
              have ek : k = bl := by omega
              rw [ek, Nat.mod_eq_of_lt h1, Nat.mod_eq_of_lt (Nat.lt_of_lt_of_le h1 (Nat.pow_le_pow_right (by decide) (by omega)))]; rfl
          have g : decide (k < N) = false ∨ (decide (k < N) = true ∧ decide (k < bl) = false) := by
            by_cases e : k < N
            · exact Or.inr ⟨by simp; omega, by simp; omega⟩
            · exact Or.inl (by simp; omega)
          have hfin : DTells2 w Q 400000000 (.bool R) (.returned (.tuple #[.slice A1 m1 c1, .bool rb])) wr := by
            rw [HR2.out]
            exact ⟨A1, m1, c1, es, rfl, by omega, Hes.out, Hbe.out, HQ2.out, hb⟩
          have Hfin := Lib.hid hfin
          clear hfin hc2
          rcases g with b3 | ⟨b3, b4⟩
          all_goals
            go_wp2
            go_ret2
            exact Hfin.out


set_option maxHeartbeats 1000000 in
theorem rof_anyB (g : Bool) (A : Option Addr) (n c : Nat) (xs : List Nat) (e0 : Int) (w : World) (hA : Lim w A n c xs) (hn : n ≤ 1048576) :
    Calls Tryz.prog 18 #[.agg #[.bool g, .slice A n c, .int .i64 e0]] w (NTold w (nO g (val xs) e0) (4 * n)) := by
  have a3 : Below w.heap.size w ((w.alloc (.cells #[.bool g, .slice A n c, .int .i64 e0] 24)).alloc (.cells #[.bool false, .slice none 0 0, .int .i64 0] 28)) := ((Below.refl _ _).alloc (Nat.le_refl _) _).alloc (by simp) _
  have H1 := Lib.hid (to_anyB A n c xs _ (hA.below a3) (by omega))
  have b1 := (Bd.new w 24 g A n c e0).alloc (.cells #[.bool false, .slice none 0 0, .int .i64 0] 28)
  have b2 := Bd.new (w.alloc (.cells #[.bool g, .slice A n c, .int .i64 e0] 24)) 28 false none 0 0 0
  rw [World.size_alloc] at b2
  have Hb1 := Lib.hid b1
  have Hb2 := Lib.hid b2
  have HS := Lib.hid a3
  have hlt := val_lt hA.words
  rw [hA.len] at hlt
  have Hlt : Hid (val xs < 2 ^ (16 * (4 * n))) := by
    rw [pw_two, show 64 * n = 16 * (4 * n) by omega] at hlt
    exact hlt
  have hbl := hA.blen_le
  generalize val xs = V at *
  clear hA a3 b1 b2 hlt
  go_enter Tryz.func18, Tryz.ntmps18
  go_wp2_with fail
  refine H1.out.mono ?_
  rintro e w1 ⟨A1, m1, c1, ds, rfl, hm1, hl1, hd1, hv1, hB1⟩
  have HL1 := Lib.hid hl1
  have hk1 := Lib.hid (Hb1.out.below hB1)
  have hk2 := Lib.hid (Hb2.out.below hB1)
  have HS1 := Lib.hid (HS.out.trans (hB1.mono HS.out.size))
  have hm9 : m1 ≤ 4194304 := by omega
  by_cases h0 : V = 0
  · obtain rfl : ds = [] := by
      have h5 : D.tl ds = 0 := D.tl_zero_iff.2 (hv1.trans h0)
      rw [hd1] at h5
      exact List.eq_nil_of_length_eq_zero h5
    obtain rfl : m1 = 0 := hl1.len.symm
    have Hfin : Hid (NTold w (nO g V e0) (4 * n) (.returned (.agg #[.bool false, .slice none 0 0, .int .i64 0])) (World.put w1 (w.heap.size + 1) false none 0 0 0)) := by
      rw [h0, nO_zero]
      exact ⟨none, 0, 0, [], rfl, Nat.zero_le _, Dig.nil _ _ _, rfl, rfl, below_put HS1.out (Nat.le_succ _) _ _ _ _ _⟩
    have y0 := hk2.out.c0
    have y1 := hk2.out.c1
    have y2 := hk2.out.c2
    have yf := hk2.out.fz
    clear hk1 hk2 hB1 hl1 hd1 hv1 H1 Hb1 Hb2 HS HL1 h0 HS1
    go_wp2
    exact bodyPost_ret (v := .agg #[.bool false, .slice none 0 0, .int .i64 0]) (by simp [results, Tryz.results18, go_sem, y0, y1, y2]) rfl Hfin.out
  · have hm0 : 0 < m1 := by
      rcases Nat.eq_zero_or_pos m1 with h | h
      · exfalso
        apply h0
        rw [← hv1]
        have h5 := hl1.len
        rw [h] at h5
        rw [List.eq_nil_of_length_eq_zero h5]; rfl
      · exact h
    obtain ⟨l, hl⟩ : ∃ l, low V = l := ⟨_, rfl⟩
    have hl9 : l ≤ 64 * n := by rw [← hl]; exact Nat.le_trans (low_le_blen V) hbl
    have Hbit : Hid (∀ j, j ≤ l → V / 2 ^ j % 2 = if j = l then 1 else 0) := fun j hj => by
      rw [← hl]; exact low_bit (Nat.pos_of_ne_zero h0) (by omega)
    have Hv1 := Lib.hid hv1
    have Hd1 := Lib.hid hd1
    have c0 : ((m1 : Int) == 0) = false := beq_no (by omega)
    have HN : Hid (nO g V e0 = ⟨g, V / 2 ^ l, held e0 + l⟩) := by rw [← hl]; exact nO_pos g e0 h0
    clear hB1 hl1 hd1 hv1 H1 Hb1 Hb2 HS h0 hl hbl
    go_wp2
    go_loop [4] (fun i => ∃ j : Nat, j ≤ l ∧ i = .int .i64 j) (fun i => l - (intOf i).toNat)
    case atStart => exact ⟨0, Nat.zero_le _, rfl⟩
    case round =>
      obtain ⟨j, hj, rfl⟩ := hrel
      by_cases hjl : j = l
      · subst hjl
        have Hb : Hid (D.val ds / 2 ^ j % 2 = 1) := by rw [Hv1.out]; have := Hbit.out j (Nat.le_refl _); rw [if_pos rfl] at this; exact this
        have H5 := rshr_posB A1 m1 c1 ds j (by omega) w1 HL1.out Hd1.out (by omega)
        rw [Hv1.out] at H5
        generalize decide (V % 2 ^ j ≠ 0) = R at H5
        have H5 := Lib.hid H5
        obtain ⟨h, hh⟩ : ∃ h, held e0 = h := ⟨_, rfl⟩
        have hhb := held_bd e0
        rw [hh] at hhb
        have Hh := Lib.hid hh
        have Hlt2 : Hid (V / 2 ^ j < 2 ^ (16 * (4 * n))) := Nat.lt_of_le_of_lt (Nat.div_le_self _ _) Hlt.out
        rw [hh] at HN
        have hw : IntKind.i64.wrap (h + (j : Int)) = h + (j : Int) := by rw [IntKind.wrap_i64]; omega
        clear hh Hlt Hbit
        go_wp2_with fail
        refine (rbit_anyB 1 A1 m1 c1 ds j w1 HL1.out (by omega) (by omega) Hb).mono ?_
        rintro e w' ⟨rfl, rfl⟩
        go_wp2_with fail
        refine H5.out.mono ?_
        rintro e w2 ⟨A2, m2, c2, es, rfl, _, hl2, hd2, hv2, hB2⟩
        have k1 := hk1.out.below hB2
        have k2 := hk2.out.below hB2
        have hm2 : m2 ≤ 4 * n := by
          rw [← hl2.len]
          exact dig_len hd2 (by rw [hv2]; exact Hlt2.out)
        have Hfin : Hid (NTold w (nO g V e0) (4 * n) (.returned (.agg #[.bool g, .slice A2 m2 c2, .int .i64 (h + j)])) (World.put w2 (w.heap.size + 1) g A2 m2 c2 (h + j)).drew) := by
          rw [HN.out]
          exact ⟨A2, m2, c2, es, rfl, hm2, (k2.dig hl2 _ _ _ _ _).drew, hd2, hv2, (below_put (HS1.out.trans (hB2.mono HS1.out.size)) (Nat.le_succ _) _ _ _ _ _).drew⟩
        have q1 := k1.other (b' := w.heap.size + 1) (by omega) g A2 m2 c2 (h + j)
        have K0 := Lib.hid (And.intro k1.drew.c0 k1.drew.c2)
        have K1 := Lib.hid (And.intro q1.drew.c0 q1.drew.c2)
        have y0 := k2.c0
        have y1 := k2.c1
        have y2 := k2.c2
        have yf := k2.fz
        clear k1 k2 q1 hB2 hl2 hd2 hv2 H5 hk1 hk2 HS1 HN Hlt2 Hb HL1 Hv1 Hd1
        go_wp2_with fail
        go_region_held3 (fun w' => w'.cell? ⟨w.heap.size, 0, none⟩ = some (.bool g) ∧ w'.cell? ⟨w.heap.size, 2, none⟩ = some (.int .i64 e0)) (first | (with_reducible exact K0.out) | (with_reducible exact K1.out)) (first | (go_at_call 53; (with_reducible refine (cut_l e0 h _ Hh).mono ?_); rintro e w' ⟨rfl, rfl⟩))
        all_goals (
          go_wp2_with fail
          exact bodyPost_ret (v := .agg #[.bool g, .slice A2 m2 c2, .int .i64 (h + j)]) (by simp [results, Tryz.results18, go_sem, y0, y1, y2]) rfl Hfin.out)
      · have Hb : Hid (D.val ds / 2 ^ j % 2 = 0) := by rw [Hv1.out]; have := Hbit.out j hj; rw [if_neg hjl] at this; exact this
        clear Hbit HN hk1 hk2 HS1 Hlt
        go_wp2_with fail
        refine (rbit_anyB 0 A1 m1 c1 ds j w1 HL1.out (by omega) (by omega) Hb).mono ?_
        rintro e w' ⟨rfl, rfl⟩
        go_wp2
        go_round
        case rel => exact ⟨j + 1, by omega, by go_num⟩
        case measure => simp [intOf]; omega

set_option maxHeartbeats 1000000 in
theorem eof_lB (g : Bool) (A : Option Addr) (n c : Nat) (xs : List Nat) (e0 : Int) (w : World) (hA : Lim w A n c xs) (hn : n ≤ 1048576) :
    Calls Tryz.prog 5 #[.agg #[.bool g, .slice A n c, .int .i64 e0]] w (NTold w (nO g (val xs) e0) (4 * n)) := by
  have a3 : Below w.heap.size w ((w.alloc (.cells #[.bool g, .slice A n c, .int .i64 e0] 24)).alloc (.cells #[.bool false, .slice none 0 0, .int .i64 0] 28)) := ((Below.refl _ _).alloc (Nat.le_refl _) _).alloc (by simp) _
  have b2 := Bd.new (w.alloc (.cells #[.bool g, .slice A n c, .int .i64 e0] 24)) 28 false none 0 0 0
  rw [World.size_alloc] at b2
  obtain ⟨o, ho⟩ : ∃ o, nO g (val xs) e0 = o := ⟨_, rfl⟩
  have h1 := rof_anyB g A n c xs e0 _ (hA.below a3) hn
  rw [ho] at h1 ⊢
  have H1 := Lib.hid h1
  have HB := Lib.hid b2
  have HS := Lib.hid a3
  obtain ⟨og, oV, oE⟩ := o
  clear a3 b2 h1 hA ho
  go_enter Tryz.func5, Tryz.ntmps5
  go_wp2_with fail
  refine H1.out.mono ?_
  rintro e w1 ⟨A1, m1, c1, ds, rfl, hm1, hl1, hb1, hv1, hB1⟩
  have k1 := HB.out.below hB1
  have Hfin := Lib.hid (put_out (w := w) (o := ⟨og, oV, oE⟩) k1 (by omega) (HS.out.trans (hB1.mono HS.out.size)) hm1 hl1 hb1 hv1)
  have u0 := k1.c0
  have u1 := k1.c1
  have u2 := k1.c2
  have zf := k1.fz
  clear H1 HB HS hl1 hb1 hv1 hB1 k1
  go_wp2
  exact bodyPost_ret (v := .agg #[.bool og, .slice A1 m1 c1, .int .i64 oE]) (by simp [results, Tryz.results5, go_sem, u0, u1, u2]) rfl Hfin.out


end Go.Proofs.YtijhdlkfihjbiaaGreatDoor
