/- The walks of planimeterref01.Bits, Bit and Double. -/
import Derived.Test.YtgacafdkhailmaaDoorWRSub
namespace Go.Proofs.YtgacafdkhailmaaDoor
open Go.RowKit

theorem blen_top {lo x p : Nat} (hlo : lo < 2 ^ p) (hx : x ≠ 0) : blen (lo + 2 ^ p * x) = p + blen x := by
  have hx1 := blen_pos hx
  apply blen_eq
  · have h1 := blen_le hx
    have e : p + blen x - 1 = p + (blen x - 1) := by omega
    rw [e, Nat.pow_add]
    exact Nat.le_trans (Nat.mul_le_mul_left _ h1) (Nat.le_add_left _ _)
  · have h1 := lt_blen x
    rw [Nat.pow_add]
    have h2 : 2 ^ p * (x + 1) ≤ 2 ^ p * 2 ^ blen x := Nat.mul_le_mul_left _ h1
    rw [Nat.mul_add] at h2
    omega
  · omega
theorem blen_half {x : Nat} (hx : x ≠ 0) : blen x = blen (x / 2) + 1 := by
  have hx1 := blen_pos hx
  by_cases h1 : x = 1
  · subst h1; decide
  · have h2 : x / 2 ≠ 0 := by omega
    have h3 := blen_le hx
    have h4 := lt_blen x
    have h5 : 2 ≤ blen x := by
      rcases Nat.lt_or_ge (blen x) 2 with h | h
      · obtain h6 : blen x = 1 := by omega
        rw [h6] at h4; omega
      · exact h
    obtain ⟨j, hj⟩ : ∃ j, blen x = j + 2 := ⟨blen x - 2, by omega⟩
    rw [hj] at h3 h4
    rw [show j + 2 - 1 = j + 1 from rfl, Nat.pow_succ] at h3
    rw [Nat.pow_succ, Nat.pow_succ] at h4
    have := blen_eq (x := x / 2) (k := j + 1) (by rw [Nat.add_sub_cancel]; omega) (by rw [Nat.pow_succ]; omega) (by omega)
    omega

set_option maxHeartbeats 1000000 in
theorem rbits_any (A : Option Addr) (n c : Nat) (ds : List Nat) (w : World) (h : Dig w A n c ds) (hb : D.Bare ds) (hn : n ≤ 1000000) :
    Calls Tryd.prog 62 #[.slice A n c] w fun e w' => e = .returned (.int .i64 (blen (D.val ds) : Int)) ∧ w = w' := by
  cases n with
  | zero =>
    have HV : Hid (blen (D.val ds) = 0) := by
      have : ds = [] := List.eq_nil_of_length_eq_zero h.len
      subst this; rfl
    clear h hb
    go_enter Tryd.func62, Tryd.ntmps62
    go_wp2
    go_ret
    exact ⟨by rw [HV.out]; rfl, rfl⟩
  | succ j =>
    have hne := D.getD_tl_pred (xs := ds) (j := j) (by rw [hb, h.len])
    have hlo := D.val_lt (h.words.take j)
    rw [List.length_take, h.len, Nat.min_eq_left (by omega), D.pw_two] at hlo
    have hlast := D.val_take_succ ds j (by rw [h.len]; omega)
    rw [List.take_of_length_le (by rw [h.len]; exact Nat.le_refl _), D.pw_two] at hlast
    have hV : blen (D.val ds) = 16 * j + blen (ds.getD j 0) := by rw [hlast]; exact blen_top hlo hne
    obtain ⟨b, o, rfl, hbl, hcl⟩ := h.at_ (by omega)
    have c1 := hcl j (by omega)
    have hxw := h.words.getD j
    generalize ds.getD j 0 = x at c1 hV hxw hne
    have hxb := blen_le_iff.2 (show x < 2 ^ 16 from hxw)
    have b1 : (((j : Int) + 1) == 0) = false := beq_eq_false_iff_ne.2 (by omega)
    have HV := Lib.hid hV
    have Hxb := Lib.hid hxb
    clear hne hlo hlast hV hcl h hb hxb
    go_enter Tryd.func62, Tryd.ntmps62
    go_wp2
    clear b1 c1
    go_loop [3, 4] (fun i y => ∃ k z : Nat, k ≤ 16 ∧ z < 65536 ∧ i = .int .i64 (16 * (j : Int) + k) ∧ y = .int .u32 z ∧ Hid (k + blen z = blen x)) (fun _ y => (intOf y).toNat)
    case atStart => exact ⟨0, x, by omega, hxw, rfl, rfl, by show 0 + blen x = blen x; omega⟩
    case round =>
      obtain ⟨k, z, hk, hz, rfl, rfl, HE⟩ := hrel
      by_cases h0 : z = 0
      · subst h0
        have HF : Hid (blen (D.val ds) = 16 * j + k) := by
          rw [HV.out]
          have := HE.out
          rw [blen_zero] at this
          show _ = _
          omega
        go_wp2
        go_ret
        exact ⟨ret_int (a := 16 * (j : Int) + k) (by rw [HF.out]; omega), rfl⟩
      · have HE2 : Hid ((k + 1) + blen (z / 2) = blen x) := by
          have h1 := HE.out
          rw [blen_half h0] at h1
          show _ = _
          omega
        have hk2 : k + 1 ≤ 16 := by have h1 := HE2.out; have h2 := Hxb.out; omega
        have b2 : decide (0 < z) = true := by simp; omega
        have b3 : decide ((0 : Int) < (z : Int)) = true := by simp; omega
        go_wp2
        go_round
        case rel => exact ⟨k + 1, z / 2, hk2, by omega, by go_num, by go_num, HE2⟩
        case measure => simp [intOf]; omega

theorem bit_digit {lo d hi q r : Nat} (hlo : lo < 2 ^ (16 * q)) (hr : r < 16) : (lo + 2 ^ (16 * q) * (d + 65536 * hi)) / 2 ^ (16 * q + r) % 2 = d / 2 ^ r % 2 := by
  rw [Nat.pow_add, ← Nat.div_div_eq_div_mul, Nat.add_mul_div_left _ _ (Nat.pow_pos (by decide)), Nat.div_eq_of_lt hlo, Nat.zero_add]
  have e : 65536 * hi = 2 ^ r * (2 * (2 ^ (15 - r) * hi)) := by
    have : (65536 : Nat) = 2 ^ r * (2 * 2 ^ (15 - r)) := by
      rw [← Nat.pow_succ', ← Nat.pow_add, show r + (15 - r).succ = 16 from by omega]
    rw [this, Nat.mul_assoc, Nat.mul_assoc]
  rw [e, Nat.add_mul_div_left _ _ (Nat.pow_pos (by decide))]
  omega
theorem bit_past {ds : List Nat} {i : Nat} (hw : D.Words ds) (h : ds.length ≤ i / 16) : D.val ds / 2 ^ i % 2 = 0 := by
  have h1 := D.val_lt hw
  rw [D.pw_two] at h1
  have h2 : 2 ^ (16 * ds.length) ≤ 2 ^ i := Nat.pow_le_pow_right (by decide) (by omega)
  rw [Nat.div_eq_of_lt (by omega)]
theorem bit_at {ds : List Nat} {i : Nat} (hw : D.Words ds) (h : i / 16 < ds.length) : D.val ds / 2 ^ i % 2 = ds.getD (i / 16) 0 / 2 ^ (i % 16) % 2 := by
  have h1 := D.val_split ds (i / 16) (by omega)
  rw [D.drop_cons ds (i / 16) h, D.val] at h1
  have h2 := D.val_lt (hw.take (i / 16))
  rw [List.length_take, Nat.min_eq_left (by omega), D.pw_two] at h2
  rw [D.pw_two] at h1
  rw [h1]
  have := bit_digit (d := ds.getD (i / 16) 0) (hi := D.val (ds.drop (i / 16 + 1))) h2 (show i % 16 < 16 by omega)
  rw [show 16 * (i / 16) + i % 16 = i from by omega] at this
  exact this

set_option maxHeartbeats 1000000 in
theorem rbit_any (v : Nat) (A : Option Addr) (n c : Nat) (ds : List Nat) (i : Nat) (w : World) (h : Dig w A n c ds) (hn : n ≤ 1000000) (hi : i ≤ 1000000000) (hv : Hid (D.val ds / 2 ^ i % 2 = v)) :
    Calls Tryd.prog 37 #[.slice A n c, .int .i64 (i : Int)] w fun e w' => e = .returned (.int .u32 (v : Int)) ∧ w = w' := by
  obtain ⟨q, hq⟩ : ∃ q, i / 16 = q := ⟨_, rfl⟩
  obtain ⟨r, hr⟩ : ∃ r, i % 16 = r := ⟨_, rfl⟩
  have e1 : (i : Int) / 16 = (q : Int) := by omega
  have e2 : (i : Int) % 16 = (r : Int) := by omega
  have hr16 : r < 16 := by omega
  by_cases hlt : q < n
  · have HV := Lib.hid (hv.out.symm.trans (bit_at (i := i) h.words (by rw [h.len]; omega)))
    rw [hq, hr] at HV
    obtain ⟨b, o, rfl, hbl, hcl⟩ := h.at_ (by omega)
    have c1 := hcl q hlt
    have hxw := h.words.getD q
    generalize ds.getD q 0 = x at c1 HV hxw
    have b1 : decide (n ≤ q) = false := by simp; omega
    clear hcl h hq hr hv
    go_enter Tryd.func37, Tryd.ntmps37
    go_wp2
    clear c1 e1
    go_loop [5, 6] (fun y j => ∃ k z : Nat, k ≤ r ∧ z < 65536 ∧ j = .int .i64 k ∧ y = .int .u32 z ∧ Hid (z = x / 2 ^ k)) (fun _ j => r - (intOf j).toNat)
    case atStart => exact ⟨0, x, Nat.zero_le _, hxw, rfl, rfl, by simp [Hid]⟩
    case round =>
      obtain ⟨k, z, hk, hz, rfl, rfl, HE⟩ := hrel
      by_cases hkr : k < r
      · have HE2 : Hid (z / 2 = x / 2 ^ (k + 1)) := by rw [HE.out, Nat.div_div_eq_div_mul, Nat.pow_succ]; rfl
        go_wp2
        go_round
        case rel => exact ⟨k + 1, z / 2, by omega, by omega, by go_num, by go_num, HE2⟩
        case measure => simp [intOf]; omega
      · obtain rfl : k = r := by omega
        have HF : Hid (v = z % 2) := by rw [HV.out, HE.out]; rfl
        go_wp2
        go_ret
        exact ⟨ret_int (a := (z : Int) % 2) (by rw [HF.out]; omega), rfl⟩
  · have HV := Lib.hid (hv.out.symm.trans (bit_past (i := i) h.words (by rw [h.len]; omega)))
    have b1 : decide (n ≤ q) = true := by simp; omega
    clear h hq hr hv
    go_enter Tryd.func37, Tryd.ntmps37
    go_wp2
    go_ret
    exact ⟨by rw [HV.out]; rfl, rfl⟩

theorem ddbl_step {x cn s t k X Z mo : Nat} (hs : s + 65536 * t = cn + 2 * x) (h : Z + D.pw k * cn = 2 * X + mo) : Z + D.pw k * s + D.pw (k + 1) * t = 2 * (X + D.pw k * x) + mo := by
  have e : D.pw (k + 1) * t = D.pw k * (65536 * t) := by rw [D.pw_succ, Nat.mul_assoc, ← Nat.mul_assoc, ← Nat.mul_assoc, Nat.mul_comm (D.pw k)]
  have e2 : D.pw k * (s + 65536 * t) = D.pw k * (cn + 2 * x) := by rw [hs]
  have e3 : D.pw k * (2 * x) = 2 * (D.pw k * x) := by rw [← Nat.mul_assoc, Nat.mul_comm (D.pw k), Nat.mul_assoc]
  rw [Nat.mul_add, Nat.mul_add, e3] at e2
  omega

set_option maxHeartbeats 4000000 in
theorem rdouble_any (A : Option Addr) (n c : Nat) (us : List Nat) (mo : Nat) (w : World) (hA : Dig w A n c us) (ba : D.Bare us) (hmo : mo ≤ 1) (hn : n ≤ 1000000) :
    Calls Tryd.prog 63 #[.slice A n c, .int .u32 (mo : Int)] w (DTells w (2 * D.val us + mo) (n + 1)) := by
  have HA := Lib.hid hA
  have Hga := Lib.hid (dval_ge ba hA.len)
  clear hA ba
  go_enter Tryd.func63, Tryd.ntmps63
  go_wp2
  go_loopw [5, 6, 7] (fun v cy i wr => ∃ (k cn m1 c1 : Nat) (A1 : Option Addr) (es : List Nat), k ≤ n + 1 ∧ cn ≤ 1 ∧ m1 ≤ k ∧ k ≤ m1 ∧ i = .int .i64 k ∧ cy = .int .u32 cn ∧ v = .slice A1 m1 c1 ∧ Hid (es.length = m1) ∧ Hid (Own .u32 62 wr w.heap.size (.slice A1 m1 c1) es) ∧ Hid (D.Words es) ∧ Hid (D.val es + D.pw k * cn = 2 * D.val (us.take k) + mo) ∧ Hid (k ≤ n ∨ (cn = 0 ∧ D.pw n ≤ 2 * D.val us + mo)) ∧ Below w.heap.size w wr) (fun _ _ i _ => n + 1 - (intOf i).toNat)
  case atStart => exact ⟨0, mo, 0, 0, none, [], Nat.zero_le _, hmo, Nat.zero_le _, Nat.zero_le _, rfl, rfl, rfl, rfl, Own.nil _ _ _ _, D.Words.nil, by simp [Hid, D.val, D.pw_zero], Or.inl (Nat.zero_le _), Below.refl _ _⟩
  case round =>
    obtain ⟨k, cn, m1, c1, A1, es, hk, hcn, hm1, hm2, rfl, rfl, rfl, Hl, Ho, Hw, HE, HM, hb⟩ := hrel
    obtain ⟨x, hx⟩ : ∃ x, us.getD k 0 = x := ⟨_, rfl⟩
    have hxw := HA.out.words.getD k
    rw [hx] at hxw
    obtain ⟨s, t, hst, hs, ht⟩ : ∃ s t, s + 65536 * t = cn + 2 * x ∧ s < 65536 ∧ t ≤ 1 := ⟨(cn + 2 * x) % 65536, (cn + 2 * x) / 65536, by omega, by omega, by omega⟩
    have hm3 : m1 = k := by omega
    have HE' := Lib.hid (ddbl_step hst HE.out)
    rw [← hx, ← D.val_take_succ'] at HE'
    obtain ⟨A3, c3, w3, hrun, ho3, hb3⟩ := app_digit wr w.heap.size A1 m1 c1 es s s rfl Ho.out Hl.out hb.size (by omega)
    have Hrun := Lib.hid hrun
    have Ho3 := Lib.hid ho3
    have hb4 := hb.trans hb3
    have Hl3 : Hid ((es ++ [s]).length = m1 + 1) := by have := Hl.out; simp [Hid]; omega
    have Hw3 : Hid (D.Words (es ++ [s])) := Hw.out.append (D.Words.one hs)
    have HE3 : Hid (D.val (es ++ [s]) + D.pw (k + 1) * t = 2 * D.val (us.take (k + 1)) + mo) := by rw [D.val_snoc, Hl.out, hm3]; exact HE'.out
    have Hst := Lib.hid hst
    have Hx := Lib.hid hx
    have hla := HA.out.len
    clear hrun ho3 hb3 hx hst HE' hm3
    by_cases h1 : k < n
    · have HM3 : Hid (k + 1 ≤ n ∨ (t = 0 ∧ D.pw n ≤ 2 * D.val us + mo)) := Or.inl (by omega)
      obtain ⟨ba, oa, rfl, hba, hcl⟩ := HA.out.at_ (by omega)
      have ca := (hb.cell (p := ⟨ba, oa + k, none⟩) hba).trans (hcl k (by omega))
      rw [Hx.out] at ca
      clear hcl
      have e1 : ((cn : Int) + 2 * (x : Int)) % 65536 = (s : Int) := by have := Hst.out; omega
      have e2 : ((cn : Int) + 2 * (x : Int)) / 65536 = (t : Int) := by have := Hst.out; omega
      have b1 : decide (k < n) = true := by simp; omega
      clear hla
      go_wp2_with (at_builtin; refine wpList_app (s := .tmp 32) (x := .tmp 35) (by rfl) rfl rfl rfl Hrun.out ?_)
      go_roundw
      case rel => exact ⟨k + 1, t, m1 + 1, c3, A3, es ++ [s], by omega, ht, by omega, by omega, by go_num, by first | rfl | rw [e2], rfl, Hl3, Ho3, Hw3, HE3, HM3, hb4⟩
      case measure => simp [intOf]; omega
    · have hx0 : x = 0 := by rw [← Hx.out]; exact getD_past (by omega)
      have b1 : decide (k < n) = false := by simp; omega
      have hta : us.take k = us := List.take_of_length_le (by omega)
      have HEf : Hid (D.val es + D.pw k * cn = 2 * D.val us + mo) := by have := HE.out; rw [hta] at this; exact this
      by_cases h3 : cn = 1
      · have e1 : (cn : Int) % 65536 = (s : Int) := by have := Hst.out; omega
        have e2 : (cn : Int) / 65536 = (t : Int) := by have := Hst.out; omega
        have b3 : decide (0 < cn) = true := by simp; omega
        have hkM : k ≤ n := by
          rcases HM.out with h | ⟨h, _⟩
          · exact h
          · omega
        have HM3 : Hid (k + 1 ≤ n ∨ (t = 0 ∧ D.pw n ≤ 2 * D.val us + mo)) := Or.inr ⟨by have := Hst.out; omega, by
          have h4 := HEf.out
          rw [h3, Nat.mul_one, show k = n from by omega] at h4
          omega⟩
        clear hla hx0 hta h3
        go_wp2_with (at_builtin; refine wpList_app (s := .tmp 32) (x := .tmp 35) (by rfl) rfl rfl rfl Hrun.out ?_)
        go_roundw
        case rel => exact ⟨k + 1, t, m1 + 1, c3, A3, es ++ [s], by omega, ht, by omega, by omega, by go_num, by first | rfl | rw [e2], rfl, Hl3, Ho3, Hw3, HE3, HM3, hb4⟩
        case measure => simp [intOf]; omega
      · obtain rfl : cn = 0 := by omega
        have hV : D.val es = 2 * D.val us + mo := by have := HEf.out; rw [Nat.mul_zero, Nat.add_zero] at this; exact this
        have hbare : D.Bare es := dbare_of Hw.out Hl.out (by
          rw [hV]
          rcases HM.out with h | ⟨_, h⟩
          · obtain rfl : m1 = n := by omega
            rcases Hga.out with g | g
            · exact Or.inl g
            · exact Or.inr (by omega)
          · by_cases e : m1 ≤ n
            · obtain rfl : m1 = n := by omega
              have : D.pw (m1 - 1) ≤ D.pw m1 := D.pw_mono (by omega)
              exact Or.inr (by omega)
            · rw [show m1 - 1 = n from by omega]
              exact Or.inr h)
        have Hfin : Hid (DTells w (2 * D.val us + mo) (n + 1) (.returned (.slice A1 m1 c1)) wr) := ⟨A1, m1, c1, es, rfl, by omega, Ho.out.dig Hl.out Hw.out, hbare, hV, hb⟩
        clear hla hx0 hta h3 hV hbare
        go_wp2
        go_ret
        exact Hfin.out
end Go.Proofs.YtgacafdkhailmaaDoor
