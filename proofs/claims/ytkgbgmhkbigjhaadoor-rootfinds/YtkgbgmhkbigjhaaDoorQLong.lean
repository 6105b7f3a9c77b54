/- The walk of quo.long: the quotient and the rest of any two numbers. -/
import Derived.Test.YtkgbgmhkbigjhaaDoorQDigit
namespace Go.Proofs.YtkgbgmhkbigjhaaDoor
open Go.RowKit

/-- Two numbers. -/
def TellsQ (w : World) (Q R L M : Nat) (e : Ending) (w' : World) : Prop :=
  ∃ A m c zs A' m' c' ys, e = .returned (.tuple #[.slice A m c, .slice A' m' c']) ∧ m ≤ L ∧ m' ≤ M ∧ Lim w' A m c zs ∧ Lim w' A' m' c' ys ∧ Bare zs ∧ Bare ys ∧ val zs = Q ∧ val ys = R ∧ Below w.heap.size w w'

/-- The moved divisor has as many limbs, and its top one isn't 0. -/
theorem moved_divisor {ys zs : List Nat} {l s : Nat} (hy : Words ys) (hyl : ys.length = l + 1) (hv : ys.getD l 0 ≠ 0) (hs : s + blen (ys.getD l 0) = 64) (hz : Words zs) (hzl : zs.length = l + 2) (h : val zs = val ys * 2 ^ s) :
    val (zs.take (l + 1)) = val ys * 2 ^ s ∧ (zs.take (l + 1)).getD l 0 ≠ 0 ∧ pw l * 2 ^ s ≤ val ys * 2 ^ s := by
  have h1 := ltop_one ys l hyl
  have hlo := val_lt (hy.take l)
  rw [List.length_take, Nat.min_eq_left (by omega)] at hlo
  generalize ys.getD l 0 = v at hv hs h1
  rw [pw_two] at hlo h1
  have hb : blen (val ys) = 64 * l + blen v := by rw [h1]; exact blen_last hlo hv
  have hb1 := blen_pos hv
  have hne : val ys ≠ 0 := fun h0 => by rw [h0, blen_zero] at hb; omega
  have h2 : val ys * 2 ^ s < pw (l + 1) := by
    have := Nat.mul_lt_mul_of_pos_right (lt_blen (val ys)) (Nat.pow_pos (n := s) (show 0 < 2 by decide))
    rw [← Nat.pow_add, hb, show 64 * l + blen v + s = 64 * (l + 1) from by omega, ← pw_two] at this
    exact this
  have h3 : pw l ≤ val ys * 2 ^ s := by
    have := Nat.mul_le_mul_right (2 ^ s) (blen_le hne)
    rw [← Nat.pow_add, hb, show 64 * l + blen v - 1 + s = 64 * l + 63 from by omega, Nat.pow_add, ← pw_two] at this
    have h4 : pw l * 1 ≤ pw l * 2 ^ 63 := Nat.mul_le_mul_left _ (by decide)
    omega
  have h4 := val_take_succ zs (l + 1) (by omega)
  rw [List.take_of_length_le (by omega)] at h4
  have h5 : zs.getD (l + 1) 0 = 0 := by
    rcases Nat.eq_zero_or_pos (zs.getD (l + 1) 0) with h0 | h0
    · exact h0
    · have : pw (l + 1) * 1 ≤ pw (l + 1) * zs.getD (l + 1) 0 := Nat.mul_le_mul_left _ h0
      omega
  rw [h5, Nat.mul_zero, Nat.add_zero, h] at h4
  refine ⟨h4.symm, fun h0 => ?_, Nat.mul_le_mul_right _ ?_⟩
  · have h6 := ltop_one (zs.take (l + 1)) l (by rw [List.length_take]; omega)
    have h7 := val_lt ((hz.take (l + 1)).take l)
    rw [List.length_take, List.length_take, Nat.min_eq_left (by omega)] at h7
    rw [h0, Nat.mul_zero, Nat.add_zero, ← h4] at h6
    omega
  · rw [h1, pw_two]
    have : 2 ^ (64 * l) * 1 ≤ 2 ^ (64 * l) * v := Nat.mul_le_mul_left _ (Nat.pos_of_ne_zero hv)
    omega
/-- At first what lies above is less than the divisor. -/
theorem long_start {xs ls : List Nat} {L l s D : Nat} (hx : Words xs) (hxl : xs.length = L + l) (hll : ls.length = L + l + 1) (h : val ls = val xs * 2 ^ s) (hD : pw l * 2 ^ s ≤ D) : val (ls.drop L) < D := by
  have h1 := val_lt hx
  have h2 := val_split ls L (by omega)
  rw [hxl, pw_add] at h1
  have h3 : val xs * 2 ^ s < pw L * pw l * 2 ^ s := Nat.mul_lt_mul_of_pos_right h1 (Nat.pow_pos (by decide))
  rw [Nat.mul_assoc] at h3
  have h4 : pw L * (pw l * 2 ^ s) ≤ pw L * D := Nat.mul_le_mul_left _ hD
  have h5 : pw L * val (ls.drop L) < pw L * D := by omega
  exact Nat.lt_of_mul_lt_mul_left h5
/-- The window of a round. -/
theorem long_window {ls : List Nat} {i m D : Nat} (hw : Words ls) (hl : i + m + 1 ≤ ls.length) (h : val (ls.drop (i + 1)) < D) (hD : D ≤ pw m) :
    val (ls.drop (i + (m + 1))) = 0 ∧ val ((ls.drop i).take (m + 1)) < D * 18446744073709551616 := by
  have h1 := val_split (ls.drop (i + 1)) m (by rw [List.length_drop]; omega)
  rw [List.drop_drop] at h1
  have h2 : val (ls.drop (i + 1 + m)) = 0 := by
    rcases Nat.eq_zero_or_pos (val (ls.drop (i + 1 + m))) with h0 | h0
    · exact h0
    · have : pw m * 1 ≤ pw m * val (ls.drop (i + 1 + m)) := Nat.mul_le_mul_left _ h0
      omega
  rw [show i + (m + 1) = i + 1 + m from by omega]
  refine ⟨h2, ?_⟩
  have h3 := val_split (ls.drop i) (m + 1) (by rw [List.length_drop]; omega)
  rw [List.drop_drop, show i + (m + 1) = i + 1 + m from by omega, h2, Nat.mul_zero, Nat.add_zero, drop_cons ls i (by omega), val] at h3
  rw [drop_cons ls i (by omega), ← h3]
  have h4 := hw.getD i
  omega
theorem qparts (ls : List Nat) (i k : Nat) : ls = ls.take i ++ ((ls.drop i).take k ++ ls.drop (i + k)) := by
  rw [← List.drop_drop, List.take_append_drop, List.take_append_drop]
/-- A round's end. -/
theorem long_step {ps ws us rs qs : List Nat} {i k D A Q : Nat} (hps : ps.length = i) (hws : ws.length = k) (hus : us.length = k) (hu : val us = val ws % D) (hQ : val ws / D = Q) (hset : val (qs.set i Q) + pw i * 0 = val qs + pw i * Q) (h : val (ps ++ (ws ++ rs)) + D * val qs = A) :
    val (ps ++ (us ++ rs)) + D * val (qs.set i Q) = A := by
  rw [val_append, val_append, hps, hws] at h
  rw [val_append, val_append, hps, hus]
  have h1 := Nat.div_add_mod' (val ws) D
  rw [hQ, ← hu] at h1
  rw [Nat.mul_zero, Nat.add_zero] at hset
  rw [hset, Nat.mul_add D, Nat.mul_add (pw i)]
  rw [Nat.mul_add (pw i), ← h1, Nat.mul_add (pw i)] at h
  have e : D * (pw i * Q) = pw i * (Q * D) := by rw [Nat.mul_left_comm, Nat.mul_comm D]
  omega
/-- The end: quotient and rest. -/
theorem long_end {ls qs : List Nat} {a b T m : Nat} (hT : 0 < T) (h : val ls + b * T * val qs = a * T) (hlt : val ls < b * T) (hD : b * T ≤ pw m) (hm : m ≤ ls.length) : val qs = a / b ∧ val (ls.take m) / T = a % b := by
  have hb : 0 < b := by
    rcases Nat.eq_zero_or_pos b with h0 | h0
    · rw [h0, Nat.zero_mul] at hlt; omega
    · exact h0
  have h1 := val_split ls m hm
  have h2 : val (ls.drop m) = 0 := by
    rcases Nat.eq_zero_or_pos (val (ls.drop m)) with h0 | h0
    · exact h0
    · have : pw m * 1 ≤ pw m * val (ls.drop m) := Nat.mul_le_mul_left _ h0
      omega
  rw [h2, Nat.mul_zero, Nat.add_zero] at h1
  have e : b * T * val qs = val qs * b * T := by rw [Nat.mul_comm (b * T), Nat.mul_assoc]
  rw [e] at h
  have h3 : val qs * b ≤ a := by
    have : val qs * b * T ≤ a * T := by omega
    exact Nat.le_of_mul_le_mul_right this hT
  have h4 : val ls = (a - val qs * b) * T := by rw [Nat.sub_mul]; omega
  have h5 : a - val qs * b < b := by
    rw [h4] at hlt
    exact Nat.lt_of_mul_lt_mul_right hlt
  have h6 : a / b = val qs := by
    have : a = (a - val qs * b) + val qs * b := by omega
    rw [this, Nat.add_mul_div_right _ _ hb, Nat.div_eq_of_lt h5, Nat.zero_add]
  refine ⟨h6.symm, ?_⟩
  rw [← h1, h4, Nat.mul_div_cancel _ hT]
  have h7 := Nat.div_add_mod' a b
  rw [h6] at h7
  omega

theorem Holds.other {w : World} {g t : Nat} {ls : List Nat} (h : Holds w g t ls) {p : Addr} (hp : g ≠ p.block) (v : Value) : Holds (w.setCell p v) g t ls := ⟨h.1.setOther hp v, h.2⟩
theorem Lim.other {w : World} {b o n c : Nat} {xs : List Nat} (h : Lim w (some ⟨b, o, none⟩) n c xs) {p : Addr} (hp : b ≠ p.block) (v : Value) : Lim (w.setCell p v) (some ⟨b, o, none⟩) n c xs :=
  ⟨h.1, h.2.1, h.2.2.1, fun hn => by
    obtain ⟨b', o', e, hl, hc⟩ := h.at_ hn
    cases e
    exact ⟨b, o, rfl, by simpa [World.setCell] using hl, fun k hk => by
      rw [World.cell?_setCell_other _ _ _ _ (fun e => hp (congrArg Addr.block e).symm)]; exact hc k hk⟩⟩

set_option maxHeartbeats 4000000 in
set_option maxRecDepth 100000 in
theorem long_any (A : Option Addr) (n c : Nat) (xs : List Nat) (B : Option Addr) (l d : Nat) (ys : List Nat) (w : World) (hA : Lim w A n c xs) (hB : Lim w B (l + 1) d ys) (hv : ys.getD l 0 ≠ 0) (hn : n ≤ 1000000) (hle : l + 1 ≤ n) (hT : Tab w) :
    Calls Tryd.prog 53 #[.slice A n c, .slice B ((l + 1 : Nat)) d] w (TellsQ w (val xs / val ys) (val xs % val ys) n n) := by
  obtain ⟨L, hL⟩ : ∃ L, n = L + l := ⟨n - l, by omega⟩
  have hL0 : 0 < L := by omega
  have HA := Lib.hid hA
  have HB := Lib.hid hB
  have HT := Lib.hid hT
  obtain ⟨b, o, hBe, hb, hcl⟩ := hB.at_ (by omega)
  have c1 := hcl l (by omega)
  have hvw := hB.words.getD l
  have hyl := hB.len
  obtain ⟨v, hve⟩ : ∃ v, ys.getD l 0 = v := ⟨_, rfl⟩
  have Hve := Lib.hid hve
  rw [hve] at c1 hvw hv
  obtain ⟨s, hs⟩ : ∃ s, s + blen v = 64 := ⟨64 - blen v, by have := blen_le_iff.2 (show v < 2 ^ 64 from hvw); omega⟩
  have hs64 : s < 64 := by have := blen_pos hv; omega
  have Hlead := Lib.hid (lead_any v s w hvw hs)
  have Hs := Lib.hid hs
  have Hv := Lib.hid hv
  have HL := Lib.hid hL
  clear hcl hve hs hA hB hT hyl hv
  subst hBe
  have Hsh1 := Lib.hid (shifted_any _ (l + 1) d ys s w HB.out (by omega) hs64)
  have e1 : (n : Int) - ((l : Int) + 1) + 1 = (L : Int) := by omega
  have e2 : (n : Int) - (l + 1 : Nat) + 1 = (L : Int) := by omega
  have e3 : (n : Int) - (l : Int) = (L : Int) := by omega
  have hmk := run_make_row' (P := Tryd.prog) 22 33 (.int .u64 0) 8 Tryd.underlying22 info64 rfl .i64 .i64 L (by omega) (by omega)
  clear hL
  go_enter Tryd.func53, Tryd.ntmps53
  go_wp2_with fail
  refine Hlead.out.mono ?_
  rintro e w' ⟨rfl, rfl⟩
  go_wp2_with fail
  refine Hsh1.out.mono ?_
  rintro e w1 ⟨z1, rfl, hz1, hh1, hb1, hv1⟩
  have hg1 := hh1.lt
  have Hmd : Hid _ := Lib.hid (moved_divisor HB.out.words HB.out.len (by rw [Hve.out]; exact Hv.out) (by rw [Hve.out]; exact Hs.out) hh1.2 hz1 hv1)
  have hds : Lim w1 (some ⟨w.heap.size, 0, none⟩) (l + 1) (l + 1 + 1) (z1.take (l + 1)) := by
    have := hh1.lim
    rw [hz1] at this
    exact this.take (by omega)
  have Hds := Lib.hid hds
  have Hb1 := Lib.hid hb1
  have Hsh2 := Lib.hid (shifted_any A n c xs s w1 (HA.out.below hb1) hn hs64)
  clear hh1 hb1 hv1 hds Hsh1 hz1
  go_wp2_with fail
  refine Hsh2.out.mono ?_
  rintro e w2 ⟨z2, rfl, hz2, hh2, hb2, hv2⟩
  have hg2 := hh2.lt
  have Hds2 := Lib.hid (Hds.out.below hb2)
  have Hb2 := Lib.hid (Hb1.out.trans (hb2.mono (by omega)))
  obtain ⟨m1, m2, m3⟩ := Hmd.out
  have hst := long_start (L := L) HA.out.words (by rw [HA.out.len]; exact HL.out) (by rw [hz2, HL.out]) hv2 m3
  obtain ⟨ds, hds⟩ : ∃ ds, z1.take (l + 1) = ds := ⟨_, rfl⟩
  rw [hds] at m1 m2 Hds2
  have HD1 := Lib.hid m1
  have HD2 := Lib.hid m2
  have hdw := Hds2.out.words
  have hdl := Hds2.out.len
  have HDp : Hid (val ds ≤ pw (l + 1)) := by
    have := val_lt hdw
    rw [hdl] at this
    exact Nat.le_of_lt this
  rw [← m1] at hst
  have Hst := Lib.hid hst
  have HV2 := Lib.hid hv2
  have Hz2 := Lib.hid hz2
  have Hh2 := Lib.hid hh2
  have HP : Hid (0 < 2 ^ s) := Nat.pow_pos (by decide)
  clear m1 m2 m3 hst hds hdw hdl hv2 hz2 hh2 hb2 Hds Hb1 Hsh2 Hmd Hlead
  go_wp2
  clear hmk e1 e2 e3 c1
  go_loopw [9] (fun i wr => ∃ (j : Nat) (ls qs : List Nat), j ≤ L ∧ i = .int .i64 ((j : Int) - 1) ∧ Hid (ls.length = n + 1) ∧ Hid (qs.length = L) ∧ Hid (Holds wr w1.heap.size 33 ls) ∧ Hid (Holds wr w2.heap.size 33 qs) ∧ Hid (Below w.heap.size w wr) ∧ Hid (Lim wr (some ⟨w.heap.size, 0, none⟩) (l + 1) (l + 1 + 1) ds) ∧ Hid (∀ k, k < j → qs.getD k 0 = 0) ∧ Hid (val ls + val ds * val qs = val xs * 2 ^ s) ∧ Hid (val (ls.drop j) < val ds)) (fun i _ => (intOf i + 1).toNat)
  case atStart => exact ⟨L, z2, List.replicate L 0, Nat.le_refl _, by go_num, Hz2, List.length_replicate, ⟨Hh2.out.1.alloc _, Hh2.out.2⟩, Holds.start w2 _ _, Hb2.out.alloc Hb2.out.size _, Hds2.out.alloc _, fun k _ => getD_zeros _ _, by rw [val_zeros, Nat.mul_zero, Nat.add_zero]; exact HV2, Hst⟩
  case round =>
    obtain ⟨w3, rfl⟩ : ∃ w3, w3 = wr := ⟨_, rfl⟩
    obtain ⟨j, ls, qs, hj, rfl, Hll, Hql, HH2, HH3, HB3, HD3, HZ, HE, HS⟩ := hrel
    by_cases hj0 : 0 < j
    · obtain ⟨i, rfl⟩ : ∃ i, j = i + 1 := ⟨j - 1, by omega⟩
      have hin : i + l + 1 ≤ n := by have := HL.out; omega
      obtain ⟨k1, k2⟩ := long_window (i := i) (m := l + 1) HH2.out.2 (by have := Hll.out; omega) HS.out HDp.out
      have hpt := qparts ls i (l + 2)
      obtain ⟨ps, hps⟩ : ∃ ps, ls.take i = ps := ⟨_, rfl⟩
      obtain ⟨ws, hws⟩ : ∃ ws, (ls.drop i).take (l + 2) = ws := ⟨_, rfl⟩
      obtain ⟨rs, hrs⟩ : ∃ rs, ls.drop (i + (l + 2)) = rs := ⟨_, rfl⟩
      have hpl : ps.length = i := by rw [← hps, List.length_take]; have := Hll.out; omega
      have hwl : ws.length = l + 2 := by rw [← hws, List.length_take, List.length_drop]; have := Hll.out; omega
      rw [hps, hws, hrs] at hpt
      have k1' : val rs = 0 := by rw [← hrs]; exact k1
      have k2' : val ws < val ds * 18446744073709551616 := by rw [← hws]; exact k2
      have hwin : Win w3 w3 w1.heap.size 33 i ps ws rs := ⟨But.refl _ _, by rw [← hpt]; exact HH2.out, hpl⟩
      obtain ⟨Q, hQ⟩ : ∃ Q, val ws / val ds = Q := ⟨_, rfl⟩
      have hQb : Q < 18446744073709551616 := by
        rw [← hQ]
        exact Nat.div_lt_of_lt_mul k2'
      have Hdig := Lib.hid (digit_any w3 w1.heap.size 33 i (n + 1 - i) ps ws rs w.heap.size 0 l (l + 1 + 1) ds hwin hwl HD3.out (by omega) HD2.out k2' (by omega) Q hQ)
      have e1 : ((i + 1 : Nat) : Int) - 1 = (i : Int) := by omega
      rw [e1]
      have Hpt := Lib.hid hpt
      have Hpl := Lib.hid hpl
      have Hwl := Lib.hid hwl
      have Hk1 := Lib.hid k1'
      have HQ := Lib.hid hQ
      clear k1 k2 k1' k2' hps hws hrs hpt hpl hwl hwin hQ e1 hj0
      go_wp2_with fail
      rw [show i + (l + 1) + 1 - i = l + 2 from by omega]
      refine Hdig.out.mono ?_
      rintro e w4 ⟨us, rfl, hus, hW4, hu⟩
      have hH3 := HH3.out.but hW4.but (by omega)
      have c2 := hH3.cell (j := i) (by have := Hql.out; omega)
      have c3 := hH3.frozen i
      have HH4 : Hid (Holds (w4.setCell ⟨w2.heap.size, i, none⟩ (.int .u64 (Q : Int))) w1.heap.size 33 (ps ++ (us ++ rs))) := hW4.2.1.other (by show w1.heap.size ≠ w2.heap.size; omega) _
      have HH5 : Hid (Holds (w4.setCell ⟨w2.heap.size, i, none⟩ (.int .u64 (Q : Int))) w2.heap.size 33 (qs.set i Q)) := hH3.set (by have := Hql.out; omega) hQb
      have HB5 : Hid (Below w.heap.size w (w4.setCell ⟨w2.heap.size, i, none⟩ (.int .u64 (Q : Int)))) := (HB3.out.trans (hW4.but.below (by omega))).setCell (by show w.heap.size ≤ w2.heap.size; omega) _
      have HD5 : Hid (Lim (w4.setCell ⟨w2.heap.size, i, none⟩ (.int .u64 (Q : Int))) (some ⟨w.heap.size, 0, none⟩) (l + 1) (l + 1 + 1) ds) := (HD3.out.but hW4.but (by omega)).other (by show w.heap.size ≠ w2.heap.size; omega) _
      have Hl5 : Hid ((ps ++ (us ++ rs)).length = n + 1) := by
        have h1 := congrArg List.length Hpt.out
        have h2 := Hll.out
        have h3 := Hwl.out
        simp at h1 ⊢
        show _ = _
        omega
      have Hq5 : Hid ((qs.set i Q).length = L) := by rw [List.length_set]; exact Hql
      have HZ5 : Hid (∀ k, k < i → (qs.set i Q).getD k 0 = 0) := fun k hk => by
        rw [getD_set' qs i Q k (by have := Hql.out; omega), if_neg (by omega)]
        exact HZ.out k (by omega)
      have HE5 : Hid (val (ps ++ (us ++ rs)) + val ds * val (qs.set i Q) = val xs * 2 ^ s) := by
        have h1 := val_set qs i Q (by have := Hql.out; omega)
        rw [HZ.out i (by omega)] at h1
        exact long_step Hpl.out Hwl.out hus hu HQ.out h1 (by rw [← Hpt.out]; exact HE.out)
      have HS5 : Hid (val ((ps ++ (us ++ rs)).drop i) < val ds) := by
        show _ < _
        rw [List.drop_append_of_le_length (by rw [Hpl.out]; exact Nat.le_refl _), List.drop_of_length_le (by rw [Hpl.out]; exact Nat.le_refl _), List.nil_append, val_append, Hk1.out, Nat.mul_zero, Nat.add_zero, hu]
        refine Nat.mod_lt _ ?_
        have := HS.out
        omega
      clear hW4 hH3 hu hus HE HS HZ
      go_wp2
      go_roundw
      case rel => exact ⟨i, ps ++ (us ++ rs), qs.set i Q, by omega, by go_num, Hl5, Hq5, HH4, HH5, HB5, HD5, HZ5, HE5, HS5⟩
      case measure => simp [intOf]
    · obtain rfl : j = 0 := by omega
      have hE := HE.out
      rw [HD1.out] at hE
      have hS := HS.out
      rw [List.drop_zero, HD1.out] at hS
      have hDp := HDp.out
      rw [HD1.out] at hDp
      obtain ⟨v1, v2⟩ := long_end HP.out hE hS hDp (by have := Hll.out; omega)
      have hll := HH2.out.lim
      rw [Hll.out] at hll
      have Hlt := Lib.hid (hll.take (m := l + 1) (by omega))
      have hql := HH3.out.lim
      rw [Hql.out] at hql
      have Hql2 := Lib.hid hql
      have hshr := shr_all _ (l + 1) (n + 1) (ls.take (l + 1)) w3 Hlt.out (by omega) (HT.out.below HB3.out) (s : Int) (by omega)
      rw [Int.toNat_natCast, v2] at hshr
      have Hshr := Lib.hid hshr
      have HV := Lib.hid v1
      clear hE hS hDp v1 v2 hll hql hshr HE HS HZ
      go_wp2_with fail
      refine Hshr.out.mono ?_
      rintro e w5 ⟨A5, m5, c5, us, rfl, hm5, hl5, hb5, hv5, hB5⟩
      have hql5 := Hql2.out.below hB5
      have Hfin : Hid (Lim w5 A5 m5 c5 us ∧ Bare us ∧ val us = val xs % val ys ∧ Below w.heap.size w w5) := ⟨hl5, hb5, hv5, HB3.out.trans (hB5.mono HB3.out.size)⟩
      clear hl5 hb5 hv5 hB5 Hshr
      go_wp2_with fail
      refine (qbare_any (tl qs) _ _ _ qs _ hql5 (by have := HL.out; omega) rfl).mono ?_
      rintro e w' ⟨rfl, rfl⟩
      go_wp2
      go_ret2
      exact ⟨_, _, _, _, _, _, _, _, rfl, Nat.le_trans hql5.tl_le (by have := HL.out; omega), by omega, hql5.trim, Hfin.out.1, bare_take qs, Hfin.out.2.1, by rw [val_take_tl]; exact HV.out, Hfin.out.2.2.1, Hfin.out.2.2.2⟩
end Go.Proofs.YtkgbgmhkbigjhaaDoor
