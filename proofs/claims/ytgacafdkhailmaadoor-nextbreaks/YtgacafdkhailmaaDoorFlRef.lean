/- The document's numbers: planimeterref05.cut, Of; planimeterref06.Worth. -/
import Derived.Test.YtgacafdkhailmaaDoorFlAlive
import Derived.Test.YtgacafdkhailmaaDoorWRShr
import Derived.Test.YtgacafdkhailmaaDoorWRCmp
namespace Go.Proofs.YtgacafdkhailmaaDoor
open Go.RowKit

theorem cut_l (e0 h : Int) (w : World) (hh : Hid (held e0 = h)) : Calls Tryd.prog 39 #[.int .i64 e0] w fun e w' => e = .returned (.int .i64 h) ∧ w = w' := by
  have hv := hh.out
  unfold held at hv
  clear hh
  by_cases h1 : 2147483648 < e0
  · obtain rfl : h = 2147483648 := by omega
    have b1 : decide ((2147483648 : Int) < e0) = true := decide_eq_true h1
    clear hv h1
    go_enter Tryd.func39, Tryd.ntmps39
    go_wp2
    go_ret
    exact ⟨rfl, rfl⟩
  · have b1 : decide ((2147483648 : Int) < e0) = false := decide_eq_false h1
    by_cases h2 : e0 < -2147483648
    · obtain rfl : h = -2147483648 := by omega
      have b2 : decide (e0 < -2147483648) = true := decide_eq_true h2
      clear hv h1 h2
      go_enter Tryd.func39, Tryd.ntmps39
      go_wp2
      go_ret
      exact ⟨rfl, rfl⟩
    · obtain rfl : h = e0 := by omega
      have b2 : decide (h < -2147483648) = false := decide_eq_false h2
      clear hv h1 h2
      go_enter Tryd.func39, Tryd.ntmps39
      go_wp2
      go_ret
      exact ⟨rfl, rfl⟩

/-- Digits aren't in such a block. -/
theorem Bd.dig {w : World} {b t : Nat} {g : Bool} {A : Option Addr} {n c : Nat} {e : Int} (h : Bd w b t g A n c e) {A1 : Option Addr} {n1 c1 : Nat} {ds : List Nat} (hA : Dig w A1 n1 c1 ds) (g' : Bool) (A' : Option Addr) (n' c' : Nat) (e' : Int) : Dig (World.put w b g' A' n' c' e') A1 n1 c1 ds :=
  ⟨⟨hA.1.1, hA.1.2.1, fun hn => by
    obtain ⟨k, o, ek, hk, hc⟩ := hA.at_ hn
    have hne : k ≠ b := by
      rintro rfl
      have := h.not (hc 0 hn)
      cases this
    exact ⟨k, o, ek, by rw [put_size]; exact hk, fun j hj => by rw [put_cell _ _ _ _ _ _ _ _ hne]; exact hc j hj⟩⟩, hA.2⟩
theorem Dig.drew {w : World} {A : Option Addr} {n c : Nat} {ds : List Nat} (h : Dig w A n c ds) : Dig w.drew A n c ds := h
theorem Dig.alloc {w : World} {A : Option Addr} {n c : Nat} {ds : List Nat} (h : Dig w A n c ds) (o : Obj) : Dig (w.alloc o) A n c ds := h.below ((Below.refl _ _).alloc (Nat.le_refl _) o)
/-- How many digits a number has at most. -/
theorem dig_len {ds : List Nat} {k : Nat} (hb : D.Bare ds) (h : D.val ds < 2 ^ (16 * k)) : ds.length ≤ k := by
  rcases Nat.lt_or_ge k ds.length with hk | hk
  · obtain ⟨j, hj⟩ : ∃ j, ds.length = j + 1 := ⟨ds.length - 1, by omega⟩
    have h1 := D.val_pos_of_tl (xs := ds) (j := j) (by rw [hb, hj])
    rw [D.pw_two] at h1
    have h2 : (2 : Nat) ^ (16 * k) ≤ 2 ^ (16 * j) := Nat.pow_le_pow_right (by decide) (by omega)
    omega
  · exact hk

/-- A number that is told. -/
def NTold (w : World) (d : Dy) (L : Nat) (e : Ending) (w' : World) : Prop :=
  ∃ A m c ds, e = .returned (.agg #[.bool d.neg, .slice A m c, .int .i64 d.e]) ∧ m ≤ L ∧ Dig w' A m c ds ∧ D.Bare ds ∧ D.val ds = d.V ∧ Below w.heap.size w w'

theorem low_bit {V j : Nat} (h : 0 < V) (hj : j ≤ low V) : V / 2 ^ j % 2 = if j = low V then 1 else 0 := by
  obtain ⟨m, hm⟩ := low_spec h
  generalize low V = l at *
  split
  · rename_i e
    subst e
    rw [hm, Nat.mul_div_cancel_left _ (Nat.two_pow_pos _)]
    omega
  · rename_i e
    obtain ⟨d, rfl⟩ : ∃ d, l = j + (d + 1) := ⟨l - j - 1, by omega⟩
    rw [hm, Nat.pow_add, Nat.mul_assoc, Nat.mul_div_cancel_left _ (Nat.two_pow_pos _), Nat.pow_succ, Nat.mul_comm (2 ^ d), Nat.mul_assoc, Nat.mul_mod_right]

set_option maxHeartbeats 1000000 in
theorem rof_any (g : Bool) (A : Option Addr) (n c : Nat) (xs : List Nat) (e0 : Int) (w : World) (hA : Lim w A n c xs) (hn : n ≤ 200) :
    Calls Tryd.prog 16 #[.agg #[.bool g, .slice A n c, .int .i64 e0]] w (NTold w (nO g (val xs) e0) (4 * n)) := by
  have a3 : Below w.heap.size w ((w.alloc (.cells #[.bool g, .slice A n c, .int .i64 e0] 41)).alloc (.cells #[.bool false, .slice none 0 0, .int .i64 0] 37)) := ((Below.refl _ _).alloc (Nat.le_refl _) _).alloc (by simp) _
  have H1 := Lib.hid (to_any A n c xs _ (hA.below a3) (by omega))
  have b1 := (Bd.new w 41 g A n c e0).alloc (.cells #[.bool false, .slice none 0 0, .int .i64 0] 37)
  have b2 := Bd.new (w.alloc (.cells #[.bool g, .slice A n c, .int .i64 e0] 41)) 37 false none 0 0 0
  rw [World.size_alloc] at b2
  have Hb1 := Lib.hid b1
  have Hb2 := Lib.hid b2
  have HS := Lib.hid a3
  have hlt := val_lt hA.words
  rw [hA.len] at hlt
  have Hlt : Hid (val xs < 2 ^ (16 * (4 * n))) := by
    rw [pw_two, show 64 * n = 16 * (4 * n) by omega] at hlt
    exact hlt
  have hbl := hA.blen_le
  generalize val xs = V at *
  clear hA a3 b1 b2 hlt
  go_enter Tryd.func16, Tryd.ntmps16
  go_wp2_with fail
  refine H1.out.mono ?_
  rintro e w1 ⟨A1, m1, c1, ds, rfl, hm1, hl1, hd1, hv1, hB1⟩
  have HL1 := Lib.hid hl1
  have hk1 := Lib.hid (Hb1.out.below hB1)
  have hk2 := Lib.hid (Hb2.out.below hB1)
  have HS1 := Lib.hid (HS.out.trans (hB1.mono HS.out.size))
  have hm9 : m1 ≤ 800 := by omega
  by_cases h0 : V = 0
  · obtain rfl : ds = [] := by
      have h5 : D.tl ds = 0 := D.tl_zero_iff.2 (hv1.trans h0)
      rw [hd1] at h5
      exact List.eq_nil_of_length_eq_zero h5
    obtain rfl : m1 = 0 := hl1.len.symm
    have Hfin : Hid (NTold w (nO g V e0) (4 * n) (.returned (.agg #[.bool false, .slice none 0 0, .int .i64 0])) (World.put w1 (w.heap.size + 1) false none 0 0 0)) := by
      rw [h0, nO_zero]
      exact ⟨none, 0, 0, [], rfl, Nat.zero_le _, Dig.nil _ _ _, rfl, rfl, below_put HS1.out (Nat.le_succ _) _ _ _ _ _⟩
    have y0 := hk2.out.c0
    have y1 := hk2.out.c1
    have y2 := hk2.out.c2
    have yf := hk2.out.fz
    clear hk1 hk2 hB1 hl1 hd1 hv1 H1 Hb1 Hb2 HS HL1 h0 HS1
    go_wp2
    exact bodyPost_ret (v := .agg #[.bool false, .slice none 0 0, .int .i64 0]) (by simp [results, Tryd.results16, go_sem, y0, y1, y2]) rfl Hfin.out
  · have hm0 : 0 < m1 := by
      rcases Nat.eq_zero_or_pos m1 with h | h
      · exfalso
        apply h0
        rw [← hv1]
        have h5 := hl1.len
        rw [h] at h5
        rw [List.eq_nil_of_length_eq_zero h5]; rfl
      · exact h
    obtain ⟨l, hl⟩ : ∃ l, low V = l := ⟨_, rfl⟩
    have hl9 : l ≤ 64 * n := by rw [← hl]; exact Nat.le_trans (low_le_blen V) hbl
    have Hbit : Hid (∀ j, j ≤ l → V / 2 ^ j % 2 = if j = l then 1 else 0) := fun j hj => by
      rw [← hl]; exact low_bit (Nat.pos_of_ne_zero h0) (by omega)
    have Hv1 := Lib.hid hv1
    have Hd1 := Lib.hid hd1
    have c0 : ((m1 : Int) == 0) = false := beq_no (by omega)
    have HN : Hid (nO g V e0 = ⟨g, V / 2 ^ l, held e0 + l⟩) := by rw [← hl]; exact nO_pos g e0 h0
    clear hB1 hl1 hd1 hv1 H1 Hb1 Hb2 HS h0 hl hbl
    go_wp2
    go_loop [4] (fun i => ∃ j : Nat, j ≤ l ∧ i = .int .i64 j) (fun i => l - (intOf i).toNat)
    case atStart => exact ⟨0, Nat.zero_le _, rfl⟩
    case round =>
      obtain ⟨j, hj, rfl⟩ := hrel
      by_cases hjl : j = l
      · subst hjl
        have Hb : Hid (D.val ds / 2 ^ j % 2 = 1) := by rw [Hv1.out]; have := Hbit.out j (Nat.le_refl _); rw [if_pos rfl] at this; exact this
        have H5 := rshr_pos A1 m1 c1 ds j (by omega) w1 HL1.out Hd1.out (by omega)
        rw [Hv1.out] at H5
        generalize decide (V % 2 ^ j ≠ 0) = R at H5
        have H5 := Lib.hid H5
        obtain ⟨h, hh⟩ : ∃ h, held e0 = h := ⟨_, rfl⟩
        have hhb := held_bd e0
        rw [hh] at hhb
        have Hh := Lib.hid hh
        have Hlt2 : Hid (V / 2 ^ j < 2 ^ (16 * (4 * n))) := Nat.lt_of_le_of_lt (Nat.div_le_self _ _) Hlt.out
        rw [hh] at HN
        have hw : IntKind.i64.wrap (h + (j : Int)) = h + (j : Int) := by rw [IntKind.wrap_i64]; omega
        clear hh Hlt Hbit
        go_wp2_with fail
        refine (rbit_any 1 A1 m1 c1 ds j w1 HL1.out (by omega) (by omega) Hb).mono ?_
        rintro e w' ⟨rfl, rfl⟩
        go_wp2_with fail
        refine H5.out.mono ?_
        rintro e w2 ⟨A2, m2, c2, es, rfl, _, hl2, hd2, hv2, hB2⟩
        have k1 := hk1.out.below hB2
        have k2 := hk2.out.below hB2
        have hm2 : m2 ≤ 4 * n := by
          rw [← hl2.len]
          exact dig_len hd2 (by rw [hv2]; exact Hlt2.out)
        have Hfin : Hid (NTold w (nO g V e0) (4 * n) (.returned (.agg #[.bool g, .slice A2 m2 c2, .int .i64 (h + j)])) (World.put w2 (w.heap.size + 1) g A2 m2 c2 (h + j)).drew) := by
          rw [HN.out]
          exact ⟨A2, m2, c2, es, rfl, hm2, (k2.dig hl2 _ _ _ _ _).drew, hd2, hv2, (below_put (HS1.out.trans (hB2.mono HS1.out.size)) (Nat.le_succ _) _ _ _ _ _).drew⟩
        have q1 := k1.other (b' := w.heap.size + 1) (by omega) g A2 m2 c2 (h + j)
        have K0 := Lib.hid (And.intro k1.drew.c0 k1.drew.c2)
        have K1 := Lib.hid (And.intro q1.drew.c0 q1.drew.c2)
        have y0 := k2.c0
        have y1 := k2.c1
        have y2 := k2.c2
        have yf := k2.fz
        clear k1 k2 q1 hB2 hl2 hd2 hv2 H5 hk1 hk2 HS1 HN Hlt2 Hb HL1 Hv1 Hd1
        go_wp2_with fail
        go_region_held3 (fun w' => w'.cell? ⟨w.heap.size, 0, none⟩ = some (.bool g) ∧ w'.cell? ⟨w.heap.size, 2, none⟩ = some (.int .i64 e0)) (first | (with_reducible exact K0.out) | (with_reducible exact K1.out)) (first | (go_at_call 39; (with_reducible refine (cut_l e0 h _ Hh).mono ?_); rintro e w' ⟨rfl, rfl⟩))
        all_goals (
          go_wp2_with fail
          exact bodyPost_ret (v := .agg #[.bool g, .slice A2 m2 c2, .int .i64 (h + j)]) (by simp [results, Tryd.results16, go_sem, y0, y1, y2]) rfl Hfin.out)
      · have Hb : Hid (D.val ds / 2 ^ j % 2 = 0) := by rw [Hv1.out]; have := Hbit.out j hj; rw [if_neg hjl] at this; exact this
        clear Hbit HN hk1 hk2 HS1 Hlt
        go_wp2_with fail
        refine (rbit_any 0 A1 m1 c1 ds j w1 HL1.out (by omega) (by omega) Hb).mono ?_
        rintro e w' ⟨rfl, rfl⟩
        go_wp2
        go_round
        case rel => exact ⟨j + 1, by omega, by go_num⟩
        case measure => simp [intOf]; omega
end Go.Proofs.YtgacafdkhailmaaDoor
