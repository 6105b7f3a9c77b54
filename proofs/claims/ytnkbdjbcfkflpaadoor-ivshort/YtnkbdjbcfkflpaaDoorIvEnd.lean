/- The walk of planimeterlaw15.end where it tells true (written by law_iend.py). -/
import Derived.Test.YtnkbdjbcfkflpaaDoorK2
import Derived.Test.YtnkbdjbcfkflpaaDoorK5
import Derived.Test.YtnkbdjbcfkflpaaDoorRnSeek
import Derived.Test.YtnkbdjbcfkflpaaDoorK3
import Derived.Test.YtnkbdjbcfkflpaaDoorK4
namespace Go.Proofs.YtnkbdjbcfkflpaaDoor
open Go.RowKit

theorem Bd.set0 {w : World} {b t : Nat} {g : Bool} {A : Option Addr} {n c : Nat} {e : Int} (h : Bd w b t g A n c e) (g' : Bool) : Bd (w.setCell ⟨b, 0, none⟩ (.bool g')) b t g' A n c e := by
  unfold Bd at h ⊢
  simp [World.setCell, Array.getElem?_modify, h]
theorem Bd.set0_other {w : World} {b t : Nat} {g : Bool} {A : Option Addr} {n c : Nat} {e : Int} (h : Bd w b t g A n c e) {b' : Nat} (hb : b ≠ b') (g' : Bool) : Bd (w.setCell ⟨b', 0, none⟩ (.bool g')) b t g A n c e := by
  unfold Bd; rw [Below.heap_setCell _ _ _ _ hb]; exact h
theorem Bd.set0_dig {w : World} {b t : Nat} {g : Bool} {A : Option Addr} {n c : Nat} {e : Int} (h : Bd w b t g A n c e) {A1 : Option Addr} {n1 c1 : Nat} {ds : List Nat} (hA : Dig w A1 n1 c1 ds) (g' : Bool) : Dig (w.setCell ⟨b, 0, none⟩ (.bool g')) A1 n1 c1 ds :=
  ⟨⟨hA.1.1, hA.1.2.1, fun hn => by
    obtain ⟨k, o, ek, hk, hc⟩ := hA.at_ hn
    have hne : k ≠ b := by
      rintro rfl
      have := h.not (hc 0 hn)
      cases this
    exact ⟨k, o, ek, by simp [World.setCell]; exact hk, fun j hj => by
      have e : (w.setCell ⟨b, 0, none⟩ (.bool g')).cell? ⟨k, o + j, none⟩ = w.cell? ⟨k, o + j, none⟩ := World.cell?_of_block (w := w) (Below.heap_setCell _ _ _ _ hne)
      rw [e]
      exact hc j hj⟩⟩, hA.2⟩
/-- Both numbers in their boxes, their digits. -/
def HoldE2 (w : World) (g : Bool) (A : Option Addr) (n c : Nat) (ds : List Nat) (E : Int) (k : Bool) (B : Option Addr) (m d : Nat) (es : List Nat) (G : Int) (u : World) : Prop :=
  Bd u w.heap.size 31 g A n c E ∧ Bd u (w.heap.size + 1) 31 k B m d G ∧ Dig u A n c ds ∧ Dig u B m d es ∧ Below w.heap.size w u
section
variable {w u u' : World} {g : Bool} {A : Option Addr} {n c : Nat} {ds : List Nat} {E : Int} {k : Bool} {B : Option Addr} {m d : Nat} {es : List Nat} {G : Int}
theorem HoldE2.below (h : HoldE2 w g A n c ds E k B m d es G u) (hb : Below u.heap.size u u') : HoldE2 w g A n c ds E k B m d es G u' :=
  ⟨h.1.below hb, h.2.1.below hb, h.2.2.1.below hb, h.2.2.2.1.below hb, h.2.2.2.2.trans (hb.mono h.2.2.2.2.size)⟩
theorem HoldE2.start (hA : Dig w A n c ds) (hB : Dig w B m d es) : HoldE2 w g A n c ds E k B m d es G ((w.alloc (.cells #[.bool g, .slice A n c, .int .i64 E] 31)).alloc (.cells #[.bool k, .slice B m d, .int .i64 G] 31)) := by
  have a1 := below1 w (.cells #[.bool g, .slice A n c, .int .i64 E] 31)
  have a2 := below1 (w.alloc (.cells #[.bool g, .slice A n c, .int .i64 E] 31)) (.cells #[.bool k, .slice B m d, .int .i64 G] 31)
  have b2 := Bd.new (w.alloc (.cells #[.bool g, .slice A n c, .int .i64 E] 31)) 31 k B m d G
  rw [World.size_alloc] at b2
  exact ⟨(Bd.new w _ _ _ _ _ _).below a2, b2, (hA.below a1).below a2, (hB.below a1).below a2, a1.trans (a2.mono a1.size)⟩
theorem HoldE2.turn (h : HoldE2 w g A n c ds E k B m d es G u) (k' : Bool) : HoldE2 w g A n c ds E k' B m d es G (u.setCell ⟨w.heap.size + 1, 0, none⟩ (.bool k')) :=
  ⟨h.1.set0_other (by omega) _, h.2.1.set0 _, h.2.1.set0_dig h.2.2.1 _, h.2.1.set0_dig h.2.2.2.1 _, h.2.2.2.2.setCell (p := ⟨w.heap.size + 1, 0, none⟩) (Nat.le_succ _) _⟩
end
theorem dlen_none {w : World} {A : Option Addr} {m c : Nat} {ds : List Nat} (h : Dig w A m c ds) (hb : D.Bare ds) : m = 0 ↔ D.val ds = 0 := by
  have h5 := h.len
  constructor
  · intro h0
    rw [h0] at h5
    rw [List.eq_nil_of_length_eq_zero h5]
    rfl
  · intro h0
    have h6 : D.tl ds = 0 := D.tl_zero_iff.2 h0
    rw [hb] at h6
    omega
theorem end_off {oV : Nat} {oE u : Int} (h : sz oV oE < sz 1 u) (h1 : -5000 ≤ oE) (h2 : oE ≤ 5000) (h3 : -10000 ≤ u) (h4 : u ≤ 6000) : oV < 2 ^ 11008 := by
  obtain ⟨K, hK⟩ : ∃ K, 11008 = K := ⟨_, rfl⟩
  rw [hK]
  unfold sz at h
  rw [Nat.one_mul] at h
  have a := sh_held oE
  have b := sh_held u
  rw [held_id (by omega) (by omega)] at a b
  have h5 : 2 ^ sh u ≤ 2 ^ (K + sh oE) := Nat.pow_le_pow_right (by decide) (by omega)
  rw [Nat.pow_add] at h5
  exact Nat.lt_of_mul_lt_mul_right (Nat.lt_of_lt_of_le h h5)

set_option maxHeartbeats 1000000 in
set_option maxRecDepth 20000 in
theorem end_nil (g : Bool) (A : Option Addr) (n c : Nat) (ds : List Nat) (E : Int) (k : Bool) (B : Option Addr) (m d : Nat) (es : List Nat) (G : Int) (b : Nat) (w : World) (hA : Dig w A n c ds) (hB : Dig w B m d es) (ba : D.Bare ds) (bb : D.Bare es) (h0 : D.val ds = 0) (h1 : D.val es = 0) :
    Calls Tryd.prog 26 #[.agg #[.bool g, .slice A n c, .int .i64 E], .agg #[.bool k, .slice B m d, .int .i64 G], .int .i64 (b : Int)] w fun e w' => e = .returned (.bool true) ∧ Below w.heap.size w w' := by
  have k0 := HoldE2.start (g := g) (E := E) (k := k) (G := G) hA hB
  have e0 : n = 0 := (dlen_none hA ba).2 h0
  have e1 : m = 0 := (dlen_none hB bb).2 h1
  subst e0 e1
  have x1 := k0.1.c1
  have y1 := k0.2.1.c1
  have Hfin := Lib.hid k0.2.2.2.2
  clear hA hB ba bb h0 h1 k0
  go_enter Tryd.func26, Tryd.ntmps26
  go_wp2
  go_ret
  exact ⟨rfl, Hfin.out⟩

theorem dig_lt80 {w : World} {A : Option Addr} {n c : Nat} {ds : List Nat} (h : Dig w A n c ds) (hn : n ≤ 80) : D.val ds < 2 ^ 1280 := by
  have := D.val_lt h.words
  rw [h.len, D.pw_two] at this
  obtain ⟨K, hK⟩ : ∃ K, 1280 = K := ⟨_, rfl⟩
  rw [hK]
  exact Nat.lt_of_lt_of_le this (Nat.pow_le_pow_right (by decide) (by omega))

set_option maxHeartbeats 2000000 in
set_option maxRecDepth 20000 in
theorem end_zl (g : Bool) (A : Option Addr) (n c : Nat) (ds : List Nat) (E : Int) (k : Bool) (B : Option Addr) (m d : Nat) (es : List Nat) (G : Int) (b : Nat) (u : Int) (w : World) (hA : Dig w A n c ds) (hB : Dig w B m d es) (ba : D.Bare ds) (bb : D.Bare es) (hn : n ≤ 80) (hm : m ≤ 1000) (hE1 : -4000 ≤ E) (hE2 : E ≤ 4000) (hG1 : -4000 ≤ G) (hG2 : G ≤ 4000) (hb : b ≤ 4096) (h0 : D.val ds ≠ 0)
    (hu : (blen (D.val ds) : Int) + E - (b : Int) = u) (h1 : D.val es = 0) (h3 : E < u) (h5 : (dw g (D.val ds) E - dw k (D.val es) G).natAbs < sz 1 u) :
    Calls Tryd.prog 26 #[.agg #[.bool g, .slice A n c, .int .i64 E], .agg #[.bool k, .slice B m d, .int .i64 G], .int .i64 (b : Int)] w fun e w' => e = .returned (.bool true) ∧ Below w.heap.size w w' := by
  have k0 := HoldE2.start (g := g) (E := E) (k := k) (G := G) hA hB
  have K0 := Lib.hid k0
  obtain ⟨t, ht⟩ : ∃ t, rtop (D.val ds) E = t := ⟨_, rfl⟩
  have ht' : (blen (D.val ds) : Int) - 1 + E = t := ht
  have hbl := blen_le_iff.2 (dig_lt80 hA hn)
  have H1 := Lib.hid (rtop_l t g A n c ds E _ k0.2.2.1 ba (by omega) (by omega) (by omega) ht)
  obtain ⟨q, hq⟩ : ∃ q : Int, t - (b : Int) = q := ⟨_, rfl⟩
  have wq : IntKind.i64.wrap (t - (b : Int)) = q := by rw [hq, IntKind.wrap_i64]; omega
  have wu : IntKind.i64.wrap (q + 1) = u := by rw [IntKind.wrap_i64]; omega
  obtain ⟨⟨og, oV, oE⟩, o1, _, _, o2, _, _, o3⟩ := gadd_spec g (!k) (D.val ds) (D.val es) E G (by omega) (by omega) (by omega) (by omega) (by omega) (by omega)
  dsimp only at o1 o2
  rw [dw_neg] at o1
  have os : sz oV oE = (dw g (D.val ds) E - dw k (D.val es) G).natAbs := by
    have absd : ∀ (g : Bool) (V : Nat) (e : Int), (dw g V e).natAbs = sz V e := fun g V e => by cases g <;> simp [dw]
    rw [← absd og, o1, Int.sub_eq_add_neg]
  have oL := end_off (oV := oV) (oE := oE) (u := u) (by rw [os]; exact h5) (by omega) (by omega) (by omega) (by omega)
  have HAd : Hid (∀ v, Dig v A n c ds → Dig v B m d es → Calls Tryd.prog 20 #[.agg #[.bool g, .slice A n c, .int .i64 E], .agg #[.bool (!k), .slice B m d, .int .i64 G]] v (NTold v ⟨og, oV, oE⟩ 688)) := fun v hv1 hv2 =>
    (o3 A n c ds B m d es v hv1 hv2 ba bb (by omega) (by omega) rfl rfl).mono fun e w' ⟨X, x, y, fs, k1, k2, k3, k4, k5, k6⟩ => ⟨X, x, y, fs, k1, dlen_le k3 k4 k5 oL (by decide), k3, k4, k5, k6⟩
  obtain ⟨cv, hcv⟩ : ∃ cv, cmpI (dw false oV oE) (dw false 1 u) = cv := ⟨_, rfl⟩
  have dcv : decide (cv < (0 : Int)) = true := decide_eq_true (by
    rw [← hcv, cmpI_lt (by
      show ((sz oV oE : Nat) : Int) < ((sz 1 u : Nat) : Int)
      rw [os]
      omega)]
    decide)
  have HC : Hid (cmpI (dw false oV oE) (dw false 1 u) = cv ∧ (-5000 ≤ oE ∧ oE ≤ 5000) ∧ (-10000 ≤ u ∧ u ≤ 10000)) := ⟨hcv, ⟨by omega, by omega⟩, ⟨by omega, by omega⟩⟩
  have c0 : ((n : Int) == 0) = false := beq_no (by have := mt (dlen_none hA ba).1 h0; omega)
  have c0n : (n == 0) = false := by simpa using mt (dlen_none hA ba).1 h0
  have e1 : m = 0 := (dlen_none hB bb).2 h1
  subst e1
  have dE : decide (E < u) = true := decide_eq_true h3
  obtain ⟨nk, hnk⟩ : ∃ x, (!k) = x := ⟨_, rfl⟩
  rw [hnk] at HAd
  have x0 := k0.1.c0
  have x1 := k0.1.c1
  have x2 := k0.1.c2
  clear hA hB ba bb k0 ht ht' hbl hq o1 o2 o3 os oL hcv h0 h1 h3 h5 hE1 hE2 hG1 hG2 hu
  go_enter Tryd.func26, Tryd.ntmps26
  go_wp2_with fail
  refine H1.out.mono ?_
  rintro e w1 ⟨rfl, hB1⟩
  clear x0 x1 x2 H1
  replace K0 := Lib.hid (K0.out.below hB1)
  have y0 := K0.out.2.1.c0
  have yf := K0.out.2.1.fz
  have k2 := K0.out.turn nk
  have x0 := k2.1.c0
  have x1 := k2.1.c1
  have x2 := k2.1.c2
  have z0 := k2.2.1.c0
  have z1 := k2.2.1.c1
  have z2 := k2.2.1.c2
  have H2 := Lib.hid (HAd.out _ k2.2.2.1 k2.2.2.2.1)
  replace K0 := Lib.hid k2
  clear hB1 k2 HAd
  go_wp2_with fail
  refine H2.out.mono ?_
  rintro e w2 ⟨Ao, mo, co, fs, rfl, hmo, hlo, hbo, hvo, hB2⟩
  dsimp only at hvo
  clear y0 yf x0 x1 x2 z0 z1 z2 H2
  have a1 := below1 w2 (.cells #[.bool false, .slice Ao mo co, .int .i64 oE] 31)
  have HD := Bd.new w2 31 false Ao mo co oE
  have HDg : Hid (Dig (w2.alloc (.cells #[.bool false, .slice Ao mo co, .int .i64 oE] 31)) Ao mo co fs ∧ D.Bare fs ∧ D.val fs = oV) := ⟨hlo.below a1, hbo, hvo⟩
  have k3 := (K0.out.below hB2).below a1
  have hdn := dig_new1 (w2.alloc (.cells #[.bool false, .slice Ao mo co, .int .i64 oE] 31)) 69 1 1 rfl (by decide)
  rw [World.size_alloc] at hdn
  have a2 := below1 (w2.alloc (.cells #[.bool false, .slice Ao mo co, .int .i64 oE] 31)) (.cells #[.int .u32 1] 69)
  have y1 := k3.2.1.c1
  have y2 := k3.2.1.c2
  have x0 := HD.c0
  have x1 := HD.c1
  have x2 := HD.c2
  have k4 := k3.below a2
  have y1' := k4.2.1.c1
  have y2' := k4.2.1.c2
  have HD4 := HD.below a2
  have H3 := Lib.hid (gcmp_any cv false Ao mo co fs oE false _ 1 1 [1] u _ (HDg.out.1.below a2) hdn HDg.out.2.1 (dbare_one (by decide)) (by omega) (by decide) (by have := HC.out.2.1; omega) (by have := HC.out.2.1; omega) (by have := HC.out.2.2; omega) (by have := HC.out.2.2; omega) (by show _ = _; rw [HDg.out.2.2]; exact HC.out.1))
  replace K0 := Lib.hid k4
  replace HD4 := Lib.hid HD4
  clear hlo hbo hvo hB2 k3 k4 hdn a1 a2 HD
  go_wp2_with fail
  refine H3.out.mono ?_
  rintro e w3 ⟨rfl, hB3⟩
  clear y1 y2 x0 x1 x2 y1' y2' H3
  have k5 := K0.out.below hB3
  have x2 := k5.1.c2
  have z1 := (HD4.out.below hB3).c1
  have Hfin := Lib.hid k5.2.2.2.2
  clear k5 K0 HD4 HDg hB3 HC
  go_wp2
  go_ret
  exact ⟨rfl, Hfin.out⟩

set_option maxHeartbeats 2000000 in
set_option maxRecDepth 20000 in
theorem end_zh (g : Bool) (A : Option Addr) (n c : Nat) (ds : List Nat) (E : Int) (k : Bool) (B : Option Addr) (m d : Nat) (es : List Nat) (G : Int) (b : Nat) (u : Int) (w : World) (hA : Dig w A n c ds) (hB : Dig w B m d es) (ba : D.Bare ds) (bb : D.Bare es) (hn : n ≤ 80) (hm : m ≤ 1000) (hE1 : -4000 ≤ E) (hE2 : E ≤ 4000) (hG1 : -4000 ≤ G) (hG2 : G ≤ 4000) (hb : b ≤ 4096) (h0 : D.val ds ≠ 0)
    (hu : (blen (D.val ds) : Int) + E - (b : Int) = u) (h1 : D.val es = 0) (h3 : u ≤ E) (h4 : dw g (D.val ds) E = dw k (D.val es) G) (h5 : (dw g (D.val ds) E - dw k (D.val es) G).natAbs < sz 1 u) :
    Calls Tryd.prog 26 #[.agg #[.bool g, .slice A n c, .int .i64 E], .agg #[.bool k, .slice B m d, .int .i64 G], .int .i64 (b : Int)] w fun e w' => e = .returned (.bool true) ∧ Below w.heap.size w w' := by
  have k0 := HoldE2.start (g := g) (E := E) (k := k) (G := G) hA hB
  have K0 := Lib.hid k0
  obtain ⟨t, ht⟩ : ∃ t, rtop (D.val ds) E = t := ⟨_, rfl⟩
  have ht' : (blen (D.val ds) : Int) - 1 + E = t := ht
  have hbl := blen_le_iff.2 (dig_lt80 hA hn)
  have H1 := Lib.hid (rtop_l t g A n c ds E _ k0.2.2.1 ba (by omega) (by omega) (by omega) ht)
  obtain ⟨q, hq⟩ : ∃ q : Int, t - (b : Int) = q := ⟨_, rfl⟩
  have wq : IntKind.i64.wrap (t - (b : Int)) = q := by rw [hq, IntKind.wrap_i64]; omega
  have wu : IntKind.i64.wrap (q + 1) = u := by rw [IntKind.wrap_i64]; omega
  obtain ⟨⟨og, oV, oE⟩, o1, _, _, o2, _, _, o3⟩ := gadd_spec g (!k) (D.val ds) (D.val es) E G (by omega) (by omega) (by omega) (by omega) (by omega) (by omega)
  dsimp only at o1 o2
  rw [dw_neg] at o1
  have os : sz oV oE = (dw g (D.val ds) E - dw k (D.val es) G).natAbs := by
    have absd : ∀ (g : Bool) (V : Nat) (e : Int), (dw g V e).natAbs = sz V e := fun g V e => by cases g <;> simp [dw]
    rw [← absd og, o1, Int.sub_eq_add_neg]
  have oL := end_off (oV := oV) (oE := oE) (u := u) (by rw [os]; exact h5) (by omega) (by omega) (by omega) (by omega)
  have HAd : Hid (∀ v, Dig v A n c ds → Dig v B m d es → Calls Tryd.prog 20 #[.agg #[.bool g, .slice A n c, .int .i64 E], .agg #[.bool (!k), .slice B m d, .int .i64 G]] v (NTold v ⟨og, oV, oE⟩ 688)) := fun v hv1 hv2 =>
    (o3 A n c ds B m d es v hv1 hv2 ba bb (by omega) (by omega) rfl rfl).mono fun e w' ⟨X, x, y, fs, k1, k2, k3, k4, k5, k6⟩ => ⟨X, x, y, fs, k1, dlen_le k3 k4 k5 oL (by decide), k3, k4, k5, k6⟩
  obtain ⟨cv, hcv⟩ : ∃ cv, cmpI (dw false oV oE) (dw false 1 u) = cv := ⟨_, rfl⟩
  have dcv : decide (cv < (0 : Int)) = true := decide_eq_true (by
    rw [← hcv, cmpI_lt (by
      show ((sz oV oE : Nat) : Int) < ((sz 1 u : Nat) : Int)
      rw [os]
      omega)]
    decide)
  have HC : Hid (cmpI (dw false oV oE) (dw false 1 u) = cv ∧ (-5000 ≤ oE ∧ oE ≤ 5000) ∧ (-10000 ≤ u ∧ u ≤ 10000)) := ⟨hcv, ⟨by omega, by omega⟩, ⟨by omega, by omega⟩⟩
  have c0 : ((n : Int) == 0) = false := beq_no (by have := mt (dlen_none hA ba).1 h0; omega)
  have c0n : (n == 0) = false := by simpa using mt (dlen_none hA ba).1 h0
  have e1 : m = 0 := (dlen_none hB bb).2 h1
  subst e1
  have dE : decide (E < u) = false := decide_eq_false (by omega)
  have HZ : Hid (oV = 0) := by
    show _ = _
    rw [h4, Int.sub_self] at os
    refine Classical.byContradiction fun h => ?_
    have := sz_pos oE h
    rw [os] at this
    exact absurd this (by decide)
  obtain ⟨nk, hnk⟩ : ∃ x, (!k) = x := ⟨_, rfl⟩
  rw [hnk] at HAd
  have x0 := k0.1.c0
  have x1 := k0.1.c1
  have x2 := k0.1.c2
  clear hA hB ba bb k0 ht ht' hbl hq o1 o2 o3 os oL hcv h0 h1 h3 h5 h4 hE1 hE2 hG1 hG2 hu
  go_enter Tryd.func26, Tryd.ntmps26
  go_wp2_with fail
  refine H1.out.mono ?_
  rintro e w1 ⟨rfl, hB1⟩
  clear x0 x1 x2 H1
  replace K0 := Lib.hid (K0.out.below hB1)
  have y0 := K0.out.2.1.c0
  have yf := K0.out.2.1.fz
  have k2 := K0.out.turn nk
  have x0 := k2.1.c0
  have x1 := k2.1.c1
  have x2 := k2.1.c2
  have z0 := k2.2.1.c0
  have z1 := k2.2.1.c1
  have z2 := k2.2.1.c2
  have H2 := Lib.hid (HAd.out _ k2.2.2.1 k2.2.2.2.1)
  replace K0 := Lib.hid k2
  clear hB1 k2 HAd
  go_wp2_with fail
  refine H2.out.mono ?_
  rintro e w2 ⟨Ao, mo, co, fs, rfl, hmo, hlo, hbo, hvo, hB2⟩
  dsimp only at hvo
  clear y0 yf x0 x1 x2 z0 z1 z2 H2
  have a1 := below1 w2 (.cells #[.bool false, .slice Ao mo co, .int .i64 oE] 31)
  have HD := Bd.new w2 31 false Ao mo co oE
  have HDg : Hid (Dig (w2.alloc (.cells #[.bool false, .slice Ao mo co, .int .i64 oE] 31)) Ao mo co fs ∧ D.Bare fs ∧ D.val fs = oV) := ⟨hlo.below a1, hbo, hvo⟩
  have k3 := (K0.out.below hB2).below a1
  have hdn := dig_new1 (w2.alloc (.cells #[.bool false, .slice Ao mo co, .int .i64 oE] 31)) 69 1 1 rfl (by decide)
  rw [World.size_alloc] at hdn
  have a2 := below1 (w2.alloc (.cells #[.bool false, .slice Ao mo co, .int .i64 oE] 31)) (.cells #[.int .u32 1] 69)
  have y1 := k3.2.1.c1
  have y2 := k3.2.1.c2
  have x0 := HD.c0
  have x1 := HD.c1
  have x2 := HD.c2
  have k4 := k3.below a2
  have y1' := k4.2.1.c1
  have y2' := k4.2.1.c2
  have HD4 := HD.below a2
  have H3 := Lib.hid (gcmp_any cv false Ao mo co fs oE false _ 1 1 [1] u _ (HDg.out.1.below a2) hdn HDg.out.2.1 (dbare_one (by decide)) (by omega) (by decide) (by have := HC.out.2.1; omega) (by have := HC.out.2.1; omega) (by have := HC.out.2.2; omega) (by have := HC.out.2.2; omega) (by show _ = _; rw [HDg.out.2.2]; exact HC.out.1))
  replace K0 := Lib.hid k4
  replace HD4 := Lib.hid HD4
  clear hlo hbo hvo hB2 k3 k4 hdn a1 a2 HD
  go_wp2_with fail
  refine H3.out.mono ?_
  rintro e w3 ⟨rfl, hB3⟩
  clear y1 y2 x0 x1 x2 y1' y2' H3
  have k5 := K0.out.below hB3
  have x2 := k5.1.c2
  have z1 := (HD4.out.below hB3).c1
  have m0 : mo = 0 := (dlen_none HDg.out.1 HDg.out.2.1).2 (by rw [HDg.out.2.2]; exact HZ.out)
  subst m0
  have Hfin := Lib.hid k5.2.2.2.2
  clear k5 K0 HD4 HDg hB3 HC HZ
  go_wp2
  go_ret
  exact ⟨rfl, Hfin.out⟩

set_option maxHeartbeats 2000000 in
set_option maxRecDepth 20000 in
theorem end_nl (g : Bool) (A : Option Addr) (n c : Nat) (ds : List Nat) (E : Int) (k : Bool) (B : Option Addr) (m d : Nat) (es : List Nat) (G : Int) (b : Nat) (u : Int) (w : World) (hA : Dig w A n c ds) (hB : Dig w B m d es) (ba : D.Bare ds) (bb : D.Bare es) (hn : n ≤ 80) (hm : m ≤ 1000) (hE1 : -4000 ≤ E) (hE2 : E ≤ 4000) (hG1 : -4000 ≤ G) (hG2 : G ≤ 4000) (_hb : b ≤ 4096) (h0 : D.val ds ≠ 0)
    (hu : (blen (D.val ds) : Int) + E - (b : Int) = u) (h1 : D.val es ≠ 0) (h2 : u ≤ G) (h3 : E < u) (h5 : (dw g (D.val ds) E - dw k (D.val es) G).natAbs < sz 1 u) :
    Calls Tryd.prog 26 #[.agg #[.bool g, .slice A n c, .int .i64 E], .agg #[.bool k, .slice B m d, .int .i64 G], .int .i64 (b : Int)] w fun e w' => e = .returned (.bool true) ∧ Below w.heap.size w w' := by
  have k0 := HoldE2.start (g := g) (E := E) (k := k) (G := G) hA hB
  have K0 := Lib.hid k0
  obtain ⟨t, ht⟩ : ∃ t, rtop (D.val ds) E = t := ⟨_, rfl⟩
  have ht' : (blen (D.val ds) : Int) - 1 + E = t := ht
  have hbl := blen_le_iff.2 (dig_lt80 hA hn)
  have H1 := Lib.hid (rtop_l t g A n c ds E _ k0.2.2.1 ba (by omega) (by omega) (by omega) ht)
  obtain ⟨q, hq⟩ : ∃ q : Int, t - (b : Int) = q := ⟨_, rfl⟩
  have wq : IntKind.i64.wrap (t - (b : Int)) = q := by rw [hq, IntKind.wrap_i64]; omega
  have wu : IntKind.i64.wrap (q + 1) = u := by rw [IntKind.wrap_i64]; omega
  obtain ⟨⟨og, oV, oE⟩, o1, _, _, o2, _, _, o3⟩ := gadd_spec g (!k) (D.val ds) (D.val es) E G (by omega) (by omega) (by omega) (by omega) (by omega) (by omega)
  dsimp only at o1 o2
  rw [dw_neg] at o1
  have os : sz oV oE = (dw g (D.val ds) E - dw k (D.val es) G).natAbs := by
    have absd : ∀ (g : Bool) (V : Nat) (e : Int), (dw g V e).natAbs = sz V e := fun g V e => by cases g <;> simp [dw]
    rw [← absd og, o1, Int.sub_eq_add_neg]
  have oL := end_off (oV := oV) (oE := oE) (u := u) (by rw [os]; exact h5) (by omega) (by omega) (by omega) (by omega)
  have HAd : Hid (∀ v, Dig v A n c ds → Dig v B m d es → Calls Tryd.prog 20 #[.agg #[.bool g, .slice A n c, .int .i64 E], .agg #[.bool (!k), .slice B m d, .int .i64 G]] v (NTold v ⟨og, oV, oE⟩ 688)) := fun v hv1 hv2 =>
    (o3 A n c ds B m d es v hv1 hv2 ba bb (by omega) (by omega) rfl rfl).mono fun e w' ⟨X, x, y, fs, k1, k2, k3, k4, k5, k6⟩ => ⟨X, x, y, fs, k1, dlen_le k3 k4 k5 oL (by decide), k3, k4, k5, k6⟩
  obtain ⟨cv, hcv⟩ : ∃ cv, cmpI (dw false oV oE) (dw false 1 u) = cv := ⟨_, rfl⟩
  have dcv : decide (cv < (0 : Int)) = true := decide_eq_true (by
    rw [← hcv, cmpI_lt (by
      show ((sz oV oE : Nat) : Int) < ((sz 1 u : Nat) : Int)
      rw [os]
      omega)]
    decide)
  have HC : Hid (cmpI (dw false oV oE) (dw false 1 u) = cv ∧ (-5000 ≤ oE ∧ oE ≤ 5000) ∧ (-10000 ≤ u ∧ u ≤ 10000)) := ⟨hcv, ⟨by omega, by omega⟩, ⟨by omega, by omega⟩⟩
  have c0 : ((n : Int) == 0) = false := beq_no (by have := mt (dlen_none hA ba).1 h0; omega)
  have c0n : (n == 0) = false := by simpa using mt (dlen_none hA ba).1 h0
  have c1 : ((m : Int) == 0) = false := beq_no (by have := mt (dlen_none hB bb).1 h1; omega)
  have c1n : (m == 0) = false := by simpa using mt (dlen_none hB bb).1 h1
  have dG : decide (u ≤ G) = true := decide_eq_true h2
  have dE : decide (E < u) = true := decide_eq_true h3
  obtain ⟨nk, hnk⟩ : ∃ x, (!k) = x := ⟨_, rfl⟩
  rw [hnk] at HAd
  have x0 := k0.1.c0
  have x1 := k0.1.c1
  have x2 := k0.1.c2
  clear hA hB ba bb k0 ht ht' hbl hq o1 o2 o3 os oL hcv h0 h1 h3 h5 h2 hE1 hE2 hG1 hG2 hu
  go_enter Tryd.func26, Tryd.ntmps26
  go_wp2_with fail
  refine H1.out.mono ?_
  rintro e w1 ⟨rfl, hB1⟩
  clear x0 x1 x2 H1
  replace K0 := Lib.hid (K0.out.below hB1)
  have y0 := K0.out.2.1.c0
  have yf := K0.out.2.1.fz
  have k2 := K0.out.turn nk
  have x0 := k2.1.c0
  have x1 := k2.1.c1
  have x2 := k2.1.c2
  have z0 := k2.2.1.c0
  have z1 := k2.2.1.c1
  have z2 := k2.2.1.c2
  have H2 := Lib.hid (HAd.out _ k2.2.2.1 k2.2.2.2.1)
  replace K0 := Lib.hid k2
  clear hB1 k2 HAd
  go_wp2_with fail
  refine H2.out.mono ?_
  rintro e w2 ⟨Ao, mo, co, fs, rfl, hmo, hlo, hbo, hvo, hB2⟩
  dsimp only at hvo
  clear y0 yf x0 x1 x2 z0 z1 z2 H2
  have a1 := below1 w2 (.cells #[.bool false, .slice Ao mo co, .int .i64 oE] 31)
  have HD := Bd.new w2 31 false Ao mo co oE
  have HDg : Hid (Dig (w2.alloc (.cells #[.bool false, .slice Ao mo co, .int .i64 oE] 31)) Ao mo co fs ∧ D.Bare fs ∧ D.val fs = oV) := ⟨hlo.below a1, hbo, hvo⟩
  have k3 := (K0.out.below hB2).below a1
  have hdn := dig_new1 (w2.alloc (.cells #[.bool false, .slice Ao mo co, .int .i64 oE] 31)) 69 1 1 rfl (by decide)
  rw [World.size_alloc] at hdn
  have a2 := below1 (w2.alloc (.cells #[.bool false, .slice Ao mo co, .int .i64 oE] 31)) (.cells #[.int .u32 1] 69)
  have y1 := k3.2.1.c1
  have y2 := k3.2.1.c2
  have x0 := HD.c0
  have x1 := HD.c1
  have x2 := HD.c2
  have k4 := k3.below a2
  have y1' := k4.2.1.c1
  have y2' := k4.2.1.c2
  have HD4 := HD.below a2
  have H3 := Lib.hid (gcmp_any cv false Ao mo co fs oE false _ 1 1 [1] u _ (HDg.out.1.below a2) hdn HDg.out.2.1 (dbare_one (by decide)) (by omega) (by decide) (by have := HC.out.2.1; omega) (by have := HC.out.2.1; omega) (by have := HC.out.2.2; omega) (by have := HC.out.2.2; omega) (by show _ = _; rw [HDg.out.2.2]; exact HC.out.1))
  replace K0 := Lib.hid k4
  replace HD4 := Lib.hid HD4
  clear hlo hbo hvo hB2 k3 k4 hdn a1 a2 HD
  go_wp2_with fail
  refine H3.out.mono ?_
  rintro e w3 ⟨rfl, hB3⟩
  clear y1 y2 x0 x1 x2 y1' y2' H3
  have k5 := K0.out.below hB3
  have x2 := k5.1.c2
  have z1 := (HD4.out.below hB3).c1
  have Hfin := Lib.hid k5.2.2.2.2
  clear k5 K0 HD4 HDg hB3 HC
  go_wp2
  go_ret
  exact ⟨rfl, Hfin.out⟩

set_option maxHeartbeats 2000000 in
set_option maxRecDepth 20000 in
theorem end_nh (g : Bool) (A : Option Addr) (n c : Nat) (ds : List Nat) (E : Int) (k : Bool) (B : Option Addr) (m d : Nat) (es : List Nat) (G : Int) (b : Nat) (u : Int) (w : World) (hA : Dig w A n c ds) (hB : Dig w B m d es) (ba : D.Bare ds) (bb : D.Bare es) (hn : n ≤ 80) (hm : m ≤ 1000) (hE1 : -4000 ≤ E) (hE2 : E ≤ 4000) (hG1 : -4000 ≤ G) (hG2 : G ≤ 4000) (hb : b ≤ 4096) (h0 : D.val ds ≠ 0)
    (hu : (blen (D.val ds) : Int) + E - (b : Int) = u) (h1 : D.val es ≠ 0) (h2 : u ≤ G) (h3 : u ≤ E) (h4 : dw g (D.val ds) E = dw k (D.val es) G) (h5 : (dw g (D.val ds) E - dw k (D.val es) G).natAbs < sz 1 u) :
    Calls Tryd.prog 26 #[.agg #[.bool g, .slice A n c, .int .i64 E], .agg #[.bool k, .slice B m d, .int .i64 G], .int .i64 (b : Int)] w fun e w' => e = .returned (.bool true) ∧ Below w.heap.size w w' := by
  have k0 := HoldE2.start (g := g) (E := E) (k := k) (G := G) hA hB
  have K0 := Lib.hid k0
  obtain ⟨t, ht⟩ : ∃ t, rtop (D.val ds) E = t := ⟨_, rfl⟩
  have ht' : (blen (D.val ds) : Int) - 1 + E = t := ht
  have hbl := blen_le_iff.2 (dig_lt80 hA hn)
  have H1 := Lib.hid (rtop_l t g A n c ds E _ k0.2.2.1 ba (by omega) (by omega) (by omega) ht)
  obtain ⟨q, hq⟩ : ∃ q : Int, t - (b : Int) = q := ⟨_, rfl⟩
  have wq : IntKind.i64.wrap (t - (b : Int)) = q := by rw [hq, IntKind.wrap_i64]; omega
  have wu : IntKind.i64.wrap (q + 1) = u := by rw [IntKind.wrap_i64]; omega
  obtain ⟨⟨og, oV, oE⟩, o1, _, _, o2, _, _, o3⟩ := gadd_spec g (!k) (D.val ds) (D.val es) E G (by omega) (by omega) (by omega) (by omega) (by omega) (by omega)
  dsimp only at o1 o2
  rw [dw_neg] at o1
  have os : sz oV oE = (dw g (D.val ds) E - dw k (D.val es) G).natAbs := by
    have absd : ∀ (g : Bool) (V : Nat) (e : Int), (dw g V e).natAbs = sz V e := fun g V e => by cases g <;> simp [dw]
    rw [← absd og, o1, Int.sub_eq_add_neg]
  have oL := end_off (oV := oV) (oE := oE) (u := u) (by rw [os]; exact h5) (by omega) (by omega) (by omega) (by omega)
  have HAd : Hid (∀ v, Dig v A n c ds → Dig v B m d es → Calls Tryd.prog 20 #[.agg #[.bool g, .slice A n c, .int .i64 E], .agg #[.bool (!k), .slice B m d, .int .i64 G]] v (NTold v ⟨og, oV, oE⟩ 688)) := fun v hv1 hv2 =>
    (o3 A n c ds B m d es v hv1 hv2 ba bb (by omega) (by omega) rfl rfl).mono fun e w' ⟨X, x, y, fs, k1, k2, k3, k4, k5, k6⟩ => ⟨X, x, y, fs, k1, dlen_le k3 k4 k5 oL (by decide), k3, k4, k5, k6⟩
  obtain ⟨cv, hcv⟩ : ∃ cv, cmpI (dw false oV oE) (dw false 1 u) = cv := ⟨_, rfl⟩
  have dcv : decide (cv < (0 : Int)) = true := decide_eq_true (by
    rw [← hcv, cmpI_lt (by
      show ((sz oV oE : Nat) : Int) < ((sz 1 u : Nat) : Int)
      rw [os]
      omega)]
    decide)
  have HC : Hid (cmpI (dw false oV oE) (dw false 1 u) = cv ∧ (-5000 ≤ oE ∧ oE ≤ 5000) ∧ (-10000 ≤ u ∧ u ≤ 10000)) := ⟨hcv, ⟨by omega, by omega⟩, ⟨by omega, by omega⟩⟩
  have c0 : ((n : Int) == 0) = false := beq_no (by have := mt (dlen_none hA ba).1 h0; omega)
  have c0n : (n == 0) = false := by simpa using mt (dlen_none hA ba).1 h0
  have c1 : ((m : Int) == 0) = false := beq_no (by have := mt (dlen_none hB bb).1 h1; omega)
  have c1n : (m == 0) = false := by simpa using mt (dlen_none hB bb).1 h1
  have dG : decide (u ≤ G) = true := decide_eq_true h2
  have dE : decide (E < u) = false := decide_eq_false (by omega)
  have HZ : Hid (oV = 0) := by
    show _ = _
    rw [h4, Int.sub_self] at os
    refine Classical.byContradiction fun h => ?_
    have := sz_pos oE h
    rw [os] at this
    exact absurd this (by decide)
  obtain ⟨nk, hnk⟩ : ∃ x, (!k) = x := ⟨_, rfl⟩
  rw [hnk] at HAd
  have x0 := k0.1.c0
  have x1 := k0.1.c1
  have x2 := k0.1.c2
  clear hA hB ba bb k0 ht ht' hbl hq o1 o2 o3 os oL hcv h0 h1 h3 h5 h2 h4 hE1 hE2 hG1 hG2 hu
  go_enter Tryd.func26, Tryd.ntmps26
  go_wp2_with fail
  refine H1.out.mono ?_
  rintro e w1 ⟨rfl, hB1⟩
  clear x0 x1 x2 H1
  replace K0 := Lib.hid (K0.out.below hB1)
  have y0 := K0.out.2.1.c0
  have yf := K0.out.2.1.fz
  have k2 := K0.out.turn nk
  have x0 := k2.1.c0
  have x1 := k2.1.c1
  have x2 := k2.1.c2
  have z0 := k2.2.1.c0
  have z1 := k2.2.1.c1
  have z2 := k2.2.1.c2
  have H2 := Lib.hid (HAd.out _ k2.2.2.1 k2.2.2.2.1)
  replace K0 := Lib.hid k2
  clear hB1 k2 HAd
  go_wp2_with fail
  refine H2.out.mono ?_
  rintro e w2 ⟨Ao, mo, co, fs, rfl, hmo, hlo, hbo, hvo, hB2⟩
  dsimp only at hvo
  clear y0 yf x0 x1 x2 z0 z1 z2 H2
  have a1 := below1 w2 (.cells #[.bool false, .slice Ao mo co, .int .i64 oE] 31)
  have HD := Bd.new w2 31 false Ao mo co oE
  have HDg : Hid (Dig (w2.alloc (.cells #[.bool false, .slice Ao mo co, .int .i64 oE] 31)) Ao mo co fs ∧ D.Bare fs ∧ D.val fs = oV) := ⟨hlo.below a1, hbo, hvo⟩
  have k3 := (K0.out.below hB2).below a1
  have hdn := dig_new1 (w2.alloc (.cells #[.bool false, .slice Ao mo co, .int .i64 oE] 31)) 69 1 1 rfl (by decide)
  rw [World.size_alloc] at hdn
  have a2 := below1 (w2.alloc (.cells #[.bool false, .slice Ao mo co, .int .i64 oE] 31)) (.cells #[.int .u32 1] 69)
  have y1 := k3.2.1.c1
  have y2 := k3.2.1.c2
  have x0 := HD.c0
  have x1 := HD.c1
  have x2 := HD.c2
  have k4 := k3.below a2
  have y1' := k4.2.1.c1
  have y2' := k4.2.1.c2
  have HD4 := HD.below a2
  have H3 := Lib.hid (gcmp_any cv false Ao mo co fs oE false _ 1 1 [1] u _ (HDg.out.1.below a2) hdn HDg.out.2.1 (dbare_one (by decide)) (by omega) (by decide) (by have := HC.out.2.1; omega) (by have := HC.out.2.1; omega) (by have := HC.out.2.2; omega) (by have := HC.out.2.2; omega) (by show _ = _; rw [HDg.out.2.2]; exact HC.out.1))
  replace K0 := Lib.hid k4
  replace HD4 := Lib.hid HD4
  clear hlo hbo hvo hB2 k3 k4 hdn a1 a2 HD
  go_wp2_with fail
  refine H3.out.mono ?_
  rintro e w3 ⟨rfl, hB3⟩
  clear y1 y2 x0 x1 x2 y1' y2' H3
  have k5 := K0.out.below hB3
  have x2 := k5.1.c2
  have z1 := (HD4.out.below hB3).c1
  have m0 : mo = 0 := (dlen_none HDg.out.1 HDg.out.2.1).2 (by rw [HDg.out.2.2]; exact HZ.out)
  subst m0
  have Hfin := Lib.hid k5.2.2.2.2
  clear k5 K0 HD4 HDg hB3 HC HZ
  go_wp2
  go_ret
  exact ⟨rfl, Hfin.out⟩

/-- The second one is the first one with few bits. -/
theorem end_yes (g : Bool) (A : Option Addr) (n c : Nat) (ds : List Nat) (E : Int) (k : Bool) (B : Option Addr) (m d : Nat) (es : List Nat) (G : Int) (b : Nat) (u : Int) (w : World) (hA : Dig w A n c ds) (hB : Dig w B m d es) (ba : D.Bare ds) (bb : D.Bare es) (hn : n ≤ 80) (hm : m ≤ 1000) (hE1 : -4000 ≤ E) (hE2 : E ≤ 4000) (hG1 : -4000 ≤ G) (hG2 : G ≤ 4000) (hb : b ≤ 4096) (h0 : D.val ds ≠ 0)
    (hu : (blen (D.val ds) : Int) + E - (b : Int) = u) (h1 : D.val es = 0 ∨ u ≤ G) (h3 : E < u ∨ dw g (D.val ds) E = dw k (D.val es) G) (h5 : (dw g (D.val ds) E - dw k (D.val es) G).natAbs < sz 1 u) :
    Calls Tryd.prog 26 #[.agg #[.bool g, .slice A n c, .int .i64 E], .agg #[.bool k, .slice B m d, .int .i64 G], .int .i64 (b : Int)] w fun e w' => e = .returned (.bool true) ∧ Below w.heap.size w w' := by
  by_cases hz : D.val es = 0
  · by_cases hl : E < u
    · exact end_zl g A n c ds E k B m d es G b u w hA hB ba bb hn hm hE1 hE2 hG1 hG2 hb h0 hu hz hl h5
    · exact end_zh g A n c ds E k B m d es G b u w hA hB ba bb hn hm hE1 hE2 hG1 hG2 hb h0 hu hz (by omega) (h3.resolve_left hl) h5
  · by_cases hl : E < u
    · exact end_nl g A n c ds E k B m d es G b u w hA hB ba bb hn hm hE1 hE2 hG1 hG2 hb h0 hu hz (h1.resolve_left hz) hl h5
    · exact end_nh g A n c ds E k B m d es G b u w hA hB ba bb hn hm hE1 hE2 hG1 hG2 hb h0 hu hz (h1.resolve_left hz) (by omega) (h3.resolve_left hl) h5
end Go.Proofs.YtnkbdjbcfkflpaaDoor
