/- Texts joined into one, in build order: RnAll, RnDo, RnOrd, RnSeek, RnBelow, RnMid, RnTell, RnDoc, RnAlive, RnRound, DyOpen. -/
import Derived.Test.YtjdlnfmeciodnaaDoorJ3
import Derived.Deep.Cut
import Derived.Deep.CutBlock
import Derived.Test.YtjdlnfmeciodnaaDoorJ1
import Derived.Lib.SmallJoins
/- The walks of round.laid, checked, To. -/
namespace Go.Proofs.YtjdlnfmeciodnaaDoor
open Go.RowKit

theorem nO_shift (g : Bool) {V k : Nat} {e : Int} (h1 : -1073741824 ≤ e) (h2 : e + k ≤ 1073741824) (hV : V ≠ 0) : nO g (V * 2 ^ k) e = nO g V (e + k) := by
  have hV2 : V * 2 ^ k ≠ 0 := Nat.mul_ne_zero hV (Nat.pos_iff_ne_zero.1 (Nat.two_pow_pos _))
  obtain ⟨m, hm⟩ := low_spec (Nat.pos_of_ne_zero hV)
  have hl : low (V * 2 ^ k) = low V + k := low_eq (m := m) (by
    generalize low V = l at hm
    rw [hm, Nat.pow_add, Nat.mul_assoc, Nat.mul_comm (2 * m + 1), ← Nat.mul_assoc])
  rw [nO_pos g _ hV2, nO_pos g _ hV, held_id h1 (by omega), held_id (by omega) h2, hl, Nat.pow_add, Nat.mul_div_mul_right _ _ (Nat.two_pow_pos _)]
  congr 1
  omega
/-- So many units, as bits. -/
theorem ex_round {L U : Nat} {u : Int} (hu : u = (L : Int) - 1074) (hL : L ≤ 2045) (hU : U ≤ 9007199254740992) (h2 : 0 < L → 4503599627370496 ≤ U) :
    exD (nO false U u) = if L * 4503599627370496 + U = 9218868437227405312 then (0, false) else (L * 4503599627370496 + U, true) := by
  have own : ∀ (L' U' : Nat), L' ≤ 2045 → U' < 9007199254740992 → (0 < L' → 4503599627370496 ≤ U') → exD (nO false U' ((L' : Int) - 1074)) = (L' * 4503599627370496 + U', true) := by
    intro L' U' hL' hU' h2'
    obtain ⟨f1, f2, f3, f4, f5⟩ := f_of (L := L') (M := U') false (X := L' * 4503599627370496 + U') hU' h2' hL' (by simp)
    have hb := exD_back f1 f2
    unfold fO at hb
    rw [f3, f5, fe, f4] at hb
    rw [hb]
    split
    · rename_i h0
      have : L' = 0 := by
        rcases Nat.eq_zero_or_pos L' with h | h
        · exact h
        · have := h2' h; omega
      rw [h0, this]
    · rfl
  rcases Nat.lt_or_ge U 9007199254740992 with h | h
  · rw [if_neg (by omega), hu]
    exact own L U hL h h2
  · have e0 : U = 9007199254740992 := by omega
    subst e0
    have e1 : nO false 9007199254740992 u = nO false 4503599627370496 (((L + 1 : Nat) : Int) - 1074) := by
      have := nO_shift false (V := 4503599627370496) (k := 1) (e := u) (by omega) (by omega) (by decide)
      rw [show (4503599627370496 : Nat) * 2 ^ 1 = 9007199254740992 from by decide] at this
      rw [this]
      congr 1
      omega
    rcases Nat.lt_or_ge L 2045 with hL' | hL'
    · rw [if_neg (by omega), e1, own (L + 1) 4503599627370496 (by omega) (by decide) (fun _ => Nat.le_refl _), show (L + 1) * 4503599627370496 + 4503599627370496 = L * 4503599627370496 + 9007199254740992 by omega]
    · have e2 : L = 2045 := by omega
      subst e2
      rw [if_pos (by decide), e1]
      have e3 := nO_shift false (V := 1) (k := 52) (e := ((2045 + 1 : Nat) : Int) - 1074) (by decide) (by decide) (by decide)
      rw [show 1 * 2 ^ 52 = 4503599627370496 from by decide] at e3
      rw [e3]
      decide
theorem mk_units {U : Nat} {u : Int} (h1 : -1074 ≤ u) (h2 : u ≤ 971) (hU : U ≤ 9007199254740992) : mk false U u = some (nO false U u) := by
  rw [mk_nO]
  by_cases h0 : U = 0
  · subst h0; rfl
  · have hl := low_le_blen U
    have hb : blen U ≤ 54 := (blen_le_iff (k := 54)).2 (by omega)
    have hh : held u = u := held_id (by omega) (by omega)
    have hV : U / 2 ^ low U ≠ 0 := fun h => h0 (odd_part_zero.1 h)
    rw [nO_pos false u h0]
    show toldD false (U / 2 ^ low U) (held u + low U) = _
    rw [toldD, if_neg hV, if_neg (by omega)]
theorem nO_bd (U : Nat) (u : Int) (h1 : -1074 ≤ u) (h2 : u ≤ 971) (hU : U ≤ 9007199254740992) : nO (nO false U u).neg (nO false U u).V (nO false U u).e = nO false U u := by
  have hf := (mk_fine (mk_units h1 h2 hU)).1
  exact nO_self (nO_odd false U u) (by have := hf.1; omega) (by have := hf.2.1; omega)

/-- The units' place and number. -/
theorem ru_facts {V : Nat} {e : Int} (hV : V ≠ 0) (h1 : -1073741824 ≤ e) (h2 : e ≤ 1073741824) (ht : rtop V e ≤ 1023) :
    ∃ L : Nat, (ru V e + 1074).toNat = L ∧ ru V e = (L : Int) - 1074 ∧ L ≤ 2045 ∧ e ≤ ru V e + 63 ∧ rU V e (ru V e) < 9007199254740992 ∧ (0 < L → 4503599627370496 ≤ rU V e (ru V e)) := by
  obtain ⟨a, b, c, _, _⟩ := rnd_low hV h1 h2 ht
  have hB := blen_pos hV
  have hr : ru V e = max (rtop V e - 52) (-1074) := rfl
  have hrt : rtop V e = (blen V : Int) - 1 + e := rfl
  refine ⟨(ru V e + 1074).toNat, rfl, by omega, by omega, by omega, ?_⟩
  have hlt := lt_blen V
  have hge := blen_le hV
  generalize ru V e = u at hr ⊢
  rw [hrt] at hr ht
  clear a b c hrt
  by_cases hue : u ≤ e
  · obtain ⟨k, hk⟩ : ∃ k, (e - u).toNat = k := ⟨_, rfl⟩
    rw [rU, if_pos hue, hk]
    have hbl := blen_shl (n := k) hV
    refine ⟨(blen_le_iff (k := 53)).1 (by rw [hbl]; omega), fun h => ?_⟩
    have h5 : blen (V * 2 ^ k) = 53 := by rw [hbl]; omega
    have h6 := blen_le (x := V * 2 ^ k) (fun h0 => by rw [h0] at h5; cases h5)
    rw [h5] at h6
    exact h6
  · obtain ⟨k, hk⟩ : ∃ k, (u - e - 1).toNat = k := ⟨_, rfl⟩
    rw [rU, if_neg hue, hk, Nat.div_div_eq_div_mul, ← Nat.pow_succ]
    constructor
    · rw [Nat.div_lt_iff_lt_mul (Nat.two_pow_pos _), show (9007199254740992 : Nat) = 2 ^ 53 from by decide, ← Nat.pow_add]
      exact blen_le_iff.1 (by omega)
    · intro h
      rw [Nat.le_div_iff_mul_le (Nat.two_pow_pos _), show (4503599627370496 : Nat) = 2 ^ 52 from by decide, ← Nat.pow_add, show 52 + (k + 1) = blen V - 1 by omega]
      exact hge

set_option maxHeartbeats 1000000 in
theorem rlaid_l (X F : Nat) (g more : Bool) (A : Option Addr) (n c : Nat) (xs : List Nat) (e0 top dir : Int) (w : World) (hA : Lim w A n c xs) (hn : n ≤ 4294967000) (hT : Tab w)
    (hV : val xs ≠ 0) (h1 : -1073741824 ≤ e0) (h2 : e0 ≤ 1073741824) (ht : Hid (rtop (val xs) e0 = top)) (hX : Hid (rndO g (val xs) e0 more dir = (X, F))) :
    Calls Tryd.prog 25 #[.agg #[.bool g, .slice A n c, .int .i64 e0], .int .i64 top, .bool more, .int .i64 dir] w fun e w' => e = .returned (.tuple #[.int .u64 (X : Int), .int .u8 (F : Int)]) ∧ Below w.heap.size w w' := by
  have a3 := below1 w (.cells #[.bool g, .slice A n c, .int .i64 e0] 35)
  have HS := Lib.hid a3
  have Hbd := Lib.hid (Bd.new w 35 g A n c e0)
  have hX' := hX.out
  have ht' := ht.out
  clear hX ht
  by_cases hg : 1023 < rtop (val xs) e0
  · rw [rndO, if_pos hg] at hX'
    obtain ⟨hX1, hF1⟩ := Prod.mk.inj hX'
    obtain rfl : F = 5 := hF1.symm
    have H1 := Lib.hid (fun w => over_l X g dir w hX1)
    rw [ht'] at hg
    have b1 : decide ((1023 : Int) < top) = true := decide_eq_true hg
    have x0 := Hbd.out.c0
    clear hX' ht' hg hA hT hV hX1 a3 hF1
    go_enter Tryd.func25, Tryd.ntmps25
    go_wp2_with fail
    refine (H1.out _).mono ?_
    rintro e w' ⟨rfl, rfl⟩
    go_wp2
    go_ret2
    exact ⟨rfl, HS.out⟩
  · have hle : rtop (val xs) e0 ≤ 1023 := by omega
    obtain ⟨L, hL1, hL2, hL3, hL4, hL5, hL6⟩ := ru_facts hV h1 h2 hle
    have hB := blen_pos hV
    have hbl := hA.blen_le
    have hrt : rtop (val xs) e0 = (blen (val xs) : Int) - 1 + e0 := rfl
    rw [rndO, if_neg hg] at hX'
    have hr : ru (val xs) e0 = max (rtop (val xs) e0 - 52) (-1074) := rfl
    unfold rX at hX'
    obtain ⟨u, hu⟩ : ∃ u, ru (val xs) e0 = u := ⟨_, rfl⟩
    rw [hu] at hX' hL1 hL2 hL4 hL5 hL6 hr
    obtain ⟨U, hU⟩ : ∃ U, rU (val xs) e0 u = U := ⟨_, rfl⟩
    obtain ⟨H, hH⟩ : ∃ H, rH (val xs) e0 u = H := ⟨_, rfl⟩
    obtain ⟨B, hBB⟩ : ∃ B, rB (val xs) e0 u = B := ⟨_, rfl⟩
    rw [hL1, hU, hH, hBB] at hX'
    rw [hU] at hL5 hL6
    obtain ⟨v, hv⟩ : ∃ v, awy g dir (decide (U % 2 = 1)) H (B || more) = v := ⟨_, rfl⟩
    have hodd : decide ((L * 4503599627370496 + U) % 2 = 1) = decide (U % 2 = 1) := by rw [decide_eq_decide]; omega
    obtain ⟨V2, hV2⟩ : ∃ V2, U + v.toNat = V2 := ⟨_, rfl⟩
    have hvn : v.toNat ≤ 1 := by cases v <;> decide
    have hup : upX g dir (L * 4503599627370496 + U) H (B || more) = L * 4503599627370496 + V2 := by
      unfold upX; rw [hodd, hv, ← hV2]; omega
    unfold rfin at hX'
    rw [hup] at hX'
    have hex := ex_round (L := L) (U := V2) hL2 hL3 (by omega) (fun h => by have := hL6 h; omega)
    have hu1 : -1074 ≤ u := by omega
    have hu2 : u ≤ 971 := by omega
    have hV2b : V2 ≤ 9007199254740992 := by omega
    have hmk := mk_units hu1 hu2 hV2b
    have hnO := nO_bd V2 u hu1 hu2 hV2b
    have H1 := Lib.hid (count_l v H B more U V2 g A n c xs e0 u dir _ (hA.below a3) (by omega) (hT.below a3) (by omega) (by omega) (by omega) (by omega) hL4 hU hH hBB hv hV2)
    have HT := Lib.hid (hT.below a3)
    rw [ht'] at hg hX' hr
    have b1 : decide ((1023 : Int) < top) = false := decide_eq_false hg
    have em : max (top - 52) (-1074) = u := hr.symm
    have htb : -1073741900 ≤ top ∧ top ≤ 1023 := by omega
    obtain ⟨htb1, htb2⟩ := htb
    obtain ⟨inx, hinx⟩ : ∃ inx, (H || (B || more)) = inx := ⟨_, rfl⟩
    have hflx : fl H (B || more) (decide (top < -1022)) = fl inx false (decide (top < -1022)) := by
      unfold fl; rw [hinx]; cases inx <;> rfl
    rw [hflx] at hX'
    rw [hinx] at H1
    obtain ⟨⟨d0, d1, d2⟩, hd⟩ : ∃ d, nO false V2 u = d := ⟨_, rfl⟩
    rw [hd] at hmk hnO hex
    obtain ⟨XX, hXX⟩ : ∃ XX, L * 4503599627370496 + V2 = XX := ⟨_, rfl⟩
    rw [hXX] at hex hX'
    have hXXb : XX < 9223372036854775808 := by omega
    have Hmk := Lib.hid hmk
    have HnO := Lib.hid hnO
    have Hex := Lib.hid hex
    have y0 := Hbd.out.c0
    have y1 := Hbd.out.c1
    have y2 := Hbd.out.c2
    have h19 : n ≤ 4294967000 := hn
    clear ht' hg hA hT hV a3 hle hL1 hL2 hL3 hL4 hL5 hL6 hB hbl hrt hr hu hU hH hBB hv hodd hV2 hup hmk hnO hex hV2b hd hXX hflx hinx hvn hn
    go_enter Tryd.func25, Tryd.ntmps25
    go_wp2_with fail
    refine H1.out.mono ?_
    rintro e w1 ⟨A1, m1, c1, zs, rfl, hm1, hl1, hb1, hv1, hB1⟩
    have HM := make_any false A1 m1 c1 zs u w1 hl1 (by omega) (HT.out.below hB1)
    rw [hv1, Hmk.out] at HM
    have HM := Lib.hid HM
    have HS1 := Lib.hid (HS.out.trans (hB1.mono HS.out.size))
    have HT1 := Lib.hid (HT.out.below hB1)
    have Hk1 := Lib.hid (Hbd.out.below hB1)
    clear hl1 hb1 hv1 hB1 HS HT Hbd H1 y0 y1 y2
    go_wp2_with fail
    refine HM.out.mono ?_
    rintro e w2 ⟨g2, A2, m2, c2, us, E2, r2, rfl, hm2, hl2, hb2, ⟨rfl, rfl, hz, rfl⟩, hB2⟩
    have a4 := below1 w2 (.cells #[.bool g2, .slice A2 m2 c2, .int .i64 E2] 35)
    have HS2 := Lib.hid ((HS1.out.trans (hB2.mono HS1.out.size)).trans (a4.mono (HS1.out.trans (hB2.mono HS1.out.size)).size))
    have Hk2 := Lib.hid ((Hk1.out.below hB2).below a4)
    have hLL := hl2.below a4
    have hTT := (HT1.out.below hB2).below a4
    simp only at hz
    have hm9 : m2 ≤ 4294967296 := by omega
    clear hb2 hB2 hl2 a4 HM HS1 HT1 Hk1
    by_cases hI : XX = 9218868437227405312
    · rw [if_pos hI] at hX' Hex
      obtain ⟨hX1, hF1⟩ := Prod.mk.inj hX'
      obtain rfl : F = 5 := hF1.symm
      have H3 := Lib.hid (exact_l 0 false g2 A2 m2 c2 us E2 _ hLL hm9 hTT (by rw [hz, HnO.out]; exact Hex.out))
      have H4 := Lib.hid (fun w => over_l X g dir w hX1)
      clear hX' hX1 hF1 hLL hTT hI Hex HnO hz
      rw [show ((0 : Nat) : Int) = 0 from rfl] at H3
      go_wp2_with fail
      refine H3.out.mono ?_
      rintro e w3 ⟨rfl, hB3⟩
      have x0 := (Hk2.out.below hB3).c0
      have Hfin := Lib.hid (HS2.out.trans (hB3.mono HS2.out.size))
      clear hB3 H3 HS2 Hk2
      go_wp2_with fail
      refine (H4.out _).mono ?_
      rintro e w' ⟨rfl, rfl⟩
      go_wp2
      go_ret2
      exact ⟨rfl, Hfin.out⟩
    · rw [if_neg hI] at hX' Hex
      obtain ⟨hX1, hF1⟩ := Prod.mk.inj hX'
      have H3 := Lib.hid (exact_l XX true g2 A2 m2 c2 us E2 _ hLL hm9 hTT (by rw [hz, HnO.out]; exact Hex.out))
      have H4 := Lib.hid (fun w => signed_l X g XX hXXb w hX1)
      have H5 := Lib.hid (fun w => raised_l F inx top w hF1)
      clear hX' hX1 hF1 hLL hTT hI Hex HnO hz
      go_wp2_with fail
      refine H3.out.mono ?_
      rintro e w3 ⟨rfl, hB3⟩
      have x0 := (Hk2.out.below hB3).c0
      have Hfin := Lib.hid (HS2.out.trans (hB3.mono HS2.out.size))
      clear hB3 H3 HS2 Hk2
      go_wp2_with fail
      refine (H4.out _).mono ?_
      rintro e w' ⟨rfl, rfl⟩
      go_wp2_with fail
      refine (H5.out _).mono ?_
      rintro e w' ⟨rfl, rfl⟩
      go_wp2
      go_ret2
      exact ⟨rfl, Hfin.out⟩
end Go.Proofs.YtjdlnfmeciodnaaDoor

/- The walks of round.checked and round.To. -/
namespace Go.Proofs.YtjdlnfmeciodnaaDoor
open Go.RowKit

/-- What can be rounded. -/
def chk (o : Option Dy) (more : Bool) (dir : Int) : Option Dy :=
  if 0 ≤ dir ∧ dir ≤ 3 then (match o with | none => none | some d => if d.V = 0 ∧ more = true then none else some d) else none
def ChTold (w : World) (o : Option Dy) (L : Nat) (e : Ending) (w' : World) : Prop :=
  match o with
  | none => e = .returned (.tuple #[.agg #[.bool false, .slice none 0 0, .int .i64 0], .int .i64 1]) ∧ Below w.heap.size w w'
  | some d => ∃ A m c zs, e = .returned (.tuple #[.agg #[.bool d.neg, .slice A m c, .int .i64 d.e], .int .i64 0]) ∧ m ≤ L ∧ Lim w' A m c zs ∧ Bare zs ∧ val zs = d.V ∧ Below w.heap.size w w'

set_option maxHeartbeats 1000000 in
theorem chk_l (g : Bool) (A : Option Addr) (n c : Nat) (xs : List Nat) (e0 : Int) (more : Bool) (dir : Int) (w : World) (hA : Lim w A n c xs) (hn : n ≤ 4294967000) (hT : Tab w) :
    Calls Tryd.prog 23 #[.agg #[.bool g, .slice A n c, .int .i64 e0], .bool more, .int .i64 dir] w (ChTold w (chk (mk g (val xs) e0) more dir) n) := by
  have a3 : Below w.heap.size w ((w.alloc (.cells #[.bool g, .slice A n c, .int .i64 e0] 35)).alloc (.cells #[.bool false, .slice none 0 0, .int .i64 0] 35)) := ((Below.refl _ _).alloc (Nat.le_refl _) _).alloc (by simp) _
  have b1 := (Bd.new w 35 g A n c e0).alloc (.cells #[.bool false, .slice none 0 0, .int .i64 0] 35)
  have b2 := Bd.new (w.alloc (.cells #[.bool g, .slice A n c, .int .i64 e0] 35)) 35 false none 0 0 0
  rw [World.size_alloc] at b2
  have H1 := Lib.hid (dbare_any g A n c xs e0 _ (hA.below a3) (by omega) (hT.below a3))
  have Hb1 := Lib.hid b1
  have Hb2 := Lib.hid b2
  have HS := Lib.hid a3
  obtain ⟨o, ho⟩ : ∃ o, mk g (val xs) e0 = o := ⟨_, rfl⟩
  rw [ho] at H1 ⊢
  clear hA hT a3 b1 b2 ho
  obtain ⟨kn, hkn⟩ : ∃ kn, decide (0 ≤ dir ∧ dir ≤ 3) = kn := ⟨_, rfl⟩
  have Hkn := Lib.hid hkn
  cases o with
  | none =>
    have hc : chk none more dir = none := by unfold chk; split <;> rfl
    rw [hc]
    clear hc hkn Hkn
    go_enter Tryd.func23, Tryd.ntmps23
    go_wp2_with fail
    refine H1.out.mono ?_
    rintro e w2 ⟨g2, A2, m2, c2, zs, E2, r2, rfl, hm2, hl2, hb2, ⟨rfl, rfl, hz, rfl⟩, hB2⟩
    have k1 := Hb1.out.below hB2
    have k2 := Hb2.out.below hB2
    have Hfin : Hid (Below w.heap.size w (World.put (World.put w2 w.heap.size false A2 m2 c2 0) (w.heap.size + 1) false none 0 0 0)) := below_put (below_put (HS.out.trans (hB2.mono HS.out.size)) (Nat.le_refl _) _ _ _ _ _) (by omega) _ _ _ _ _
    have x0 := k1.c0
    have x1 := k1.c1
    have x2 := k1.c2
    have xf := k1.fz
    have y0 := k2.c0
    have y1 := k2.c1
    have y2 := k2.c2
    have yf := k2.fz
    clear k1 k2 hB2 hl2 hb2 hz H1 Hb1 Hb2 HS
    go_wp2
    exact bodyPost_ret (v := .tuple #[.agg #[.bool false, .slice none 0 0, .int .i64 0], .int .i64 1]) (by simp [results, Tryd.results23, go_sem, y0, y1, y2]) rfl ⟨rfl, Hfin.out⟩
  | some d =>
    obtain ⟨dg, dV, dE⟩ := d
    cases kn with
    | false =>
      have hc : chk (some ⟨dg, dV, dE⟩) more dir = none := by unfold chk; rw [if_neg (of_decide_eq_false hkn)]
      rw [hc]
      clear hc hkn
      go_enter Tryd.func23, Tryd.ntmps23
      go_wp2_with fail
      refine H1.out.mono ?_
      rintro e w2 ⟨g2, A2, m2, c2, zs, E2, r2, rfl, hm2, hl2, hb2, ⟨rfl, rfl, hz, rfl⟩, hB2⟩
      have k1 := Hb1.out.below hB2
      have k2 := Hb2.out.below hB2
      have Hfin : Hid (Below w.heap.size w (World.put (World.put w2 w.heap.size g2 A2 m2 c2 E2) (w.heap.size + 1) false none 0 0 0)) := below_put (below_put (HS.out.trans (hB2.mono HS.out.size)) (Nat.le_refl _) _ _ _ _ _) (by omega) _ _ _ _ _
      have x0 := k1.c0
      have x1 := k1.c1
      have x2 := k1.c2
      have xf := k1.fz
      have y0 := k2.c0
      have y1 := k2.c1
      have y2 := k2.c2
      have yf := k2.fz
      clear k1 k2 hB2 hl2 hb2 hz H1 Hb1 Hb2 HS
      go_wp2_with fail
      refine (known_l false dir _ Hkn).mono ?_
      rintro e w' ⟨rfl, rfl⟩
      go_wp2
      exact bodyPost_ret (v := .tuple #[.agg #[.bool false, .slice none 0 0, .int .i64 0], .int .i64 1]) (by simp [results, Tryd.results23, go_sem, y0, y1, y2]) rfl ⟨rfl, Hfin.out⟩
    | true =>
      have hk := of_decide_eq_true hkn
      have hc : chk (some ⟨dg, dV, dE⟩) more dir = if dV = 0 ∧ more = true then none else some ⟨dg, dV, dE⟩ := by unfold chk; rw [if_pos hk]
      rw [hc]
      clear hc hkn hk
      cases more with
      | false =>
        rw [if_neg (by simp)]
        go_enter Tryd.func23, Tryd.ntmps23
        go_wp2_with fail
        refine H1.out.mono ?_
        rintro e w2 ⟨g2, A2, m2, c2, zs, E2, r2, rfl, hm2, hl2, hb2, ⟨rfl, rfl, hz, rfl⟩, hB2⟩
        have k1 := Hb1.out.below hB2
        have k2 := Hb2.out.below hB2
        have k3 := k2.other (b' := w.heap.size) (by omega) g2 A2 m2 c2 E2
        have Hfin : Hid (ChTold w (some ⟨g2, dV, E2⟩) n (.returned (.tuple #[.agg #[.bool g2, .slice A2 m2 c2, .int .i64 E2], .int .i64 0])) (World.put (World.put w2 w.heap.size g2 A2 m2 c2 E2) (w.heap.size + 1) g2 A2 m2 c2 E2)) :=
          ⟨A2, m2, c2, zs, rfl, hm2, k3.lim (k1.lim hl2 _ _ _ _ _) _ _ _ _ _, hb2, hz, below_put (below_put (HS.out.trans (hB2.mono HS.out.size)) (Nat.le_refl _) _ _ _ _ _) (by omega) _ _ _ _ _⟩
        have x0 := k1.c0
        have x1 := k1.c1
        have x2 := k1.c2
        have xf := k1.fz
        have y0 := k2.c0
        have y1 := k2.c1
        have y2 := k2.c2
        have yf := k2.fz
        clear k1 k2 k3 hB2 hl2 hb2 hz H1 Hb1 Hb2 HS
        go_wp2_with fail
        refine (known_l true dir _ Hkn).mono ?_
        rintro e w' ⟨rfl, rfl⟩
        go_wp2
        exact bodyPost_ret (v := .tuple #[.agg #[.bool g2, .slice A2 m2 c2, .int .i64 E2], .int .i64 0]) (by simp [results, Tryd.results23, go_sem, y0, y1, y2]) rfl Hfin.out
      | true =>
        obtain ⟨sg, hsg⟩ : ∃ sg, sgD dg dV = sg := ⟨_, rfl⟩
        have Hsg := Lib.hid hsg
        by_cases hz0 : dV = 0
        · rw [if_pos ⟨hz0, rfl⟩]
          obtain rfl : sg = 0 := by rw [← hsg, hz0]; rfl
          clear hsg hz0
          go_enter Tryd.func23, Tryd.ntmps23
          go_wp2_with fail
          refine H1.out.mono ?_
          rintro e w2 ⟨g2, A2, m2, c2, zs, E2, r2, rfl, hm2, hl2, hb2, ⟨rfl, rfl, hz, rfl⟩, hB2⟩
          have k1 := Hb1.out.below hB2
          have k2 := Hb2.out.below hB2
          have HL := Lib.hid (k1.lim hl2 g2 A2 m2 c2 E2)
          have HK2 := Lib.hid (k2.other (b' := w.heap.size) (by omega) g2 A2 m2 c2 E2)
          have HS2 := Lib.hid (below_put (HS.out.trans (hB2.mono HS.out.size)) (Nat.le_refl _) g2 A2 m2 c2 E2)
          have Hz : Hid (sgD g2 (val zs) = 0) := by rw [hz]; exact Hsg.out
          have x0 := k1.c0
          have x1 := k1.c1
          have x2 := k1.c2
          have xf := k1.fz
          clear k1 k2 hB2 hl2 hb2 hz H1 Hb1 Hb2 HS Hsg
          go_wp2_with fail
          refine (known_l true dir _ Hkn).mono ?_
          rintro e w' ⟨rfl, rfl⟩
          go_wp2_with fail
          refine (sign_l 0 g2 A2 m2 c2 zs E2 _ HL.out (by omega) Hz).mono ?_
          rintro e w3 ⟨rfl, hB3⟩
          have k2 := HK2.out.below hB3
          have Hfin : Hid (Below w.heap.size w (World.put w3 (w.heap.size + 1) false none 0 0 0)) := below_put (HS2.out.trans (hB3.mono HS2.out.size)) (by omega) _ _ _ _ _
          have y0 := k2.c0
          have y1 := k2.c1
          have y2 := k2.c2
          have yf := k2.fz
          clear k2 hB3 HL HK2 HS2 Hz x0 x1 x2 xf
          go_wp2
          exact bodyPost_ret (v := .tuple #[.agg #[.bool false, .slice none 0 0, .int .i64 0], .int .i64 1]) (by simp [results, Tryd.results23, go_sem, y0, y1, y2]) rfl ⟨rfl, Hfin.out⟩
        · rw [if_neg (fun h => hz0 h.1)]
          have c1 : (sg == 0) = false := beq_no (by
            rw [← hsg]; unfold sgD; rw [if_neg hz0]; cases dg <;> decide)
          clear hsg hz0
          go_enter Tryd.func23, Tryd.ntmps23
          go_wp2_with fail
          refine H1.out.mono ?_
          rintro e w2 ⟨g2, A2, m2, c2, zs, E2, r2, rfl, hm2, hl2, hb2, ⟨rfl, rfl, hz, rfl⟩, hB2⟩
          have k1 := Hb1.out.below hB2
          have k2 := Hb2.out.below hB2
          have HL := Lib.hid (k1.lim hl2 g2 A2 m2 c2 E2)
          have HK1 := Lib.hid (k1.put g2 A2 m2 c2 E2)
          have HK2 := Lib.hid (k2.other (b' := w.heap.size) (by omega) g2 A2 m2 c2 E2)
          have HS2 := Lib.hid (below_put (HS.out.trans (hB2.mono HS.out.size)) (Nat.le_refl _) g2 A2 m2 c2 E2)
          have Hz : Hid (sgD g2 (val zs) = sg) := by rw [hz]; exact Hsg.out
          have Hzz := Lib.hid hz
          have Hb := Lib.hid hb2
          have x0 := k1.c0
          have x1 := k1.c1
          have x2 := k1.c2
          have xf := k1.fz
          clear k1 k2 hB2 hl2 hb2 hz H1 Hb1 Hb2 HS Hsg
          go_wp2_with fail
          refine (known_l true dir _ Hkn).mono ?_
          rintro e w' ⟨rfl, rfl⟩
          go_wp2_with fail
          refine (sign_l sg g2 A2 m2 c2 zs E2 _ HL.out (by omega) Hz).mono ?_
          rintro e w3 ⟨rfl, hB3⟩
          have k1 := HK1.out.below hB3
          have k2 := HK2.out.below hB3
          have Hfin : Hid (ChTold w (some ⟨g2, dV, E2⟩) n (.returned (.tuple #[.agg #[.bool g2, .slice A2 m2 c2, .int .i64 E2], .int .i64 0])) (World.put w3 (w.heap.size + 1) g2 A2 m2 c2 E2)) :=
            ⟨A2, m2, c2, zs, rfl, hm2, k2.lim (HL.out.below hB3) _ _ _ _ _, Hb.out, Hzz.out, below_put (HS2.out.trans (hB3.mono HS2.out.size)) (by omega) _ _ _ _ _⟩
          clear x0 x1 x2 xf
          have x0 := k1.c0
          have x1 := k1.c1
          have x2 := k1.c2
          have y0 := k2.c0
          have y1 := k2.c1
          have y2 := k2.c2
          have yf := k2.fz
          clear k1 k2 hB3 HL HK1 HK2 HS2 Hz Hzz Hb
          go_wp2
          exact bodyPost_ret (v := .tuple #[.agg #[.bool g2, .slice A2 m2 c2, .int .i64 E2], .int .i64 0]) (by simp [results, Tryd.results23, go_sem, y0, y1, y2]) rfl Hfin.out

/-- What To tells. -/
def toR (g : Bool) (V : Nat) (e : Int) (more : Bool) (dir : Int) : Nat × Nat × Int :=
  match chk (mk g V e) more dir with
  | none => (0, 0, 1)
  | some d => if d.V = 0 then (0, 0, 0) else ((rndO d.neg d.V d.e more dir).1, (rndO d.neg d.V d.e more dir).2, 0)

set_option maxHeartbeats 1000000 in
theorem to_l (X F : Nat) (E : Int) (g : Bool) (A : Option Addr) (n c : Nat) (xs : List Nat) (e0 : Int) (more : Bool) (dir : Int) (w : World) (hA : Lim w A n c xs) (hn : n ≤ 4294967000) (hT : Tab w) (hX : Hid (toR g (val xs) e0 more dir = (X, F, E))) :
    Calls Tryd.prog 8 #[.agg #[.bool g, .slice A n c, .int .i64 e0], .bool more, .int .i64 dir] w fun e w' => e = .returned (.tuple #[.int .u64 (X : Int), .int .u8 (F : Int), .int .i64 E]) ∧ Below w.heap.size w w' := by
  have a3 := below1 w (.cells #[.bool g, .slice A n c, .int .i64 e0] 35)
  have HS := Lib.hid a3
  have Hb1 := Lib.hid (Bd.new w 35 g A n c e0)
  have H1 := Lib.hid (chk_l g A n c xs e0 more dir _ (hA.below a3) hn (hT.below a3))
  have HT := Lib.hid (hT.below a3)
  have hX' := hX.out
  unfold toR at hX'
  have hfine : ∀ d, chk (mk g (val xs) e0) more dir = some d → Fine d := fun d hd => by
    unfold chk at hd
    split at hd
    · split at hd
      · cases hd
      · rename_i d' hd'
        split at hd
        · cases hd
        · obtain rfl := Option.some.inj hd
          exact (mk_fine hd').1
    · cases hd
  obtain ⟨o, ho⟩ : ∃ o, chk (mk g (val xs) e0) more dir = o := ⟨_, rfl⟩
  rw [ho] at H1 hX' hfine
  clear hA hT a3 ho hX
  cases o with
  | none =>
    obtain ⟨rfl, h⟩ := Prod.mk.inj hX'
    obtain ⟨rfl, rfl⟩ := Prod.mk.inj h
    clear h hX' hfine
    go_enter Tryd.func8, Tryd.ntmps8
    go_wp2_with fail
    refine H1.out.mono ?_
    rintro e w2 ⟨rfl, hB2⟩
    have k1 := Hb1.out.below hB2
    have Hfin : Hid (Below w.heap.size w (World.put w2 w.heap.size false none 0 0 0)) := below_put (HS.out.trans (hB2.mono HS.out.size)) (Nat.le_refl _) _ _ _ _ _
    have x0 := k1.c0
    have x1 := k1.c1
    have x2 := k1.c2
    have xf := k1.fz
    clear k1 hB2 H1 Hb1 HS HT
    go_wp2
    go_ret3
    exact ⟨rfl, Hfin.out⟩
  | some d =>
    have hf := hfine d rfl
    obtain ⟨dg, dV, dE⟩ := d
    have hf1 := hf.1
    have hf2 := hf.2.1
    have hfh := hf.held
    simp only at hX' hf1 hf2 hfh
    clear hf hfine
    by_cases h0 : dV = 0
    · rw [if_pos h0] at hX'
      obtain ⟨rfl, h⟩ := Prod.mk.inj hX'
      obtain ⟨rfl, rfl⟩ := Prod.mk.inj h
      clear h hX'
      go_enter Tryd.func8, Tryd.ntmps8
      go_wp2_with fail
      refine H1.out.mono ?_
      rintro e w2 ⟨A2, m2, c2, zs, rfl, hm2, hl2, hb2, hz, hB2⟩
      have k1 := Hb1.out.below hB2
      have H2 := Lib.hid (top_zero dg A2 m2 c2 zs dE _ (k1.lim hl2 dg A2 m2 c2 dE) (by omega) (by rw [hz]; exact h0))
      have HS2 := Lib.hid (below_put (HS.out.trans (hB2.mono HS.out.size)) (Nat.le_refl _) dg A2 m2 c2 dE)
      have x0 := k1.c0
      have x1 := k1.c1
      have x2 := k1.c2
      have xf := k1.fz
      clear k1 hB2 hl2 hb2 hz H1 Hb1 HS HT h0
      go_wp2_with fail
      refine H2.out.mono ?_
      rintro e w3 ⟨rfl, hB3⟩
      have Hfin := Lib.hid (HS2.out.trans (hB3.mono HS2.out.size))
      clear HS2 hB3 H2 x0 x1 x2 xf
      go_wp2
      go_ret3
      exact ⟨rfl, Hfin.out⟩
    · rw [if_neg h0] at hX'
      obtain ⟨hX1, h⟩ := Prod.mk.inj hX'
      obtain ⟨hF1, rfl⟩ := Prod.mk.inj h
      have HR : Hid (rndO dg dV dE more dir = (X, F)) := Prod.ext hX1 hF1
      clear h hX' hX1 hF1
      obtain ⟨tp, htp⟩ : ∃ tp, rtop dV dE = tp := ⟨_, rfl⟩
      have Htp := Lib.hid htp
      have Htd : Hid (topD dV dE = tp) := by show topD dV dE = tp; unfold topD; rw [hfh]; exact htp
      clear htp
      go_enter Tryd.func8, Tryd.ntmps8
      go_wp2_with fail
      refine H1.out.mono ?_
      rintro e w2 ⟨A2, m2, c2, zs, rfl, hm2, hl2, hb2, hz, hB2⟩
      have k1 := Hb1.out.below hB2
      have hLL := k1.lim hl2 dg A2 m2 c2 dE
      have hTT := k1.tab (HT.out.below hB2) dg A2 m2 c2 dE
      have H2 := Lib.hid (top_l tp dg A2 m2 c2 zs dE _ hLL (by omega) (by rw [hz]; exact h0) (by rw [hz]; exact Htd))
      have HS2 := Lib.hid (below_put (HS.out.trans (hB2.mono HS.out.size)) (Nat.le_refl _) dg A2 m2 c2 dE)
      have HK := Lib.hid (k1.put dg A2 m2 c2 dE)
      have H3 : Hid (∀ u, Below (World.put w2 w.heap.size dg A2 m2 c2 dE).heap.size (World.put w2 w.heap.size dg A2 m2 c2 dE) u → Calls Tryd.prog 25 #[.agg #[.bool dg, .slice A2 m2 c2, .int .i64 dE], .int .i64 tp, .bool more, .int .i64 dir] u fun e w' => e = .returned (.tuple #[.int .u64 (X : Int), .int .u8 (F : Int)]) ∧ Below u.heap.size u w') := fun u hu =>
        rlaid_l X F dg more A2 m2 c2 zs dE tp dir u (hLL.below hu) (by omega) (hTT.below hu) (by rw [hz]; exact h0) hf1 hf2 (by rw [hz]; exact Htp) (by rw [hz]; exact HR)
      have x0 := k1.c0
      have x1 := k1.c1
      have x2 := k1.c2
      have xf := k1.fz
      clear k1 hB2 hl2 hb2 hz H1 Hb1 HS HT h0 hLL hTT HR Htp Htd hfh
      go_wp2_with fail
      refine H2.out.mono ?_
      rintro e w3 ⟨rfl, hB3⟩
      have k3 := HK.out.below hB3
      have H4 := Lib.hid (H3.out w3 hB3)
      have HS3 := Lib.hid (HS2.out.trans (hB3.mono HS2.out.size))
      clear HS2 hB3 H2 x0 x1 x2 xf H3 HK
      have x0 := k3.c0
      have x1 := k3.c1
      have x2 := k3.c2
      clear k3
      go_wp2_with fail
      refine H4.out.mono ?_
      rintro e w4 ⟨rfl, hB4⟩
      have Hfin := Lib.hid (HS3.out.trans (hB4.mono HS3.out.size))
      clear HS3 hB4 H4 x0 x1 x2
      go_wp2
      go_ret3
      exact ⟨rfl, Hfin.out⟩
end Go.Proofs.YtjdlnfmeciodnaaDoor

/- Rounding keeps order; it is mirrored; what bits are worth stays; a little more is as a thousandth. -/
namespace Go.Proofs.YtjdlnfmeciodnaaDoor
open Go.RowKit

theorem toldD_self {d : Dy} (h : Fine d) : toldD d.neg d.V d.e = some d := by
  obtain ⟨g, V, e⟩ := d
  unfold toldD
  by_cases h0 : V = 0
  · obtain ⟨h1, h2⟩ := h.2.2 h0
    simp only at h1 h2 h0 ⊢
    rw [if_pos h0, h1, h2, h0]
  · have h1 : -1073741824 ≤ e := h.1
    have h2 : e ≤ 1073741824 := h.2.1
    simp only
    rw [if_neg h0, if_neg (by omega)]
/-- What is bare stays. -/
theorem mk_self {g : Bool} {V : Nat} {e : Int} {d : Dy} (h : mk g V e = some d) : mk d.neg d.V d.e = some d := by
  have hf := (mk_fine h).1
  have hO : Odd d := by rw [← mk_is h]; exact nO_odd g V e
  have hs : nO d.neg d.V d.e = d := nO_self hO (by have := hf.1; omega) (by have := hf.2.1; omega)
  rw [mk_nO, hs]
  exact toldD_self hf
theorem mk_pos {g : Bool} {V : Nat} {e : Int} {d : Dy} (h : mk g V e = some d) (hV : V ≠ 0) : d.neg = g ∧ d.V ≠ 0 ∧ sz d.V d.e = sz V e := by
  obtain ⟨h1, h2, h3, _⟩ := mk_fine h
  have h4 := (toldD_fine h).2.2 (fun h0 => hV (odd_part_zero.1 h0))
  refine ⟨h4.1, fun h0 => hV (h3.1 h0), ?_⟩
  have h5 : ∀ (g : Bool) (V : Nat) (e : Int), (dw g V e).natAbs = sz V e := fun g V e => by cases g <;> simp [dw]
  rw [← h5 d.neg, ← h5 g, h2]

theorem toR_some {g : Bool} {V : Nat} {e : Int} {more : Bool} {dir : Int} {d : Dy} (hd : 0 ≤ dir ∧ dir ≤ 3) (h : mk g V e = some d) (hV : d.V ≠ 0) :
    toR g V e more dir = ((rndO d.neg d.V d.e more dir).1, (rndO d.neg d.V d.e more dir).2, 0) := by
  unfold toR chk
  rw [if_pos hd, h]
  simp only
  rw [if_neg (fun h0 => hV h0.1)]
  simp only
  rw [if_neg hV]
theorem toR_zero {g : Bool} {V : Nat} {e : Int} {dir : Int} {d : Dy} (hd : 0 ≤ dir ∧ dir ≤ 3) (h : mk g V e = some d) (hV : d.V = 0) : toR g V e false dir = (0, 0, 0) := by
  unfold toR chk
  rw [if_pos hd, h]
  simp only
  rw [if_neg (fun h0 => by cases h0.2)]
  simp only
  rw [if_pos hV]
/-- No error: the dyad can be bare. -/
theorem toR_ok {g : Bool} {V : Nat} {e : Int} {more : Bool} {dir : Int} {x f : Nat} (h : toR g V e more dir = (x, f, 0)) :
    ∃ d, mk g V e = some d ∧ (0 ≤ dir ∧ dir ≤ 3) ∧ ((d.V = 0 ∧ x = 0 ∧ f = 0) ∨ (d.V ≠ 0 ∧ rndO d.neg d.V d.e more dir = (x, f))) := by
  unfold toR at h
  cases hc : chk (mk g V e) more dir with
  | none => rw [hc] at h; simp at h
  | some d =>
    rw [hc] at h
    simp only at h
    unfold chk at hc
    split at hc
    · rename_i hd
      split at hc
      · cases hc
      · rename_i d' hd'
        split at hc
        · cases hc
        · obtain rfl := Option.some.inj hc
          refine ⟨d', hd', hd, ?_⟩
          by_cases h0 : d'.V = 0
          · rw [if_pos h0] at h
            obtain ⟨h1, h2⟩ := Prod.mk.inj h
            exact Or.inl ⟨h0, h1.symm, (Prod.mk.inj h2).1.symm⟩
          · rw [if_neg h0] at h
            obtain ⟨h1, h2⟩ := Prod.mk.inj h
            exact Or.inr ⟨h0, Prod.ext h1 (Prod.mk.inj h2).1⟩
    · cases hc

/-- The size of what comes out. -/
noncomputable def magS (g : Bool) (S : Nat) (dir : Int) (X : Nat) : Nat := if X = 9218868437227405312 then overM g dir else upX g dir X (hS S X) (bS S X || false)
theorem upX_inf {g : Bool} {dir : Int} {X : Nat} {h b : Bool} (hX : X ≠ 9218868437227405312) (hu : upX g dir X h b = 9218868437227405312) : overM g dir = 9218868437227405312 := by
  unfold upX at hu
  unfold overM
  cases ha : awy g dir (decide (X % 2 = 1)) h b with
  | false => rw [ha] at hu; exact absurd hu hX
  | true => rw [awy_all ha, if_pos rfl]
theorem rndS_mag (g : Bool) (S : Nat) (dir : Int) (X : Nat) : (rndS g S false dir X).1 = sgn g (magS g S dir X) := by
  unfold rndS magS
  by_cases h : X = 9218868437227405312
  · rw [if_pos h, if_pos h]; rfl
  · rw [if_neg h, if_neg h]
    unfold rfin
    by_cases hu : upX g dir X (hS S X) (bS S X || false) = 9218868437227405312
    · rw [if_pos hu, hu]
      show sgn g (overM g dir) = _
      rw [upX_inf h hu]
    · rw [if_neg hu]
theorem awy_none {g : Bool} {dir : Int} {o h b : Bool} (h0 : awy g dir true true true = false) : awy g dir o h b = false := by
  cases ha : awy g dir o h b with
  | false => rfl
  | true => rw [awy_all ha] at h0; cases h0
theorem overM_le (g : Bool) (dir : Int) : overM g dir ≤ 9218868437227405312 := by unfold overM; split <;> omega
theorem upX_le {g : Bool} {dir : Int} {X : Nat} {h b : Bool} : X ≤ upX g dir X h b ∧ upX g dir X h b ≤ X + 1 := by
  unfold upX; cases awy g dir (decide (X % 2 = 1)) h b <;> simp
theorem magS_le {g : Bool} {S : Nat} {dir : Int} {X : Nat} (hX : X ≤ 9218868437227405312) : magS g S dir X ≤ 9218868437227405312 := by
  unfold magS
  split
  · exact overM_le g dir
  · have := (upX_le (g := g) (dir := dir) (X := X) (h := hS S X) (b := (bS S X || false))).2
    omega
theorem magS_mono {g : Bool} {S T : Nat} {dir : Int} {X Y : Nat} (hX : IsLow S X) (hY : IsLow T Y) (h : S ≤ T) : magS g S dir X ≤ magS g T dir Y := by
  have hXY := hX.mono hY h
  have hYi := hY.1
  by_cases hYI : Y = 9218868437227405312
  · have e2 : magS g T dir Y = overM g dir := by unfold magS; rw [if_pos hYI]
    rw [e2]
    by_cases hXI : X = 9218868437227405312
    · have e1 : magS g S dir X = overM g dir := by unfold magS; rw [if_pos hXI]
      rw [e1]; exact Nat.le_refl _
    · cases ha : awy g dir true true true with
      | true =>
        have e3 : overM g dir = 9218868437227405312 := by unfold overM; rw [ha, if_pos rfl]
        rw [e3]; exact magS_le hX.1
      | false =>
        have e3 : overM g dir = 9218868437227405311 := by unfold overM; rw [ha]; rfl
        have e1 : magS g S dir X = X := by unfold magS upX; rw [if_neg hXI, awy_none ha]; rfl
        rw [e3, e1]; omega
  · have hXI : X ≠ 9218868437227405312 := by omega
    unfold magS
    rw [if_neg hYI, if_neg hXI]
    rcases Nat.lt_or_ge X Y with hlt | hge
    · have h1 := (upX_le (g := g) (dir := dir) (X := X) (h := hS S X) (b := (bS S X || false))).2
      have h2 := (upX_le (g := g) (dir := dir) (X := Y) (h := hS T Y) (b := (bS T Y || false))).1
      omega
    · obtain rfl : X = Y := by omega
      have l1 := hX.2.1
      have l2 := hX.2.2 (by omega)
      have hlt := vX_lt (X := X) (by omega)
      unfold upX
      apply Nat.add_le_add_left
      cases ha : awy g dir (decide (X % 2 = 1)) (hS S X) (bS S X || false) with
      | false => exact Nat.zero_le _
      | true =>
        have key : awy g dir (decide (X % 2 = 1)) (hS T X) (bS T X || false) = true := by
          rw [Bool.or_false] at ha ⊢
          generalize decide (X % 2 = 1) = od at ha ⊢
          have hb : hS S X = true → hS T X = true := fun h1 => by
            have := of_decide_eq_true h1
            exact decide_eq_true (by omega)
          have hbb : hS S X = true → bS S X = true → bS T X = true := fun h1 h2 => by
            have k1 := of_decide_eq_true h1
            have k2 := of_decide_eq_true h2
            exact decide_eq_true (by omega)
          have hor : (hS S X || bS S X) = true → (hS T X || bS T X) = true := fun h1 => by
            rcases Bool.or_eq_true _ _ ▸ h1 with h2 | h2
            · rw [hb h2]; rfl
            · have k2 := of_decide_eq_true h2
              by_cases k3 : vX X + vX (X + 1) ≤ 2 * T
              · rw [show hS T X = true from decide_eq_true k3]; rfl
              · rw [show bS T X = true from decide_eq_true (by omega)]; simp
          unfold awy at ha ⊢
          split
          · rename_i h0
            rw [if_pos h0] at ha
            rw [Bool.and_eq_true] at ha ⊢
            refine ⟨hb ha.1, ?_⟩
            rw [Bool.or_eq_true] at ha ⊢
            rcases ha.2 with h2 | h2
            · exact Or.inl (hbb ha.1 h2)
            · exact Or.inr h2
          · rename_i h0
            rw [if_neg h0] at ha
            split
            · rename_i h1
              rw [if_pos h1] at ha
              rw [Bool.and_eq_true] at ha ⊢
              exact ⟨ha.1, hor ha.2⟩
            · rename_i h1
              rw [if_neg h1] at ha
              split
              · rename_i h2
                rw [if_pos h2] at ha
                rw [Bool.and_eq_true] at ha ⊢
                exact ⟨ha.1, hor ha.2⟩
              · rename_i h2
                rw [if_neg h2] at ha
                exact ha
        rw [key]
        exact Nat.le_refl _

/-- Bits as numbers in their order. -/
def rv (x : Nat) : Int := if fng x then -((x % 9223372036854775808 : Nat) : Int) else (x : Int)
theorem rv_sgn {g : Bool} {Y : Nat} (h : Y ≤ 9218868437227405312) : rv (sgn g Y) = if g then -(Y : Int) else (Y : Int) := by
  cases g with
  | false =>
    have e : sgn false Y = Y := by unfold sgn; simp
    rw [e]
    unfold rv fng
    rw [decide_eq_false (by omega)]
    rfl
  | true =>
    have e : sgn true Y = 9223372036854775808 + Y := rfl
    rw [e]
    unfold rv fng
    rw [decide_eq_true (by omega)]
    simp only [↓reduceIte]
    omega
theorem rnd_rv {d : Dy} (hf : Fine d) (hV : d.V ≠ 0) (dir : Int) : rv (rndO d.neg d.V d.e false dir).1 = if d.neg then -((magS d.neg (sz d.V d.e) dir (lowX d.V d.e) : Nat) : Int) else ((magS d.neg (sz d.V d.e) dir (lowX d.V d.e) : Nat) : Int) := by
  have hl := low_is hV hf.1 hf.2.1
  rw [rndO_S d.neg false dir hV hf.1 hf.2.1 hl, rndS_mag, rv_sgn (magS_le hl.1)]
theorem rv_zero : rv 0 = 0 := by decide
/-- Rounding keeps order. -/
theorem r_mono {g k : Bool} {V U : Nat} {e e' dir : Int} {x f y f' : Nat} (h1 : toR g V e false dir = (x, f, 0)) (h2 : toR k U e' false dir = (y, f', 0)) (h : dw g V e ≤ dw k U e') : rv x ≤ rv y := by
  obtain ⟨d, m1, hd, c1⟩ := toR_ok h1
  obtain ⟨d', m2, _, c2⟩ := toR_ok h2
  obtain ⟨f1, w1, _, _⟩ := mk_fine m1
  obtain ⟨f2, w2, _, _⟩ := mk_fine m2
  rw [← w1, ← w2] at h
  have r1 : (d.V = 0 ∧ rv x = 0) ∨ (d.V ≠ 0 ∧ rv x = if d.neg then -((magS d.neg (sz d.V d.e) dir (lowX d.V d.e) : Nat) : Int) else ((magS d.neg (sz d.V d.e) dir (lowX d.V d.e) : Nat) : Int)) := by
    rcases c1 with ⟨a, b, _⟩ | ⟨a, b⟩
    · exact Or.inl ⟨a, by rw [b]; exact rv_zero⟩
    · have := rnd_rv f1 a dir
      rw [b] at this
      exact Or.inr ⟨a, this⟩
  have r2 : (d'.V = 0 ∧ rv y = 0) ∨ (d'.V ≠ 0 ∧ rv y = if d'.neg then -((magS d'.neg (sz d'.V d'.e) dir (lowX d'.V d'.e) : Nat) : Int) else ((magS d'.neg (sz d'.V d'.e) dir (lowX d'.V d'.e) : Nat) : Int)) := by
    rcases c2 with ⟨a, b, _⟩ | ⟨a, b⟩
    · exact Or.inl ⟨a, by rw [b]; exact rv_zero⟩
    · have := rnd_rv f2 a dir
      rw [b] at this
      exact Or.inr ⟨a, this⟩
  obtain ⟨dg, dV, dE⟩ := d
  obtain ⟨kg, kV, kE⟩ := d'
  simp only at *
  unfold dw at h
  have p1 : dV ≠ 0 → 0 < sz dV dE := fun h => sz_pos dE h
  have p2 : kV ≠ 0 → 0 < sz kV kE := fun h => sz_pos kE h
  have z1 : dV = 0 → sz dV dE = 0 := fun h => by rw [h, sz_zero]
  have z2 : kV = 0 → sz kV kE = 0 := fun h => by rw [h, sz_zero]
  have L1 : dV ≠ 0 → IsLow (sz dV dE) (lowX dV dE) := fun h => low_is h f1.1 f1.2.1
  have L2 : kV ≠ 0 → IsLow (sz kV kE) (lowX kV kE) := fun h => low_is h f2.1 f2.2.1
  have M1 : ∀ b : Bool, dV ≠ 0 → kV ≠ 0 → sz dV dE ≤ sz kV kE → magS b (sz dV dE) dir (lowX dV dE) ≤ magS b (sz kV kE) dir (lowX kV kE) := fun b a c l => magS_mono (L1 a) (L2 c) l
  have M2 : ∀ b : Bool, dV ≠ 0 → kV ≠ 0 → sz kV kE ≤ sz dV dE → magS b (sz kV kE) dir (lowX kV kE) ≤ magS b (sz dV dE) dir (lowX dV dE) := fun b a c l => magS_mono (L2 c) (L1 a) l
  generalize sz dV dE = S1 at *
  generalize sz kV kE = S2 at *
  clear L1 L2 c1 c2 m1 m2 w1 w2 f1 f2 h1 h2
  rcases r1 with ⟨a1, b1⟩ | ⟨a1, b1⟩ <;> rcases r2 with ⟨a2, b2⟩ | ⟨a2, b2⟩
  · omega
  · have := p2 a2
    have := z1 a1
    rw [b1, b2]
    cases kg <;> cases dg <;> simp only [Bool.false_eq_true, ↓reduceIte] at h ⊢ <;> omega
  · have := p1 a1
    have := z2 a2
    rw [b1, b2]
    cases kg <;> cases dg <;> simp only [Bool.false_eq_true, ↓reduceIte] at h ⊢ <;> omega
  · have := p1 a1
    have := p2 a2
    rw [b1, b2]
    cases kg <;> cases dg <;> simp only [Bool.false_eq_true, ↓reduceIte] at h ⊢
    · have := M1 false a1 a2 (by omega); omega
    · omega
    · omega
    · have := M2 true a1 a2 (by omega); omega

/-- Up and Down are each other's mirror. -/
def mir (dir : Int) : Int := if dir = 2 then 3 else if dir = 3 then 2 else dir
theorem mir_bd {dir : Int} (h : 0 ≤ dir ∧ dir ≤ 3) : 0 ≤ mir dir ∧ mir dir ≤ 3 := by unfold mir; split; decide; split; decide; exact h
theorem awy_mir (g : Bool) (dir : Int) (o h b : Bool) : awy (!g) (mir dir) o h b = awy g dir o h b := by
  unfold awy mir
  by_cases h2 : dir = 2
  · subst h2; cases g <;> rfl
  · by_cases h3 : dir = 3
    · subst h3; cases g <;> rfl
    · rw [if_neg h2, if_neg h3, if_neg h2, if_neg h3]
      split <;> rfl
theorem rnd_mir (g : Bool) {V : Nat} {e : Int} (more : Bool) (dir : Int) (hV : V ≠ 0) (h1 : -1073741824 ≤ e) (h2 : e ≤ 1073741824) : ∃ Y F, Y ≤ 9218868437227405312 ∧ rndO g V e more dir = (sgn g Y, F) ∧ rndO (!g) V e more (mir dir) = (sgn (!g) Y, F) := by
  have ho : overM (!g) (mir dir) = overM g dir := by unfold overM; rw [awy_mir]
  have hu : ∀ X h b, upX (!g) (mir dir) X h b = upX g dir X h b := fun X h b => by unfold upX; rw [awy_mir]
  unfold rndO
  by_cases ht : 1023 < rtop V e
  · rw [if_pos ht, if_pos ht]
    exact ⟨overM g dir, 5, overM_le g dir, rfl, by unfold overO; rw [ho]⟩
  · have hX := (rnd_low hV h1 h2 (by omega)).1
    rw [if_neg ht, if_neg ht]
    unfold rfin
    rw [hu]
    have hle := (upX_le (g := g) (dir := dir) (X := rX V e) (h := rH V e (ru V e)) (b := (rB V e (ru V e) || more))).2
    generalize upX g dir (rX V e) (rH V e (ru V e)) (rB V e (ru V e) || more) = Y at *
    by_cases hY : Y = 9218868437227405312
    · rw [if_pos hY, if_pos hY]
      exact ⟨overM g dir, 5, overM_le g dir, rfl, by unfold overO; rw [ho]⟩
    · rw [if_neg hY, if_neg hY]
      exact ⟨Y, _, by omega, rfl, rfl⟩
theorem xor_sign (Y : Nat) (hY : Y < 9223372036854775808) : (9223372036854775808 + Y) ^^^ Y = 9223372036854775808 := by
  have h : 9223372036854775808 + Y = 9223372036854775808 ^^^ Y := by
    rw [show 9223372036854775808 + Y = 9223372036854775808 ||| Y from Nat.shiftLeft_add_eq_or_of_lt (i := 63) (b := Y) (show Y < 2 ^ 63 from hY) 1]
    apply Nat.eq_of_testBit_eq
    intro i
    rw [Nat.testBit_or, Nat.testBit_xor]
    by_cases hi : i = 63
    · subst hi
      rw [Nat.testBit_lt_two_pow (x := Y) (i := 63) hY]
      simp
    · have : Nat.testBit 9223372036854775808 i = false := by
        rw [show (9223372036854775808 : Nat) = 2 ^ 63 from by decide, Nat.testBit_two_pow]
        exact decide_eq_false (by omega)
      rw [this]; simp
  rw [h, Nat.xor_assoc, Nat.xor_self, Nat.xor_zero]
/-- The mirrored number is rounded to the mirrored bits. -/
theorem r_mirror {g : Bool} {V : Nat} {e dir : Int} {x f : Nat} {b : Dy} (h : toR g V e false dir = (x, f, 0)) (hb : mk (!g) V e = some b) :
    ∃ z, toR b.neg b.V b.e false (mir dir) = (z, f, 0) ∧ x < 18446744073709551616 ∧ z < 18446744073709551616 ∧ ((x ≠ 0 ∧ x ^^^ z = 9223372036854775808) ∨ (x = 0 ∧ (z = 0 ∨ z = 9223372036854775808))) := by
  obtain ⟨d, hd, hdir, c⟩ := toR_ok h
  have hb' := mk_self hb
  have hm := mir_bd hdir
  have hfd := mk_fine hd
  have hfb := mk_fine hb
  by_cases hV : V = 0
  · have z1 : d.V = 0 := hfd.2.2.1.2 hV
    have z2 : b.V = 0 := hfb.2.2.1.2 hV
    rcases c with ⟨_, rfl, rfl⟩ | ⟨c1, _⟩
    · exact ⟨0, toR_zero hm hb' z2, by decide, by decide, Or.inr ⟨rfl, Or.inl rfl⟩⟩
    · exact absurd z1 c1
  · obtain ⟨d1, d2, d3⟩ := mk_pos hd hV
    obtain ⟨b1, b2, b3⟩ := mk_pos hb hV
    have hdb : d.V = b.V ∧ d.e = b.e := by
      have e1 := mk_is hd
      have e2 := mk_is hb
      rw [nO_pos _ _ hV] at e1 e2
      rw [← e1, ← e2]
      exact ⟨rfl, rfl⟩
    rcases c with ⟨c1, _, _⟩ | ⟨_, c2⟩
    · exact absurd c1 d2
    · obtain ⟨Y, F, hY, r1, r2⟩ := rnd_mir g (V := b.V) (e := b.e) false dir b2 hfb.1.1 hfb.1.2.1
      rw [d1, hdb.1, hdb.2, r1] at c2
      obtain ⟨rfl, rfl⟩ := Prod.mk.inj c2
      rw [← b1] at r2
      refine ⟨sgn b.neg Y, ?_, ?_, ?_, ?_⟩
      · rw [toR_some hm hb' b2, r2]
      · unfold sgn; split <;> omega
      · unfold sgn; split <;> omega
      · rw [b1]
        cases g with
        | false =>
          have e1 : sgn false Y = Y := by unfold sgn; simp
          have e2 : sgn (!false) Y = 9223372036854775808 + Y := rfl
          rw [e1, e2]
          by_cases h0 : Y = 0
          · exact Or.inr ⟨h0, Or.inr (by omega)⟩
          · exact Or.inl ⟨h0, by rw [Nat.xor_comm]; exact xor_sign Y (by omega)⟩
        | true =>
          have e1 : sgn (!true) Y = Y := by unfold sgn; simp
          have e2 : sgn true Y = 9223372036854775808 + Y := rfl
          rw [e1, e2]
          exact Or.inl ⟨by omega, xor_sign Y (by omega)⟩

/-- What bits are worth stays. -/
theorem fO_size {b : Nat} (hf : Fnt b) : sz (fO b).V (fO b).e = vX (b % 9223372036854775808) := by
  have h1 := sz_told (mk_fin hf)
  have h2 : sz (fO b).V (fO b).e = sz (fm b) (fe b) := by
    have : ((sz (fO b).V (fO b).e : Nat) : Int) = (sz (fm b) (fe b) : Int) := h1
    omega
  rw [h2]
  obtain ⟨p1, p2, p3, p4⟩ := f_parts b
  have h3 := vX_parts (L := fE b) (U := fm b) (X := b % 9223372036854775808) p1 (by omega) p3 (p4 hf)
  rw [h3, sz]
  congr 2
  have h4 := sh_held (fe b)
  rw [fe_held hf] at h4
  have h5 : fe b = (fE b : Int) - 1074 := rfl
  have h6 := kb_eq
  omega
theorem r_fix {b : Nat} {dir : Int} (hb : b < 18446744073709551616) (hf : Fnt b) (hd : 0 ≤ dir ∧ dir ≤ 3) :
    ∃ c, toR (fO b).neg (fO b).V (fO b).e false dir = (c, 0, 0) ∧ c < 18446744073709551616 ∧ (c = b ∨ (b = 9223372036854775808 ∧ c = 0)) := by
  have hmk := mk_self (mk_fin hf)
  have hfin := (mk_fine hmk).1
  by_cases h0 : fm b = 0
  · rw [fO_zero h0] at hmk ⊢
    refine ⟨0, toR_zero hd hmk rfl, by decide, ?_⟩
    have hs := f_sign hb
    have hp := (f_parts b).1
    have hp3 := (f_parts b).2.2.1
    rw [h0] at hp hp3
    have : fE b = 0 := by
      rcases Nat.eq_zero_or_pos (fE b) with h | h
      · exact h
      · have := hp3 h; omega
    rw [this] at hp
    by_cases hn : fng b = true
    · rw [hn, if_pos rfl] at hs
      exact Or.inr ⟨by omega, rfl⟩
    · rw [if_neg hn] at hs
      exact Or.inl (by omega)
  · obtain ⟨k1, k2, _⟩ := mk_pos (mk_fin hf) h0
    have hX : b % 9223372036854775808 < 9218868437227405312 := by
      have h9 : fex b ≠ 2047 := hf
      have := fex_lt b
      unfold fex at *
      omega
    have hlt := vX_lt hX
    have hL : IsLow (sz (fO b).V (fO b).e) (b % 9223372036854775808) := by
      rw [fO_size hf]
      exact ⟨by omega, Nat.le_refl _, fun _ => hlt⟩
    have hr := rndO_S (fO b).neg false dir k2 hfin.1 hfin.2.1 hL
    rw [fO_size hf] at hr
    have hh : hS (vX (b % 9223372036854775808)) (b % 9223372036854775808) = false := decide_eq_false (by omega)
    have hbb : bS (vX (b % 9223372036854775808)) (b % 9223372036854775808) = false := decide_eq_false (by omega)
    have hr2 : rndO (fO b).neg (fO b).V (fO b).e false dir = (b, 0) := by
      rw [hr, rndS, if_neg (by omega), hh, hbb, rfin, upX]
      show (if b % 9223372036854775808 + (awy (fO b).neg dir _ false false).toNat = 9218868437227405312 then _ else (sgn (fO b).neg (b % 9223372036854775808 + (awy (fO b).neg dir _ false false).toNat), fl false false _)) = _
      rw [awy_exact]
      show (if b % 9223372036854775808 + 0 = 9218868437227405312 then _ else (sgn (fO b).neg (b % 9223372036854775808 + 0), 0)) = _
      rw [if_neg (by omega), Nat.add_zero, k1]
      have hs := f_sign hb
      unfold sgn
      rw [← hs]
    exact ⟨b, by rw [toR_some hd hmk k2, hr2], hb, Or.inl rfl⟩
end Go.Proofs.YtjdlnfmeciodnaaDoor

/- The document's rounding: planimeterref07.Limit, value, Below. -/
namespace Go.Proofs.YtjdlnfmeciodnaaDoor
open Go.RowKit

theorem dig_new1 (w : World) (t x : Nat) (X : Int) (hX : X = (x : Int)) (hx : x < 65536) : Dig (w.alloc (.cells #[.int .u32 X] t)) (some ⟨w.heap.size, 0, none⟩) 1 1 [x] :=
  ⟨⟨rfl, Nat.le_refl _, fun _ => ⟨w.heap.size, 0, rfl, by simp, fun k hk => by
    obtain rfl : k = 0 := by omega
    subst hX
    simp [World.cell?_alloc_new]⟩⟩, D.Words.one hx⟩
theorem dbare_one {x : Nat} (hx : x ≠ 0) : D.Bare [x] := by
  unfold D.Bare
  simp [D.tl, hx]
theorem dval_one (x : Nat) : D.val [x] = x := by show x + 65536 * 0 = x; omega

theorem limit_l (w : World) : Calls Tryd.prog 54 #[] w (NTold w ⟨false, 1, 1024⟩ 4) := by
  have a1 := below1 w (.cells #[.bool false, .slice (some ⟨w.heap.size + 1, 0, none⟩) 1 1, .int .i64 1024] 28)
  have a2 := below1 (w.alloc (.cells #[.bool false, .slice (some ⟨w.heap.size + 1, 0, none⟩) 1 1, .int .i64 1024] 28)) (.cells #[.int .u32 1] 54)
  have n1 := dig_new1 (w.alloc (.cells #[.bool false, .slice (some ⟨w.heap.size + 1, 0, none⟩) 1 1, .int .i64 1024] 28)) 54 1 1 rfl (by decide)
  rw [World.size_alloc] at n1
  have Hfin : Hid (NTold w ⟨false, 1, 1024⟩ 4 (.returned (.agg #[.bool false, .slice (some ⟨w.heap.size + 1, 0, none⟩) 1 1, .int .i64 1024])) ((w.alloc (.cells #[.bool false, .slice (some ⟨w.heap.size + 1, 0, none⟩) 1 1, .int .i64 1024] 28)).alloc (.cells #[.int .u32 1] 54))) :=
    ⟨_, 1, 1, [1], rfl, by decide, n1, dbare_one (by decide), dval_one 1, a1.trans (a2.mono a1.size)⟩
  clear a1 a2 n1
  go_enter Tryd.func54, Tryd.ntmps54
  go_wp2
  exact bodyPost_ret (v := .agg #[.bool false, .slice (some ⟨w.heap.size + 1, 0, none⟩) 1 1, .int .i64 1024]) (by simp [results, Tryd.results54, go_sem]) rfl Hfin.out

/-- The number of bits without a sign; infinity's is 2^1024. -/
def vO (b : Nat) : Dy := if b = 9218868437227405312 then ⟨false, 1, 1024⟩ else fO b
theorem sz_inf {e : Int} (h : e = 1024) : sz 1 e = vX 9218868437227405312 := by
  have h1 := sh_eq (e := e) (by omega) (by omega)
  have h2 := kb_eq
  rw [vX_inf, sz, Nat.one_mul]
  congr 1
  omega
theorem vO_facts {b : Nat} (hb : b ≤ 9218868437227405312) : (vO b).neg = false ∧ sz (vO b).V (vO b).e = vX b ∧ -1074 ≤ (vO b).e ∧ (vO b).e ≤ 1024 ∧ (vO b).V < 9007199254740992 ∧ ((vO b).V = 0 ↔ b = 0) := by
  by_cases h : b = 9218868437227405312
  · have e : vO b = ⟨false, 1, 1024⟩ := by unfold vO; rw [if_pos h]
    rw [e]
    refine ⟨rfl, ?_, by decide, by decide, by decide, ?_⟩
    · rw [h]; exact sz_inf (e := 1024) rfl
    · show (1 : Nat) = 0 ↔ b = 0; omega
  · have e : vO b = fO b := by unfold vO; rw [if_neg h]
    rw [e]
    have hf : Fnt b := by unfold Fnt fex; omega
    have hng : fng b = false := decide_eq_false (by omega)
    have hs := fO_size hf
    rw [Nat.mod_eq_of_lt (show b < 9223372036854775808 by omega)] at hs
    have hp := x_parts (X := b) (by omega)
    by_cases h0 : fm b = 0
    · have hz : fO b = ⟨false, 0, 0⟩ := fO_zero h0
      refine ⟨by rw [hz], hs, by rw [hz]; decide, by rw [hz]; decide, by rw [hz]; decide, ?_⟩
      rw [hz]
      show (0 : Nat) = 0 ↔ b = 0
      rw [h0] at hp
      constructor
      · intro _
        rcases Nat.eq_zero_or_pos (fE b) with h9 | h9
        · have := hp.1; rw [h9] at this; omega
        · have := hp.2.2.1 h9; omega
      · intro _; rfl
    · obtain ⟨k1, k2, k3⟩ := fO_pos hf h0
      have hbd := fe_bd hf
      have hl : low (fm b) < 53 := by
        refine (low_lt_iff (Nat.pos_of_ne_zero h0)).2 ?_
        have := (f_parts b).2.1
        show fm b % 9007199254740992 ≠ 0
        omega
      refine ⟨by rw [k1, hng], hs, by rw [k3]; omega, by rw [k3]; omega, ?_, ?_⟩
      · rw [k2]; exact Nat.lt_of_le_of_lt (Nat.div_le_self _ _) hp.2.1
      · rw [k2]
        constructor
        · intro h9; exact absurd (odd_part_zero.1 h9) h0
        · intro h9
          subst h9
          exact absurd (show fm 0 = 0 from by decide) h0

theorem rvalue_l (b : Nat) (hb : b ≤ 9218868437227405312) (w : World) : Calls Tryd.prog 28 #[.int .u64 (b : Int)] w (NTold w (vO b) 4) := by
  have a1 := below1 w (.cells #[.bool false, .slice none 0 0, .int .i64 0] 28)
  have HS := Lib.hid a1
  have Hb := Lib.hid (Bd.new w 28 false none 0 0 0)
  by_cases h : b = 9218868437227405312
  · have e : vO b = ⟨false, 1, 1024⟩ := by unfold vO; rw [if_pos h]
    rw [e]
    have H1 := Lib.hid (limit_l (w.alloc (.cells #[.bool false, .slice none 0 0, .int .i64 0] 28)))
    subst h
    clear a1 e hb
    go_enter Tryd.func28, Tryd.ntmps28
    go_wp2_with fail
    refine H1.out.mono ?_
    rintro e w2 ⟨A2, m2, c2, es, rfl, hm2, hl2, hd2, hv2, hB2⟩
    have k2 := Hb.out.below hB2
    have Hfin : Hid (NTold w ⟨false, 1, 1024⟩ 4 (.returned (.agg #[.bool false, .slice A2 m2 c2, .int .i64 1024])) (World.put w2 w.heap.size false A2 m2 c2 1024)) :=
      ⟨A2, m2, c2, es, rfl, hm2, k2.dig hl2 _ _ _ _ _, hd2, hv2, below_put (HS.out.trans (hB2.mono HS.out.size)) (Nat.le_refl _) _ _ _ _ _⟩
    have y0 := k2.c0
    have y1 := k2.c1
    have y2 := k2.c2
    have yf := k2.fz
    clear k2 hB2 hl2 hd2 hv2 H1 Hb HS
    go_wp2
    exact bodyPost_ret (v := .agg #[.bool false, .slice A2 m2 c2, .int .i64 1024]) (by simp [results, Tryd.results28, go_sem, y0, y1, y2]) rfl Hfin.out
  · have e : vO b = fO b := by unfold vO; rw [if_neg h]
    rw [e]
    have H1 := Lib.hid (worth_any b (by omega) (w.alloc (.cells #[.bool false, .slice none 0 0, .int .i64 0] 28)))
    have c1 : ((b : Int) == 9218868437227405312) = false := beq_no (by omega)
    generalize fO b = dd at H1 ⊢
    obtain ⟨dg, dV, dE⟩ := dd
    clear a1 e hb h
    go_enter Tryd.func28, Tryd.ntmps28
    go_wp2_with fail
    refine H1.out.mono ?_
    rintro e w2 ⟨A2, m2, c2, es, rfl, hm2, hl2, hd2, hv2, hB2⟩
    have k2 := Hb.out.below hB2
    have Hfin : Hid (NTold w ⟨dg, dV, dE⟩ 4 (.returned (.agg #[.bool dg, .slice A2 m2 c2, .int .i64 dE])) (World.put w2 w.heap.size dg A2 m2 c2 dE)) :=
      ⟨A2, m2, c2, es, rfl, hm2, k2.dig hl2 _ _ _ _ _, hd2, hv2, below_put (HS.out.trans (hB2.mono HS.out.size)) (Nat.le_refl _) _ _ _ _ _⟩
    have y0 := k2.c0
    have y1 := k2.c1
    have y2 := k2.c2
    have yf := k2.fz
    clear k2 hB2 hl2 hd2 hv2 H1 Hb HS
    go_wp2
    exact bodyPost_ret (v := .agg #[.bool dg, .slice A2 m2 c2, .int .i64 dE]) (by simp [results, Tryd.results28, go_sem, y0, y1, y2]) rfl Hfin.out
end Go.Proofs.YtjdlnfmeciodnaaDoor

/- The document's rounding: planimeterref07.Below. -/
namespace Go.Proofs.YtjdlnfmeciodnaaDoor
open Go.RowKit

/-- A number of the document, in its box. -/
def HoldB (w : World) (A : Option Addr) (n c : Nat) (ds : List Nat) (e0 : Int) (u : World) : Prop :=
  Bd u w.heap.size 28 false A n c e0 ∧ Dig u A n c ds ∧ Below w.heap.size w u
abbrev CellsB (w : World) (A : Option Addr) (n c : Nat) (ds : List Nat) (e0 : Int) (w' : World) : Prop :=
  w'.cell? ⟨w.heap.size, 0, none⟩ = some (.bool false) ∧ w'.cell? ⟨w.heap.size, 1, none⟩ = some (.slice A n c) ∧ w'.cell? ⟨w.heap.size, 2, none⟩ = some (.int .i64 e0) ∧ Hid (HoldB w A n c ds e0 w')
section
variable {w : World} {A : Option Addr} {n c : Nat} {ds : List Nat} {e0 : Int} {u u' : World}
theorem HoldB.below (h : HoldB w A n c ds e0 u) (hb : Below u.heap.size u u') : HoldB w A n c ds e0 u' := ⟨h.1.below hb, h.2.1.below hb, h.2.2.trans (hb.mono h.2.2.size)⟩
theorem HoldB.cells (h : HoldB w A n c ds e0 u) : CellsB w A n c ds e0 u := ⟨h.1.c0, h.1.c1, h.1.c2, h⟩
end

/-- A value, while a number is held. -/
theorem hold_value {w : World} {A : Option Addr} {n c : Nat} {ds : List Nat} {e0 : Int} (b : Nat) (hb : b ≤ 9218868437227405312) (u : World) (hu : CellsB w A n c ds e0 u) :
    Calls Tryd.prog 28 #[.int .u64 (b : Int)] u fun e w' => ∃ (A1 : Option Addr) (m1 c1 : Nat) (us : List Nat), e = .returned (.agg #[.bool false, .slice A1 m1 c1, .int .i64 (vO b).e]) ∧ m1 ≤ 4 ∧ CellsB w A n c ds e0 w' ∧ Hid (Dig w' A1 m1 c1 us ∧ D.Bare us ∧ D.val us = (vO b).V) := by
  refine (rvalue_l b hb u).mono ?_
  rintro e w' ⟨A1, m1, c1, us, rfl, h1, h2, h3, h4, h5⟩
  rw [(vO_facts hb).1]
  exact ⟨A1, m1, c1, us, rfl, h1, (hu.2.2.2.out.below h5).cells, h2, h3, h4⟩
/-- .. held against it. -/
theorem hold_cmp {w : World} {A : Option Addr} {n c : Nat} {ds : List Nat} {e0 : Int} (v : Int) (b : Nat) (hb : b ≤ 9218868437227405312) (hn : n ≤ 240) (ba : D.Bare ds) (hV : D.val ds ≠ 0) (h1 : -1073741824 ≤ e0) (h2 : e0 ≤ 1073741824) (hv : cmpZ (vX b) (sz (D.val ds) e0) = v)
    (A1 : Option Addr) (m1 c1 : Nat) (us : List Nat) (E1 : Int) (hE : (vO b).e = E1) (u : World) (hu : CellsB w A n c ds e0 u) (hm : m1 ≤ 4) (hP : Dig u A1 m1 c1 us ∧ D.Bare us ∧ D.val us = (vO b).V) :
    Calls Tryd.prog 27 #[.agg #[.bool false, .slice A1 m1 c1, .int .i64 E1], .agg #[.bool false, .slice A n c, .int .i64 e0]] u fun e w' => e = .returned (.int .i64 v) ∧ CellsB w A n c ds e0 w' := by
  have hf := vO_facts hb
  have h := hu.2.2.2.out
  subst hE
  refine (rncmp_l v A1 m1 c1 us (vO b).e A n c ds e0 u hP.1 h.2.1 hP.2.1 ba (by omega) hn hV (by omega) (by omega) h1 h2 (by rw [hP.2.2, hf.2.1]; exact hv)).mono ?_
  rintro e w' ⟨rfl, hb'⟩
  exact ⟨rfl, (h.below hb').cells⟩

set_option maxHeartbeats 2000000 in
theorem rbelow_l (X : Nat) (A : Option Addr) (n c : Nat) (ds : List Nat) (e0 : Int) (w : World) (hA : Dig w A n c ds) (ba : D.Bare ds) (hn : n ≤ 240) (hV : D.val ds ≠ 0) (h1 : -1073741824 ≤ e0) (h2 : e0 ≤ 1073741824) (hX : IsLow (sz (D.val ds) e0) X) :
    Calls Tryd.prog 26 #[.agg #[.bool false, .slice A n c, .int .i64 e0]] w fun e w' => e = .returned (.int .u64 (X : Int)) ∧ Below w.heap.size w w' := by
  have a1 := below1 w (.cells #[.bool false, .slice A n c, .int .i64 e0] 28)
  have H0 : HoldB w A n c ds e0 _ := ⟨Bd.new w 28 false A n c e0, hA.below a1, a1⟩
  have K0 := Lib.hid (H0.below (below_drew _)).cells
  obtain ⟨S, hS⟩ : ∃ S, sz (D.val ds) e0 = S := ⟨_, rfl⟩
  have HL : Hid (∀ u, CellsB w A n c ds e0 u → Calls Tryd.prog 54 #[] u fun e w' => ∃ (A1 : Option Addr) (m1 c1 : Nat) (us : List Nat), e = .returned (.agg #[.bool false, .slice A1 m1 c1, .int .i64 1024]) ∧ m1 ≤ 4 ∧ CellsB w A n c ds e0 w' ∧ Hid (Dig w' A1 m1 c1 us ∧ D.Bare us ∧ D.val us = (vO 9218868437227405312).V)) := fun u hu => by
    refine (limit_l u).mono ?_
    rintro e w' ⟨A1, m1, c1, us, rfl, k1, k2, k3, k4, k5⟩
    exact ⟨A1, m1, c1, us, rfl, k1, (hu.2.2.2.out.below k5).cells, k2, k3, by rw [k4]; unfold vO; rw [if_pos rfl]⟩
  have HC : Hid (∀ (v : Int) (b : Nat) (E1 : Int), b ≤ 9218868437227405312 → cmpZ (vX b) S = v → (vO b).e = E1 → ∀ (A1 : Option Addr) (m1 c1 : Nat) (us : List Nat) (u : World), CellsB w A n c ds e0 u → m1 ≤ 4 → (Dig u A1 m1 c1 us ∧ D.Bare us ∧ D.val us = (vO b).V) →
      Calls Tryd.prog 27 #[.agg #[.bool false, .slice A1 m1 c1, .int .i64 E1], .agg #[.bool false, .slice A n c, .int .i64 e0]] u fun e w' => e = .returned (.int .i64 v) ∧ CellsB w A n c ds e0 w') := fun v b E1 hb hv hE A1 m1 c1 us u hu hm hP =>
    hold_cmp v b hb hn ba hV h1 h2 (by rw [hS]; exact hv) A1 m1 c1 us E1 hE u hu hm hP
  have HE : Hid ((vO 9218868437227405312).e = 1024) := by show (vO 9218868437227405312).e = 1024; unfold vO; rw [if_pos rfl]
  rw [hS] at hX
  have HX := Lib.hid hX
  obtain ⟨v0, hv0⟩ : ∃ v, cmpZ (vX 9218868437227405312) S = v := ⟨_, rfl⟩
  have Hv0 := Lib.hid hv0
  have hcase : (X = 9218868437227405312 ∧ v0 ≤ 0) ∨ (X < 9218868437227405312 ∧ v0 = 1 ∧ S < vX 9218868437227405312) := by
    rcases Nat.lt_or_ge X 9218868437227405312 with h | h
    · have k1 := hX.2.2 h
      have k2 := vX_le (X := X + 1) (Y := 9218868437227405312) h (Nat.le_refl _)
      exact Or.inr ⟨h, by rw [← hv0, cmpZ_gt (by omega)], by omega⟩
    · have k0 : X = 9218868437227405312 := by have := hX.1; omega
      have k1 := hX.2.1
      rw [k0] at k1
      refine Or.inl ⟨k0, ?_⟩
      rw [← hv0]
      rcases Nat.lt_or_eq_of_le k1 with k2 | k2
      · rw [cmpZ_lt k2]; decide
      · rw [cmpZ_eq k2]; decide
  clear hA ba hV a1 H0 hX hv0 hS h1 h2 hn
  go_enter Tryd.func26, Tryd.ntmps26
  obtain ⟨bb, hbb⟩ : ∃ bb, decide (v0 ≤ 0) = bb := ⟨_, rfl⟩
  go_wp2_with fail
  go_cut [9] from 6 (fun s9 wx => s9 = .bool bb ∧ Hid (HoldB w A n c ds e0 wx))
  case first =>
    go_region_held3 (fun w' => w'.cell? ⟨w.heap.size, 0, none⟩ = some (.bool false) ∧ w'.cell? ⟨w.heap.size, 1, none⟩ = some (.slice A n c) ∧ w'.cell? ⟨w.heap.size, 2, none⟩ = some (.int .i64 e0) ∧ Hid (HoldB w A n c ds e0 w'))
      (first | (with_reducible exact K0.out) | (with_reducible assumption))
      (first | (go_at_call 54; (with_reducible refine (HL.out _ (by first | (with_reducible exact K0.out) | (with_reducible assumption))).mono ?_); rintro e w1 ⟨A1, m1, c1, us, rfl, hm1, hY, hP⟩) | (go_at_call 27; (with_reducible refine (HC.out v0 9218868437227405312 1024 (Nat.le_refl _) Hv0.out HE.out A1 m1 c1 us _ (by with_reducible assumption) hm1 hP.out).mono ?_); rintro e w2 ⟨rfl, hZ⟩))
    have K2 := Lib.hid hZ.2.2.2.out
    clear hY hZ hP HL HE K0
    go_wp2_with fail
    go_meet
    exact ⟨by rw [← hbb], K2⟩
  case rest =>
  obtain ⟨w2, rfl⟩ : ∃ w2, w2 = wc := ⟨_, rfl⟩
  obtain ⟨rfl, K2⟩ := hcut
  clear HL Hv0 HE K0
  rcases hcase with ⟨hX0, hv0⟩ | ⟨hX0, hv1, hS0⟩
  · obtain rfl : bb = true := by rw [← hbb]; exact decide_eq_true hv0
    have Hfin := Lib.hid K2.out.2.2
    subst hX0
    clear K2 HC HX hv0 hbb
    go_wp2
    go_ret
    exact ⟨rfl, Hfin.out⟩
  · obtain rfl : bb = false := by rw [← hbb]; exact decide_eq_false (by omega)
    have hS1 := Lib.hid hS0
    clear hS0 hv1 hbb
    go_wp2
    go_loopw [3, 4] (fun l h wr => ∃ lo hi : Nat, l = .int .u64 (lo : Int) ∧ h = .int .u64 (hi : Int) ∧ lo < hi ∧ hi ≤ 9218868437227405312 ∧ Hid (vX lo ≤ S ∧ S < vX hi) ∧ Hid (HoldB w A n c ds e0 wr)) (fun l h _ => (intOf h).toNat - (intOf l).toNat)
    case atStart => exact ⟨0, 9218868437227405312, rfl, rfl, by decide, Nat.le_refl _, ⟨by show vX 0 ≤ S; rw [show vX 0 = 0 from by unfold vX; rw [show fm 0 = 0 from by decide, Nat.zero_mul]]; exact Nat.zero_le _, hS1.out⟩, K2⟩
    case round =>
      obtain ⟨lo, hi, rfl, rfl, hlh, hhi, HV, HB⟩ := hrel
      obtain ⟨dd, hdd⟩ : ∃ dd, hi - lo = dd := ⟨_, rfl⟩
      have e1 : (hi : Int) - (lo : Int) = (dd : Int) := by omega
      have hd0 : 1 ≤ dd := by omega
      by_cases hd1 : 1 < dd
      · obtain ⟨h2, hh2⟩ : ∃ h2, dd / 2 = h2 := ⟨_, rfl⟩
        have e2 : (dd : Int) / 2 = (h2 : Int) := by omega
        obtain ⟨mid, hmid⟩ : ∃ mid, lo + h2 = mid := ⟨_, rfl⟩
        have e3 : (lo : Int) + (h2 : Int) = (mid : Int) := by omega
        have b1 : decide ((1 : Int) < (dd : Int)) = true := decide_eq_true (by omega)
        have hm1 : lo < mid ∧ mid < hi := by omega
        obtain ⟨hm1, hm2⟩ := hm1
        have hmb : mid ≤ 9218868437227405312 := by omega
        obtain ⟨E1, hE1⟩ : ∃ E, (vO mid).e = E := ⟨_, rfl⟩
        have HE1 := Lib.hid hE1
        obtain ⟨v, hv⟩ : ∃ v, cmpZ (vX mid) S = v := ⟨_, rfl⟩
        have Hv := Lib.hid hv
        have KB := Lib.hid (HB.out.below (below_drew _)).cells
        have HVal : Hid (∀ u, CellsB w A n c ds e0 u → Calls Tryd.prog 28 #[.int .u64 (mid : Int)] u fun e w' => ∃ (A1 : Option Addr) (m1 c1 : Nat) (us : List Nat), e = .returned (.agg #[.bool false, .slice A1 m1 c1, .int .i64 E1]) ∧ m1 ≤ 4 ∧ CellsB w A n c ds e0 w' ∧ Hid (Dig w' A1 m1 c1 us ∧ D.Bare us ∧ D.val us = (vO mid).V)) := fun u hu => by
          have := hold_value mid hmb u hu
          rw [hE1] at this
          exact this
        have hvc : (v ≤ 0 ∧ vX mid ≤ S) ∨ (v = 1 ∧ S < vX mid) := by
          rw [← hv]
          rcases Nat.lt_trichotomy (vX mid) S with k | k | k
          · rw [cmpZ_lt k]; exact Or.inl ⟨by decide, by omega⟩
          · rw [cmpZ_eq k]; exact Or.inl ⟨by decide, by omega⟩
          · rw [cmpZ_gt k]; exact Or.inr ⟨rfl, k⟩
        have Hvc := Lib.hid hvc
        clear hv hE1 hdd hh2 hmid hvc
        go_wp2_with fail
        go_region_held3 (fun w' => w'.cell? ⟨w.heap.size, 0, none⟩ = some (.bool false) ∧ w'.cell? ⟨w.heap.size, 1, none⟩ = some (.slice A n c) ∧ w'.cell? ⟨w.heap.size, 2, none⟩ = some (.int .i64 e0) ∧ Hid (HoldB w A n c ds e0 w'))
          (first | (with_reducible exact KB.out) | (with_reducible assumption))
          (first | (go_at_call 28; (with_reducible refine (HVal.out _ (by first | (with_reducible exact KB.out) | (with_reducible assumption))).mono ?_); rintro e w5 ⟨A5, m5, c5, us5, rfl, hm5, hY, hP⟩) | (go_at_call 27; (with_reducible refine (HC.out v mid E1 hmb Hv.out HE1.out A5 m5 c5 us5 _ (by with_reducible assumption) hm5 hP.out).mono ?_); rintro e w6 ⟨rfl, hZ⟩))
        have K6 := Lib.hid hZ.2.2.2.out
        rcases Hvc.out with ⟨k1, k2⟩ | ⟨k1, k2⟩
        · have HV2 : Hid (vX mid ≤ S ∧ S < vX hi) := ⟨k2, HV.out.2⟩
          clear hY hZ hP KB HB HV HVal Hvc k2 Hv HE1
          go_wp2
          go_roundw
          case rel => exact ⟨mid, hi, rfl, rfl, hm2, hhi, HV2, K6⟩
          case measure => simp [intOf]; omega
        · have HV2 : Hid (vX lo ≤ S ∧ S < vX mid) := ⟨HV.out.1, k2⟩
          subst k1
          clear hY hZ hP KB HB HV HVal Hvc k2 Hv HE1
          go_wp2
          go_roundw
          case rel => exact ⟨lo, mid, rfl, rfl, hm1, hmb, HV2, K6⟩
          case measure => simp [intOf]; omega
      · obtain rfl : dd = 1 := by omega
        obtain rfl : hi = lo + 1 := by omega
        have hlow : IsLow S lo := ⟨by omega, HV.out.1, fun _ => HV.out.2⟩
        obtain rfl : X = lo := HX.out.uniq hlow
        have Hfin := Lib.hid HB.out.2.2
        clear hlow HV HB HX K2 HC hS1
        go_wp2
        go_ret
        exact ⟨rfl, Hfin.out⟩
end Go.Proofs.YtjdlnfmeciodnaaDoor

/- The document's rounding: planimeterref07.Middle. -/
namespace Go.Proofs.YtjdlnfmeciodnaaDoor
open Go.RowKit

theorem dig_len_b {ds : List Nat} {k : Nat} (hb : D.Bare ds) (h : blen (D.val ds) ≤ 16 * k) : ds.length ≤ k := dig_len hb (blen_le_iff.1 h)
/-- The sum of what some bits and the next ones are worth. -/
theorem next_sum {b : Nat} (hb : b < 9218868437227405312) : ∃ (V : Nat) (e : Int), V ≠ 0 ∧ blen V ≤ 2240 ∧ -1074 ≤ e ∧ e ≤ 1024 ∧ sz V e = vX b + vX (b + 1) ∧
    ∀ (A : Option Addr) (n c : Nat) (ds : List Nat) (B : Option Addr) (m d : Nat) (es : List Nat) (w : World), Dig w A n c ds → Dig w B m d es → D.Bare ds → D.Bare es → n ≤ 4 → m ≤ 4 → D.val ds = (vO b).V → D.val es = (vO (b + 1)).V →
      Calls Tryd.prog 57 #[.agg #[.bool false, .slice A n c, .int .i64 (vO b).e], .agg #[.bool false, .slice B m d, .int .i64 (vO (b + 1)).e]] w (NTold w ⟨false, V, e⟩ 100001) := by
  obtain ⟨_, a2, a3, a4, a5, a6⟩ := vO_facts (b := b) (by omega)
  obtain ⟨_, c2, c3, c4, c5, c6⟩ := vO_facts (b := b + 1) (by omega)
  generalize (vO b).V = V1 at *
  generalize (vO b).e = e1 at *
  generalize (vO (b + 1)).V = V2 at *
  generalize (vO (b + 1)).e = e2 at *
  have hV2 : V2 ≠ 0 := fun h => by have := c6.1 h; omega
  obtain ⟨K, hK⟩ : ∃ K : Nat, K = 2153 := ⟨_, rfl⟩
  have hs : ∀ q : Nat, q ≤ 2100 → ∀ V : Nat, V < 9007199254740992 → V * 2 ^ q < 2 ^ K := fun q hq V hV => by
    have h1 : V * 2 ^ q < 2 ^ 53 * 2 ^ q := Nat.mul_lt_mul_of_pos_right hV (Nat.two_pow_pos _)
    rw [← Nat.pow_add] at h1
    exact Nat.lt_of_lt_of_le h1 (Nat.pow_le_pow_right (by decide) (by omega))
  have hbig : ∀ x y : Nat, x < 2 ^ K → y < 2 ^ K → blen (x + y) ≤ 2240 := fun x y hx hy => by
    have h0 : x + y < 2 ^ (K + 1) := by rw [Nat.pow_succ]; omega
    have h2 := blen_le_iff.2 h0
    omega
  have szadd : ∀ (x y : Nat) (e : Int), sz (x + y) e = sz x e + sz y e := fun x y e => by unfold sz; rw [Nat.add_mul]
  by_cases h0 : V1 = 0
  · refine ⟨V2, e2, hV2, ?_, c3, c4, ?_, ?_⟩
    · have := hbig 0 V2 (Nat.two_pow_pos _) (by have := hs 0 (by decide) V2 c5; rwa [Nat.pow_zero, Nat.mul_one] at this)
      rwa [Nat.zero_add] at this
    · rw [c2, ← a2, h0, sz_zero, Nat.zero_add]
    · intro A n c ds B m d es w hA hB ba bb hn hm hv1 hv2
      obtain rfl : n = 0 := (dnil_iff hA ba).2 (hv1.trans h0)
      refine (radd_zero false A c e1 false B m d es e2 w hB bb).mono ?_
      rintro e w' ⟨A5, m5, c5, rs, rfl, k1, k2, k3, k4, k5⟩
      exact ⟨A5, m5, c5, rs, rfl, by omega, k2, k3, k4.trans hv2, k5⟩
  · by_cases hl : e2 < e1
    · obtain ⟨q, hq⟩ : ∃ q : Nat, e1 - e2 = (q : Int) := ⟨(e1 - e2).toNat, by omega⟩
      have hh : held e1 = held e2 + q := by rw [held_id (by omega) (by omega), held_id (by omega) (by omega)]; omega
      refine ⟨V1 * 2 ^ q + V2, e2, by omega, ?_, c3, c4, ?_, ?_⟩
      · exact hbig _ _ (hs q (by omega) V1 a5) (by have := hs 0 (by decide) V2 c5; rwa [Nat.pow_zero, Nat.mul_one] at this)
      · rw [szadd, ← sz_shift hh, a2, c2]
      · intro A n c ds B m d es w hA hB ba bb hn hm hv1 hv2
        exact radd_sum_L (V1 * 2 ^ q) V2 q A n c ds e1 B m d es e2 w hA hB ba bb (by omega) (by omega) (fun h => h0 (hv1.symm.trans ((dnil_iff hA ba).1 h))) (fun h => hV2 (hv2.symm.trans ((dnil_iff hB bb).1 h))) hq (by omega) hl (by rw [hv1]; rfl) hv2
    · obtain ⟨q, hq⟩ : ∃ q : Nat, e2 - e1 = (q : Int) := ⟨(e2 - e1).toNat, by omega⟩
      have hh : held e2 = held e1 + q := by rw [held_id (by omega) (by omega), held_id (by omega) (by omega)]; omega
      refine ⟨V1 + V2 * 2 ^ q, e1, by omega, ?_, a3, a4, ?_, ?_⟩
      · exact hbig _ _ (by have := hs 0 (by decide) V1 a5; rwa [Nat.pow_zero, Nat.mul_one] at this) (hs q (by omega) V2 c5)
      · rw [szadd, ← sz_shift hh, a2, c2]
      · intro A n c ds B m d es w hA hB ba bb hn hm hv1 hv2
        exact radd_sum_G V1 (V2 * 2 ^ q) q A n c ds e1 B m d es e2 w hA hB ba bb (by omega) (by omega) (fun h => h0 (hv1.symm.trans ((dnil_iff hA ba).1 h))) (fun h => hV2 (hv2.symm.trans ((dnil_iff hB bb).1 h))) hq (by omega) hv1 (by rw [hv2]; rfl)

theorem mid_spec {b : Nat} (hb : b < 9218868437227405312) : ∃ (V : Nat) (E : Int), V ≠ 0 ∧ -1073741824 ≤ E ∧ E ≤ 1073741824 ∧ 2 * sz V E = vX b + vX (b + 1) ∧
    ∀ w, Calls Tryd.prog 29 #[.int .u64 (b : Int)] w (NTold w ⟨false, V, E⟩ 140) := by
  obtain ⟨V, e, h1, h2, h3, h4, h5, h6⟩ := next_sum hb
  refine ⟨V, e - 1, h1, by omega, by omega, ?_, ?_⟩
  · have hh : held e = held (e - 1) + (1 : Nat) := by rw [held_id (by omega) (by omega), held_id (by omega) (by omega)]; omega
    rw [← h5, sz_shift hh]
    unfold sz
    rw [Nat.pow_one, Nat.mul_comm V 2, Nat.mul_assoc]
  · intro w
    have a1 := below1 w (.cells #[.bool false, .slice none 0 0, .int .i64 0] 28)
    have HS := Lib.hid a1
    have Hb := Lib.hid (Bd.new w 28 false none 0 0 0)
    have H1 := rvalue_l b (by omega) (w.alloc (.cells #[.bool false, .slice none 0 0, .int .i64 0] 28))
    have H2 := fun u => rvalue_l (b + 1) (by omega) u
    have g1 := (vO_facts (b := b) (by omega)).1
    have g2 := (vO_facts (b := b + 1) (by omega)).1
    obtain ⟨⟨d0, d1, d2⟩, hd⟩ : ∃ dd, vO b = dd := ⟨_, rfl⟩
    obtain ⟨⟨k0, k1, k2⟩, hk⟩ : ∃ dd, vO (b + 1) = dd := ⟨_, rfl⟩
    rw [hd] at H1 g1 h6
    rw [hk] at H2 g2 h6
    simp only at g1 g2 h6
    subst g1 g2
    have H1 := Lib.hid H1
    have H2 := Lib.hid H2
    have H6 := Lib.hid h6
    have Hlt := Lib.hid h2
    obtain ⟨b', hb'⟩ : ∃ b', b + 1 = b' := ⟨_, rfl⟩
    have e1 : (b : Int) + 1 = (b' : Int) := by omega
    rw [hb'] at H2
    have hbb : b' ≤ 9218868437227405312 := by omega
    clear a1 h1 h2 h5 h6 hd hk hb' hb
    go_enter Tryd.func29, Tryd.ntmps29
    go_wp2_with fail
    refine H1.out.mono ?_
    rintro e w1 ⟨A1, m1, c1, us, rfl, hm1, hl1, hd1, hv1, hB1⟩
    have Hb1 := Lib.hid (Hb.out.below hB1)
    have HS1 := Lib.hid (HS.out.trans (hB1.mono HS.out.size))
    have HL1 := Lib.hid hl1
    have HD1 := Lib.hid (And.intro hd1 hv1)
    clear hl1 hd1 hv1 hB1 Hb HS H1
    go_wp2_with fail
    refine (H2.out _).mono ?_
    rintro e w2 ⟨A2, m2, c2, vs, rfl, hm2, hl2, hd2, hv2, hB2⟩
    have Hb2 := Lib.hid (Hb1.out.below hB2)
    have HS2 := Lib.hid (HS1.out.trans (hB2.mono HS1.out.size))
    have H3 := Lib.hid (H6.out A1 m1 c1 us A2 m2 c2 vs w2 (HL1.out.below hB2) hl2 HD1.out.1 hd2 hm1 hm2 HD1.out.2 hv2)
    clear hl2 hd2 hv2 hB2 Hb1 HS1 H2 HL1 HD1 H6
    go_wp2_with fail
    refine H3.out.mono ?_
    rintro e w3 ⟨A3, m3, c3, rs, rfl, hm3, hl3, hd3, hv3, hB3⟩
    have hm4 : m3 ≤ 140 := by
      rw [← hl3.len]
      exact dig_len_b hd3 (by rw [hv3]; exact Hlt.out)
    have a4 := below1 w3 (.cells #[.bool false, .slice A3 m3 c3, .int .i64 (e - 1)] 28)
    have k4 := (Hb2.out.below hB3).below a4
    have HS4 := (HS2.out.trans (hB3.mono HS2.out.size)).trans (a4.mono (HS2.out.trans (hB3.mono HS2.out.size)).size)
    have Hfin : Hid (NTold w ⟨false, V, e - 1⟩ 140 (.returned (.agg #[.bool false, .slice A3 m3 c3, .int .i64 (e - 1)])) (World.put (w3.alloc (.cells #[.bool false, .slice A3 m3 c3, .int .i64 (e - 1)] 28)) w.heap.size false A3 m3 c3 (e - 1))) :=
      ⟨A3, m3, c3, rs, rfl, hm4, k4.dig (hl3.below a4) _ _ _ _ _, hd3, hv3, below_put HS4 (Nat.le_refl _) _ _ _ _ _⟩
    have kk := Hb2.out.below hB3
    have y0 := fun o => (kk.alloc o).c0
    have y1 := fun o => (kk.alloc o).c1
    have y2 := fun o => (kk.alloc o).c2
    have yf := fun o => (kk.alloc o).fz
    clear a4 k4 kk HS4 hl3 hd3 hv3 hB3 Hb2 HS2 H3 Hlt
    go_wp2
    exact bodyPost_ret (v := .agg #[.bool false, .slice A3 m3 c3, .int .i64 (e - 1)]) (by simp [results, Tryd.results29, go_sem, y0, y1, y2]) rfl Hfin.out
end Go.Proofs.YtjdlnfmeciodnaaDoor

/- What the document's rounding comes to, case by case. -/
namespace Go.Proofs.YtjdlnfmeciodnaaDoor
open Go.RowKit

theorem doc_cases {g more : Bool} {dir : Int} {S X0 X F : Nat} (hlow : IsLow S X0) (hd0 : 0 ≤ dir) (hd3 : dir ≤ 3) (hne : X0 = 9218868437227405312 ∨ (X0 < 9218868437227405312 ∧ (more = true ∨ vX X0 ≠ S))) (hR : rndS g S more dir X0 = (X, F)) :
    ∃ (b2 : Nat) (ov2 : Bool), b2 ≤ 9218868437227405312 ∧ sgn g b2 = X ∧ ((ov2 = true ∧ F = 5) ∨ (ov2 = false ∧ F = if S < vX 4503599627370496 then 3 else 1)) ∧
      ((X0 = 9218868437227405312 ∧ ov2 = true ∧ ((dir = 0 ∧ b2 = 9218868437227405312) ∨ (dir = 2 ∧ g = false ∧ b2 = 9218868437227405312) ∨ (dir = 3 ∧ g = true ∧ b2 = 9218868437227405312) ∨ (dir = 1 ∧ b2 = 9218868437227405311) ∨ (dir = 2 ∧ g = true ∧ b2 = 9218868437227405311) ∨ (dir = 3 ∧ g = false ∧ b2 = 9218868437227405311))) ∨
       (X0 < 9218868437227405312 ∧ ov2 = decide (b2 = 9218868437227405312) ∧
         ((dir = 0 ∧ vX X0 + vX (X0 + 1) < 2 * S ∧ b2 = X0 + 1) ∨ (dir = 0 ∧ 2 * S = vX X0 + vX (X0 + 1) ∧ more = true ∧ b2 = X0 + 1) ∨ (dir = 0 ∧ 2 * S = vX X0 + vX (X0 + 1) ∧ more = false ∧ X0 % 2 = 1 ∧ b2 = X0 + 1) ∨ (dir = 0 ∧ 2 * S = vX X0 + vX (X0 + 1) ∧ more = false ∧ X0 % 2 = 0 ∧ b2 = X0) ∨ (dir = 0 ∧ 2 * S < vX X0 + vX (X0 + 1) ∧ b2 = X0) ∨
          (dir = 2 ∧ g = false ∧ b2 = X0 + 1) ∨ (dir = 3 ∧ g = true ∧ b2 = X0 + 1) ∨ (dir = 1 ∧ b2 = X0) ∨ (dir = 2 ∧ g = true ∧ b2 = X0) ∨ (dir = 3 ∧ g = false ∧ b2 = X0)))) := by
  have h4 : dir = 0 ∨ dir = 1 ∨ dir = 2 ∨ dir = 3 := by omega
  by_cases hI : X0 = 9218868437227405312
  · unfold rndS at hR
    rw [if_pos hI] at hR
    obtain ⟨h1, h2⟩ := Prod.mk.inj hR
    refine ⟨overM g dir, true, overM_le g dir, h1, Or.inl ⟨rfl, h2.symm⟩, Or.inl ⟨hI, rfl, ?_⟩⟩
    rcases h4 with rfl | rfl | rfl | rfl <;> cases g <;> simp [overM, awy]
  · have hX : X0 < 9218868437227405312 := by have := hlow.1; omega
    have hm : more = true ∨ vX X0 ≠ S := by
      rcases hne with h | h
      · exact absurd h hI
      · exact h.2
    have l1 := hlow.2.1
    have l2 := hlow.2.2 hX
    have hlt := vX_lt hX
    unfold rndS at hR
    rw [if_neg hI] at hR
    obtain ⟨hh, hhh⟩ : ∃ hh, hS S X0 = hh := ⟨_, rfl⟩
    obtain ⟨bb, hbb⟩ : ∃ bb, (bS S X0 || more) = bb := ⟨_, rfl⟩
    rw [hhh, hbb] at hR
    have hinx : (hh || bb) = true := by
      rw [← hhh, ← hbb]
      rcases hm with h | h
      · rw [h]; simp
      · by_cases k : vX X0 + vX (X0 + 1) ≤ 2 * S
        · rw [show hS S X0 = true from decide_eq_true k]; rfl
        · rw [show bS S X0 = true from decide_eq_true ⟨fun h' => h h'.symm, by omega⟩]; simp
    unfold rfin at hR
    have hfl : fl hh bb (decide (S < vX 4503599627370496)) = if S < vX 4503599627370496 then 3 else 1 := by
      unfold fl; rw [hinx]
      by_cases k : S < vX 4503599627370496
      · rw [decide_eq_true k]; simp [k]
      · rw [decide_eq_false k]; simp [k]
    have hle := (upX_le (g := g) (dir := dir) (X := X0) (h := hh) (b := bb)).2
    refine ⟨upX g dir X0 hh bb, decide (upX g dir X0 hh bb = 9218868437227405312), by omega, ?_, ?_, Or.inr ⟨hX, rfl, ?_⟩⟩
    · by_cases hu : upX g dir X0 hh bb = 9218868437227405312
      · rw [if_pos hu] at hR
        rw [hu, ← upX_inf hI hu]
        exact (Prod.mk.inj hR).1
      · rw [if_neg hu] at hR
        exact (Prod.mk.inj hR).1
    · by_cases hu : upX g dir X0 hh bb = 9218868437227405312
      · rw [if_pos hu] at hR
        exact Or.inl ⟨decide_eq_true hu, (Prod.mk.inj hR).2.symm⟩
      · rw [if_neg hu, hfl] at hR
        exact Or.inr ⟨decide_eq_false hu, (Prod.mk.inj hR).2.symm⟩
    · unfold upX
      rcases h4 with rfl | rfl | rfl | rfl
      · have hawy : awy g 0 (decide (X0 % 2 = 1)) hh bb = (hh && (bb || decide (X0 % 2 = 1))) := rfl
        rw [hawy]
        rcases Nat.lt_trichotomy (2 * S) (vX X0 + vX (X0 + 1)) with k | k | k
        · have e1 : hh = false := by rw [← hhh]; exact decide_eq_false (by omega)
          rw [e1]
          right; right; right; right; left
          exact ⟨rfl, k, rfl⟩
        · have e1 : hh = true := by rw [← hhh]; exact decide_eq_true (by omega)
          have e2 : bS S X0 = false := decide_eq_false (by omega)
          rw [e2, Bool.false_or] at hbb
          subst hbb
          rw [e1, Bool.true_and]
          cases more with
          | true => right; left; exact ⟨rfl, k, rfl, rfl⟩
          | false =>
            rw [Bool.false_or]
            have hp : X0 % 2 = 1 ∨ X0 % 2 = 0 := by omega
            rcases hp with hp | hp
            · right; right; left; exact ⟨rfl, k, rfl, hp, by rw [decide_eq_true hp]; rfl⟩
            · right; right; right; left; exact ⟨rfl, k, rfl, hp, by rw [decide_eq_false (by omega)]; rfl⟩
        · have e1 : hh = true := by rw [← hhh]; exact decide_eq_true (by omega)
          have e2 : bS S X0 = true := decide_eq_true (by omega)
          have e3 : bb = true := by rw [← hbb, e2]; rfl
          rw [e1, e3]
          left; exact ⟨rfl, k, rfl⟩
      · right; right; right; right; right; right; right; left
        exact ⟨rfl, rfl⟩
      · have hawy : awy g 2 (decide (X0 % 2 = 1)) hh bb = (!g && (hh || bb)) := rfl
        rw [hawy, hinx]
        cases g with
        | false => right; right; right; right; right; left; exact ⟨rfl, rfl, rfl⟩
        | true => right; right; right; right; right; right; right; right; left; exact ⟨rfl, rfl, rfl⟩
      · have hawy : awy g 3 (decide (X0 % 2 = 1)) hh bb = (g && (hh || bb)) := rfl
        rw [hawy, hinx]
        cases g with
        | false => right; right; right; right; right; right; right; right; right; exact ⟨rfl, rfl, rfl⟩
        | true => right; right; right; right; right; right; left; exact ⟨rfl, rfl, rfl⟩
/-- What is exact. -/
theorem doc_exact {g : Bool} {dir : Int} {S X0 X F : Nat} (hX : X0 < 9218868437227405312) (hS' : vX X0 = S) (hR : rndS g S false dir X0 = (X, F)) : sgn g X0 = X ∧ F = 0 := by
  have hlt := vX_lt hX
  unfold rndS at hR
  rw [if_neg (by omega)] at hR
  have hh : hS S X0 = false := decide_eq_false (by omega)
  have hb : bS S X0 = false := decide_eq_false (by omega)
  rw [hh, hb] at hR
  unfold rfin upX at hR
  rw [Bool.false_or, awy_exact] at hR
  rw [show X0 + false.toNat = X0 from rfl, if_neg (by omega)] at hR
  obtain ⟨h1, h2⟩ := Prod.mk.inj hR
  exact ⟨h1, h2.symm⟩
end Go.Proofs.YtjdlnfmeciodnaaDoor

/- The document's rounding: planimeterref07.To. -/
namespace Go.Proofs.YtjdlnfmeciodnaaDoor
open Go.RowKit

theorem sz_norm {e : Int} (h : e = -1022) : sz 1 e = vX 4503599627370496 := by
  have h1 := sh_eq (e := e) (by omega) (by omega)
  have h2 := kb_eq
  rw [vX_norm, sz, Nat.one_mul]
  congr 1
  omega
theorem cmp_half {S T M : Nat} (h : 2 * T = M) : (M < 2 * S → cmpZ S T = 1) ∧ (2 * S = M → cmpZ S T = 0) ∧ (2 * S < M → cmpZ S T = -1) :=
  ⟨fun k => cmpZ_gt (by omega), fun k => cmpZ_eq (by omega), fun k => cmpZ_lt (by omega)⟩

set_option maxRecDepth 20000 in
set_option maxHeartbeats 4000000 in
theorem rdoc_l (X F X0 : Nat) (g more : Bool) (A : Option Addr) (n c : Nat) (ds : List Nat) (e0 dir : Int) (w : World) (hA : Dig w A n c ds) (ba : D.Bare ds) (hn : n ≤ 240) (hV : D.val ds ≠ 0) (h1 : -1073741824 ≤ e0) (h2 : e0 ≤ 1073741824) (hd0 : 0 ≤ dir) (hd3 : dir ≤ 3)
    (hX0 : IsLow (sz (D.val ds) e0) X0) (hR : rndS g (sz (D.val ds) e0) more dir X0 = (X, F)) :
    Calls Tryd.prog 10 #[.agg #[.bool g, .slice A n c, .int .i64 e0], .bool more, .int .i64 dir] w fun e w' => e = .returned (.tuple #[.int .u64 (X : Int), .int .i64 (F : Int)]) ∧ Below w.heap.size w w' := by
  have a1 := below1 w (.cells #[.bool false, .slice A n c, .int .i64 e0] 28)
  have H0 : HoldB w A n c ds e0 _ := ⟨Bd.new w 28 false A n c e0, hA.below a1, a1⟩
  have K0 := Lib.hid H0
  have HBel := Lib.hid (rbelow_l X0 A n c ds e0 _ H0.2.1 ba hn hV h1 h2 hX0)
  have hn0 : n ≠ 0 := fun h => hV ((dnil_iff hA ba).1 h)
  have c0 : ((n : Int) == 0) = false := beq_no (by omega)
  obtain ⟨sgv, hsgv⟩ : ∃ sgv : Nat, (if g then 9223372036854775808 else 0) = sgv := ⟨_, rfl⟩
  have Hsgv := Lib.hid hsgv
  clear hA a1 H0 hn0 hsgv
  go_enter Tryd.func10, Tryd.ntmps10
  go_upto_if 22 with fail
  go_cut [9] from 15 (fun s9 wx => s9 = .int .u64 (sgv : Int) ∧ wx = w.alloc (.cells #[.bool false, .slice A n c, .int .i64 e0] 28))
  case first =>
    clear HBel K0 hX0 hR
    cases g with
    | false =>
      obtain rfl : sgv = 0 := Hsgv.out.symm
      go_wp2_with fail
      go_meet
      exact ⟨rfl, rfl⟩
    | true =>
      obtain rfl : sgv = 9223372036854775808 := Hsgv.out.symm
      go_wp2_with fail
      go_meet
      exact ⟨rfl, rfl⟩
  case rest =>
    obtain ⟨rfl, rfl⟩ := hcut
    go_wp2_with fail
    refine HBel.out.mono ?_
    rintro e w1 ⟨rfl, hb1⟩
    have K1 := Lib.hid (K0.out.below hb1)
    clear hb1 HBel K0
    obtain ⟨ov, hov⟩ : ∃ ov, ((X0 : Int) == 9218868437227405312) = ov := ⟨_, rfl⟩
    obtain ⟨S, hS⟩ : ∃ S, sz (D.val ds) e0 = S := ⟨_, rfl⟩
    rw [hS] at hX0 hR
    have HC : Hid (∀ (v : Int) (b : Nat) (E1 : Int), b ≤ 9218868437227405312 → cmpZ (vX b) S = v → (vO b).e = E1 → ∀ (A1 : Option Addr) (m1 c1 : Nat) (us : List Nat) (u : World), CellsB w A n c ds e0 u → m1 ≤ 4 → (Dig u A1 m1 c1 us ∧ D.Bare us ∧ D.val us = (vO b).V) →
        Calls Tryd.prog 27 #[.agg #[.bool false, .slice A1 m1 c1, .int .i64 E1], .agg #[.bool false, .slice A n c, .int .i64 e0]] u fun e w' => e = .returned (.int .i64 v) ∧ CellsB w A n c ds e0 w') := fun v b E1 hb hv hE A1 m1 c1 us u hu hm hP =>
      hold_cmp v b hb hn ba hV h1 h2 (by rw [hS]; exact hv) A1 m1 c1 us E1 hE u hu hm hP
    obtain ⟨ex, hex⟩ : ∃ ex, (!ov && !more && decide (vX X0 = S)) = ex := ⟨_, rfl⟩
    have Hlow := Lib.hid hX0
    have HR := Lib.hid hR
    have hxb := hX0.1
    clear hX0 hR
    go_upto_region 10 with fail
    go_cut [12] from 15 (fun s12 wx => s12 = .bool ex ∧ Hid (HoldB w A n c ds e0 wx))
    case first =>
      clear HR Hlow
      cases ov with
      | true =>
        obtain rfl : ex = false := hex.symm
        clear hex HC
        go_quiet (fail)
        go_wp2_with fail
        go_meet
        exact ⟨rfl, K1.out.below (below_drewN (Below.refl _ _) _)⟩
      | false =>
        cases more with
        | true =>
          obtain rfl : ex = false := hex.symm
          clear hex HC
          go_quiet (fail)
          go_wp2_with fail
          go_meet
          exact ⟨rfl, K1.out.below (below_drewN (Below.refl _ _) _)⟩
        | false =>
          obtain ⟨v, hv⟩ : ∃ v, cmpZ (vX X0) S = v := ⟨_, rfl⟩
          have hve : (v == 0) = ex := by
            rw [← hex, ← hv]
            rcases Nat.lt_trichotomy (vX X0) S with k | k | k
            · rw [cmpZ_lt k, decide_eq_false (by omega)]; rfl
            · rw [cmpZ_eq k, decide_eq_true k]; rfl
            · rw [cmpZ_gt k, decide_eq_false (by omega)]; rfl
          have Hv := Lib.hid hv
          obtain ⟨E1, hE1⟩ : ∃ E, (vO X0).e = E := ⟨_, rfl⟩
          have HE1 := Lib.hid hE1
          have KB := Lib.hid (K1.out.below (below_drew _)).cells
          have HVal : Hid (∀ u, CellsB w A n c ds e0 u → Calls Tryd.prog 28 #[.int .u64 (X0 : Int)] u fun e w' => ∃ (A1 : Option Addr) (m1 c1 : Nat) (us : List Nat), e = .returned (.agg #[.bool false, .slice A1 m1 c1, .int .i64 E1]) ∧ m1 ≤ 4 ∧ CellsB w A n c ds e0 w' ∧ Hid (Dig w' A1 m1 c1 us ∧ D.Bare us ∧ D.val us = (vO X0).V)) := fun u hu => by
            have := hold_value X0 hxb u hu
            rw [hE1] at this
            exact this
          clear hex hv hE1
          go_region_held3 (fun w' => w'.cell? ⟨w.heap.size, 0, none⟩ = some (.bool false) ∧ w'.cell? ⟨w.heap.size, 1, none⟩ = some (.slice A n c) ∧ w'.cell? ⟨w.heap.size, 2, none⟩ = some (.int .i64 e0) ∧ Hid (HoldB w A n c ds e0 w'))
            (first | (with_reducible exact KB.out) | (with_reducible assumption))
            (first | (go_at_call 28; (with_reducible refine (HVal.out _ (by first | (with_reducible exact KB.out) | (with_reducible assumption))).mono ?_); rintro e w5 ⟨A5, m5, c5, us5, rfl, hm5, hY, hP⟩) | (go_at_call 27; (with_reducible refine (HC.out v X0 E1 hxb Hv.out HE1.out A5 m5 c5 us5 _ (by with_reducible assumption) hm5 hP.out).mono ?_); rintro e w6 ⟨rfl, hZ⟩))
          have K6 := Lib.hid hZ.2.2.2.out
          clear hY hZ hP KB HVal Hv HE1 HC
          go_wp2_with fail
          go_meet
          exact ⟨rfl, K6⟩
    case rest =>
      obtain ⟨w2, rfl⟩ : ∃ w2, w2 = wc := ⟨_, rfl⟩
      obtain ⟨rfl, K2⟩ := hcut
      clear K1
      cases ex with
      | true =>
        have hovf : ov = false := by cases ov; rfl; simp at hex
        have hmf : more = false := by subst hovf; cases more; rfl; simp at hex
        subst hovf hmf
        have hSX : vX X0 = S := by simpa using hex
        have hXlt : X0 < 9218868437227405312 := by
          have := (beq_eq_false_iff_ne.1 hov)
          omega
        obtain ⟨k1, rfl⟩ := doc_exact hXlt hSX HR.out
        have e9 : (X0 : Int) + (sgv : Int) = (X : Int) := by rw [← k1, ← Hsgv.out]; unfold sgn; omega
        have hXb : X < 18446744073709551616 := by rw [← k1]; unfold sgn; split <;> omega
        have Hfin := Lib.hid K2.out.2.2
        clear HR Hlow HC hSX k1 K2 hex Hsgv
        go_wp2
        go_ret2
        exact ⟨rfl, Hfin.out⟩
      | false =>
        have hne : X0 = 9218868437227405312 ∨ (X0 < 9218868437227405312 ∧ (more = true ∨ vX X0 ≠ S)) := by
          by_cases hI : X0 = 9218868437227405312
          · exact Or.inl hI
          · refine Or.inr ⟨by omega, ?_⟩
            have ho : ov = false := by rw [← hov]; exact beq_no (by omega)
            subst ho
            cases more with
            | true => exact Or.inl rfl
            | false => exact Or.inr (by simpa using hex)
        obtain ⟨b2, ov2, hb2, hX, hF, hcase⟩ := doc_cases Hlow.out hd0 hd3 hne HR.out
        clear hex hne HR
        have e9 : (b2 : Int) + (sgv : Int) = (X : Int) := by rw [← hX, ← Hsgv.out]; unfold sgn; omega
        have hXb : X < 18446744073709551616 := by rw [← hX]; unfold sgn; split <;> omega
        have HF := Lib.hid hF
        clear hX Hsgv HC hF
        go_upto_block 0 with fail
        go_cut [11, 13] from 15 (fun s11 s13 wx => s11 = .bool ov2 ∧ s13 = .int .u64 (b2 : Int) ∧ Hid (HoldB w A n c ds e0 wx))
        case first =>
          clear HF e9 hXb
          rcases hcase with ⟨rfl, rfl, hc⟩ | ⟨hXlt, hov2, hc⟩
          · obtain rfl : ov = true := hov.symm
            clear Hlow hov
            rcases hc with ⟨rfl, rfl⟩ | ⟨rfl, rfl, rfl⟩ | ⟨rfl, rfl, rfl⟩ | ⟨rfl, rfl⟩ | ⟨rfl, rfl, rfl⟩ | ⟨rfl, rfl, rfl⟩
            all_goals (
              go_wp2_with fail
              go_meet
              exact ⟨rfl, rfl, K2⟩)
          · obtain rfl : ov = false := by rw [← hov]; exact beq_no (by omega)
            have ho2 : ((b2 : Int) == 9218868437227405312) = ov2 := by
              rw [hov2]
              by_cases k : b2 = 9218868437227405312
              · rw [decide_eq_true k]; exact beq_yes (by omega)
              · rw [decide_eq_false k]; exact beq_no (by omega)
            have hb264 : b2 < 18446744073709551616 := by omega
            have hd0' : (dir == 0) = decide (dir = 0) := rfl
            clear hov2 Hlow hb2 hd0'
            rcases hc with hc | hc | hc | hc | hc | hc
            · obtain ⟨rfl, k, hb1⟩ := hc
              obtain ⟨Vm, Em, hm1, hm2, hm3, hm4, hm5⟩ := mid_spec hXlt
              obtain ⟨q1, q2, q3⟩ := cmp_half (S := S) hm4
              have KB := Lib.hid (K2.out.below (below_drew _)).cells
              have HMid : Hid (∀ u, CellsB w A n c ds e0 u → Calls Tryd.prog 29 #[.int .u64 (X0 : Int)] u fun e w' => ∃ (A1 : Option Addr) (m1 c1 : Nat) (us : List Nat), e = .returned (.agg #[.bool false, .slice A1 m1 c1, .int .i64 Em]) ∧ m1 ≤ 140 ∧ CellsB w A n c ds e0 w' ∧ Hid (Dig w' A1 m1 c1 us ∧ D.Bare us ∧ D.val us = Vm)) := fun u hu => by
                refine (hm5 u).mono ?_
                rintro e w' ⟨A1, m1, c1, us, rfl, k1, k2, k3, k4, k5⟩
                exact ⟨A1, m1, c1, us, rfl, k1, (hu.2.2.2.out.below k5).cells, k2, k3, k4⟩
              have HCm : ∀ v, cmpZ S (sz Vm Em) = v → ∀ (A1 : Option Addr) (m1 c1 : Nat) (us : List Nat) (u : World), CellsB w A n c ds e0 u → m1 ≤ 140 → (Dig u A1 m1 c1 us ∧ D.Bare us ∧ D.val us = Vm) →
                  Calls Tryd.prog 27 #[.agg #[.bool false, .slice A n c, .int .i64 e0], .agg #[.bool false, .slice A1 m1 c1, .int .i64 Em]] u fun e w' => e = .returned (.int .i64 v) ∧ CellsB w A n c ds e0 w' := fun v hv A1 m1 c1 us u hu hm hP => by
                have h := hu.2.2.2.out
                refine (rncmp_l v A n c ds e0 A1 m1 c1 us Em u h.2.1 hP.1 ba hP.2.1 hn (by omega) (by rw [hP.2.2]; exact hm1) h1 h2 hm2 hm3 (by rw [hP.2.2, hS]; exact hv)).mono ?_
                rintro e w' ⟨rfl, hb'⟩
                exact ⟨rfl, (h.below hb').cells⟩
              clear hm1 hm2 hm3 hm4 hm5
              have e1 : (X0 : Int) + 1 = (b2 : Int) := by omega
              clear hb1
              have hcm := q1 k
              have HCq := Lib.hid (HCm 1 hcm)
              clear hcm HCm
              go_wp2_with fail
              go_region_held3 (fun w' => w'.cell? ⟨w.heap.size, 0, none⟩ = some (.bool false) ∧ w'.cell? ⟨w.heap.size, 1, none⟩ = some (.slice A n c) ∧ w'.cell? ⟨w.heap.size, 2, none⟩ = some (.int .i64 e0) ∧ Hid (HoldB w A n c ds e0 w'))
                (first | (with_reducible exact KB.out) | (with_reducible assumption))
                (first | (go_at_call 29; (with_reducible refine (HMid.out _ (by first | (with_reducible exact KB.out) | (with_reducible assumption))).mono ?_); rintro e w5 ⟨A5, m5, c5, us5, rfl, hm5, hY, hP⟩) | (go_at_call 27; (with_reducible refine (HCq.out A5 m5 c5 us5 _ (by with_reducible assumption) hm5 hP.out).mono ?_); rintro e w6 ⟨rfl, hZ⟩))
              have K6 := Lib.hid hZ.2.2.2.out
              clear hY hZ hP KB HMid HCq K2
              go_wp2_with fail
              go_meet
              exact ⟨rfl, rfl, K6⟩
            · obtain ⟨rfl, k, rfl, hb1⟩ := hc
              obtain ⟨Vm, Em, hm1, hm2, hm3, hm4, hm5⟩ := mid_spec hXlt
              obtain ⟨q1, q2, q3⟩ := cmp_half (S := S) hm4
              have KB := Lib.hid (K2.out.below (below_drew _)).cells
              have HMid : Hid (∀ u, CellsB w A n c ds e0 u → Calls Tryd.prog 29 #[.int .u64 (X0 : Int)] u fun e w' => ∃ (A1 : Option Addr) (m1 c1 : Nat) (us : List Nat), e = .returned (.agg #[.bool false, .slice A1 m1 c1, .int .i64 Em]) ∧ m1 ≤ 140 ∧ CellsB w A n c ds e0 w' ∧ Hid (Dig w' A1 m1 c1 us ∧ D.Bare us ∧ D.val us = Vm)) := fun u hu => by
                refine (hm5 u).mono ?_
                rintro e w' ⟨A1, m1, c1, us, rfl, k1, k2, k3, k4, k5⟩
                exact ⟨A1, m1, c1, us, rfl, k1, (hu.2.2.2.out.below k5).cells, k2, k3, k4⟩
              have HCm : ∀ v, cmpZ S (sz Vm Em) = v → ∀ (A1 : Option Addr) (m1 c1 : Nat) (us : List Nat) (u : World), CellsB w A n c ds e0 u → m1 ≤ 140 → (Dig u A1 m1 c1 us ∧ D.Bare us ∧ D.val us = Vm) →
                  Calls Tryd.prog 27 #[.agg #[.bool false, .slice A n c, .int .i64 e0], .agg #[.bool false, .slice A1 m1 c1, .int .i64 Em]] u fun e w' => e = .returned (.int .i64 v) ∧ CellsB w A n c ds e0 w' := fun v hv A1 m1 c1 us u hu hm hP => by
                have h := hu.2.2.2.out
                refine (rncmp_l v A n c ds e0 A1 m1 c1 us Em u h.2.1 hP.1 ba hP.2.1 hn (by omega) (by rw [hP.2.2]; exact hm1) h1 h2 hm2 hm3 (by rw [hP.2.2, hS]; exact hv)).mono ?_
                rintro e w' ⟨rfl, hb'⟩
                exact ⟨rfl, (h.below hb').cells⟩
              clear hm1 hm2 hm3 hm4 hm5
              have e1 : (X0 : Int) + 1 = (b2 : Int) := by omega
              clear hb1
              have hcm := q2 k
              have HCq := Lib.hid (HCm 0 hcm)
              clear hcm HCm
              go_wp2_with fail
              go_region_held3 (fun w' => w'.cell? ⟨w.heap.size, 0, none⟩ = some (.bool false) ∧ w'.cell? ⟨w.heap.size, 1, none⟩ = some (.slice A n c) ∧ w'.cell? ⟨w.heap.size, 2, none⟩ = some (.int .i64 e0) ∧ Hid (HoldB w A n c ds e0 w'))
                (first | (with_reducible exact KB.out) | (with_reducible assumption))
                (first | (go_at_call 29; (with_reducible refine (HMid.out _ (by first | (with_reducible exact KB.out) | (with_reducible assumption))).mono ?_); rintro e w5 ⟨A5, m5, c5, us5, rfl, hm5, hY, hP⟩) | (go_at_call 27; (with_reducible refine (HCq.out A5 m5 c5 us5 _ (by with_reducible assumption) hm5 hP.out).mono ?_); rintro e w6 ⟨rfl, hZ⟩))
              have K6 := Lib.hid hZ.2.2.2.out
              clear hY hZ hP KB HMid HCq K2
              go_wp2_with fail
              go_meet
              exact ⟨rfl, rfl, K6⟩
            · obtain ⟨rfl, k, rfl, hp, hb1⟩ := hc
              obtain ⟨Vm, Em, hm1, hm2, hm3, hm4, hm5⟩ := mid_spec hXlt
              obtain ⟨q1, q2, q3⟩ := cmp_half (S := S) hm4
              have KB := Lib.hid (K2.out.below (below_drew _)).cells
              have HMid : Hid (∀ u, CellsB w A n c ds e0 u → Calls Tryd.prog 29 #[.int .u64 (X0 : Int)] u fun e w' => ∃ (A1 : Option Addr) (m1 c1 : Nat) (us : List Nat), e = .returned (.agg #[.bool false, .slice A1 m1 c1, .int .i64 Em]) ∧ m1 ≤ 140 ∧ CellsB w A n c ds e0 w' ∧ Hid (Dig w' A1 m1 c1 us ∧ D.Bare us ∧ D.val us = Vm)) := fun u hu => by
                refine (hm5 u).mono ?_
                rintro e w' ⟨A1, m1, c1, us, rfl, k1, k2, k3, k4, k5⟩
                exact ⟨A1, m1, c1, us, rfl, k1, (hu.2.2.2.out.below k5).cells, k2, k3, k4⟩
              have HCm : ∀ v, cmpZ S (sz Vm Em) = v → ∀ (A1 : Option Addr) (m1 c1 : Nat) (us : List Nat) (u : World), CellsB w A n c ds e0 u → m1 ≤ 140 → (Dig u A1 m1 c1 us ∧ D.Bare us ∧ D.val us = Vm) →
                  Calls Tryd.prog 27 #[.agg #[.bool false, .slice A n c, .int .i64 e0], .agg #[.bool false, .slice A1 m1 c1, .int .i64 Em]] u fun e w' => e = .returned (.int .i64 v) ∧ CellsB w A n c ds e0 w' := fun v hv A1 m1 c1 us u hu hm hP => by
                have h := hu.2.2.2.out
                refine (rncmp_l v A n c ds e0 A1 m1 c1 us Em u h.2.1 hP.1 ba hP.2.1 hn (by omega) (by rw [hP.2.2]; exact hm1) h1 h2 hm2 hm3 (by rw [hP.2.2, hS]; exact hv)).mono ?_
                rintro e w' ⟨rfl, hb'⟩
                exact ⟨rfl, (h.below hb').cells⟩
              clear hm1 hm2 hm3 hm4 hm5
              have e1 : (X0 : Int) + 1 = (b2 : Int) := by omega
              clear hb1
              have e2 : (X0 : Int) % 2 = 1 := by omega
              have hcm := q2 k
              have HCq := Lib.hid (HCm 0 hcm)
              clear hcm HCm
              go_wp2_with fail
              go_region_held3 (fun w' => w'.cell? ⟨w.heap.size, 0, none⟩ = some (.bool false) ∧ w'.cell? ⟨w.heap.size, 1, none⟩ = some (.slice A n c) ∧ w'.cell? ⟨w.heap.size, 2, none⟩ = some (.int .i64 e0) ∧ Hid (HoldB w A n c ds e0 w'))
                (first | (with_reducible exact KB.out) | (with_reducible assumption))
                (first | (go_at_call 29; (with_reducible refine (HMid.out _ (by first | (with_reducible exact KB.out) | (with_reducible assumption))).mono ?_); rintro e w5 ⟨A5, m5, c5, us5, rfl, hm5, hY, hP⟩) | (go_at_call 27; (with_reducible refine (HCq.out A5 m5 c5 us5 _ (by with_reducible assumption) hm5 hP.out).mono ?_); rintro e w6 ⟨rfl, hZ⟩))
              have K6 := Lib.hid hZ.2.2.2.out
              clear hY hZ hP KB HMid HCq K2
              go_wp2_with fail
              go_meet
              exact ⟨rfl, rfl, K6⟩
            · obtain ⟨rfl, k, rfl, hp, rfl⟩ := hc
              obtain ⟨Vm, Em, hm1, hm2, hm3, hm4, hm5⟩ := mid_spec hXlt
              obtain ⟨q1, q2, q3⟩ := cmp_half (S := S) hm4
              have KB := Lib.hid (K2.out.below (below_drew _)).cells
              have HMid : Hid (∀ u, CellsB w A n c ds e0 u → Calls Tryd.prog 29 #[.int .u64 (b2 : Int)] u fun e w' => ∃ (A1 : Option Addr) (m1 c1 : Nat) (us : List Nat), e = .returned (.agg #[.bool false, .slice A1 m1 c1, .int .i64 Em]) ∧ m1 ≤ 140 ∧ CellsB w A n c ds e0 w' ∧ Hid (Dig w' A1 m1 c1 us ∧ D.Bare us ∧ D.val us = Vm)) := fun u hu => by
                refine (hm5 u).mono ?_
                rintro e w' ⟨A1, m1, c1, us, rfl, k1, k2, k3, k4, k5⟩
                exact ⟨A1, m1, c1, us, rfl, k1, (hu.2.2.2.out.below k5).cells, k2, k3, k4⟩
              have HCm : ∀ v, cmpZ S (sz Vm Em) = v → ∀ (A1 : Option Addr) (m1 c1 : Nat) (us : List Nat) (u : World), CellsB w A n c ds e0 u → m1 ≤ 140 → (Dig u A1 m1 c1 us ∧ D.Bare us ∧ D.val us = Vm) →
                  Calls Tryd.prog 27 #[.agg #[.bool false, .slice A n c, .int .i64 e0], .agg #[.bool false, .slice A1 m1 c1, .int .i64 Em]] u fun e w' => e = .returned (.int .i64 v) ∧ CellsB w A n c ds e0 w' := fun v hv A1 m1 c1 us u hu hm hP => by
                have h := hu.2.2.2.out
                refine (rncmp_l v A n c ds e0 A1 m1 c1 us Em u h.2.1 hP.1 ba hP.2.1 hn (by omega) (by rw [hP.2.2]; exact hm1) h1 h2 hm2 hm3 (by rw [hP.2.2, hS]; exact hv)).mono ?_
                rintro e w' ⟨rfl, hb'⟩
                exact ⟨rfl, (h.below hb').cells⟩
              clear hm1 hm2 hm3 hm4 hm5
              have e2 : (b2 : Int) % 2 = 0 := by omega
              have hcm := q2 k
              have HCq := Lib.hid (HCm 0 hcm)
              clear hcm HCm
              go_wp2_with fail
              go_region_held3 (fun w' => w'.cell? ⟨w.heap.size, 0, none⟩ = some (.bool false) ∧ w'.cell? ⟨w.heap.size, 1, none⟩ = some (.slice A n c) ∧ w'.cell? ⟨w.heap.size, 2, none⟩ = some (.int .i64 e0) ∧ Hid (HoldB w A n c ds e0 w'))
                (first | (with_reducible exact KB.out) | (with_reducible assumption))
                (first | (go_at_call 29; (with_reducible refine (HMid.out _ (by first | (with_reducible exact KB.out) | (with_reducible assumption))).mono ?_); rintro e w5 ⟨A5, m5, c5, us5, rfl, hm5, hY, hP⟩) | (go_at_call 27; (with_reducible refine (HCq.out A5 m5 c5 us5 _ (by with_reducible assumption) hm5 hP.out).mono ?_); rintro e w6 ⟨rfl, hZ⟩))
              have K6 := Lib.hid hZ.2.2.2.out
              clear hY hZ hP KB HMid HCq K2
              go_wp2_with fail
              go_meet
              exact ⟨rfl, rfl, K6⟩
            · obtain ⟨rfl, k, rfl⟩ := hc
              obtain ⟨Vm, Em, hm1, hm2, hm3, hm4, hm5⟩ := mid_spec hXlt
              obtain ⟨q1, q2, q3⟩ := cmp_half (S := S) hm4
              have KB := Lib.hid (K2.out.below (below_drew _)).cells
              have HMid : Hid (∀ u, CellsB w A n c ds e0 u → Calls Tryd.prog 29 #[.int .u64 (b2 : Int)] u fun e w' => ∃ (A1 : Option Addr) (m1 c1 : Nat) (us : List Nat), e = .returned (.agg #[.bool false, .slice A1 m1 c1, .int .i64 Em]) ∧ m1 ≤ 140 ∧ CellsB w A n c ds e0 w' ∧ Hid (Dig w' A1 m1 c1 us ∧ D.Bare us ∧ D.val us = Vm)) := fun u hu => by
                refine (hm5 u).mono ?_
                rintro e w' ⟨A1, m1, c1, us, rfl, k1, k2, k3, k4, k5⟩
                exact ⟨A1, m1, c1, us, rfl, k1, (hu.2.2.2.out.below k5).cells, k2, k3, k4⟩
              have HCm : ∀ v, cmpZ S (sz Vm Em) = v → ∀ (A1 : Option Addr) (m1 c1 : Nat) (us : List Nat) (u : World), CellsB w A n c ds e0 u → m1 ≤ 140 → (Dig u A1 m1 c1 us ∧ D.Bare us ∧ D.val us = Vm) →
                  Calls Tryd.prog 27 #[.agg #[.bool false, .slice A n c, .int .i64 e0], .agg #[.bool false, .slice A1 m1 c1, .int .i64 Em]] u fun e w' => e = .returned (.int .i64 v) ∧ CellsB w A n c ds e0 w' := fun v hv A1 m1 c1 us u hu hm hP => by
                have h := hu.2.2.2.out
                refine (rncmp_l v A n c ds e0 A1 m1 c1 us Em u h.2.1 hP.1 ba hP.2.1 hn (by omega) (by rw [hP.2.2]; exact hm1) h1 h2 hm2 hm3 (by rw [hP.2.2, hS]; exact hv)).mono ?_
                rintro e w' ⟨rfl, hb'⟩
                exact ⟨rfl, (h.below hb').cells⟩
              clear hm1 hm2 hm3 hm4 hm5
              have hcm := q3 k
              have HCq := Lib.hid (HCm (-1) hcm)
              clear hcm HCm
              go_wp2_with fail
              go_region_held3 (fun w' => w'.cell? ⟨w.heap.size, 0, none⟩ = some (.bool false) ∧ w'.cell? ⟨w.heap.size, 1, none⟩ = some (.slice A n c) ∧ w'.cell? ⟨w.heap.size, 2, none⟩ = some (.int .i64 e0) ∧ Hid (HoldB w A n c ds e0 w'))
                (first | (with_reducible exact KB.out) | (with_reducible assumption))
                (first | (go_at_call 29; (with_reducible refine (HMid.out _ (by first | (with_reducible exact KB.out) | (with_reducible assumption))).mono ?_); rintro e w5 ⟨A5, m5, c5, us5, rfl, hm5, hY, hP⟩) | (go_at_call 27; (with_reducible refine (HCq.out A5 m5 c5 us5 _ (by with_reducible assumption) hm5 hP.out).mono ?_); rintro e w6 ⟨rfl, hZ⟩))
              have K6 := Lib.hid hZ.2.2.2.out
              clear hY hZ hP KB HMid HCq K2
              go_wp2_with fail
              go_meet
              exact ⟨rfl, rfl, K6⟩
            · rcases hc with ⟨rfl, rfl, hb1⟩ | ⟨rfl, rfl, hb1⟩ | ⟨rfl, hb1⟩ | ⟨rfl, rfl, hb1⟩ | ⟨rfl, rfl, hb1⟩
              · have e1 : (X0 : Int) + 1 = (b2 : Int) := by omega
                clear hb1
                go_wp2_with fail
                go_meet
                exact ⟨rfl, rfl, K2⟩
              · have e1 : (X0 : Int) + 1 = (b2 : Int) := by omega
                clear hb1
                go_wp2_with fail
                go_meet
                exact ⟨rfl, rfl, K2⟩
              all_goals (
                subst hb1
                obtain rfl : ov2 = false := by rw [← ho2]; exact beq_no (by omega)
                go_wp2_with fail
                go_meet
                exact ⟨rfl, rfl, K2⟩)
        case rest =>
          obtain ⟨w7, rfl⟩ : ∃ w7, w7 = wc := ⟨_, rfl⟩
          obtain ⟨rfl, rfl, K7⟩ := hcut
          clear K2 hcase hov
          rcases HF.out with ⟨rfl, rfl⟩ | ⟨rfl, hF⟩
          · have Hfin := Lib.hid K7.out.2.2
            clear K7 HF Hlow
            go_wp2
            go_ret2
            exact ⟨rfl, Hfin.out⟩
          · obtain ⟨v, hv⟩ : ∃ v, cmpZ S (vX 4503599627370496) = v := ⟨_, rfl⟩
            have hvc : (v = -1 ∧ F = 3) ∨ (0 ≤ v ∧ F = 1) := by
              rw [← hv]
              by_cases k : S < vX 4503599627370496
              · rw [if_pos k] at hF; exact Or.inl ⟨cmpZ_lt k, hF⟩
              · rw [if_neg k] at hF
                refine Or.inr ⟨?_, hF⟩
                rcases Nat.lt_or_eq_of_le (Nat.le_of_not_lt k) with k' | k'
                · rw [cmpZ_gt k']; decide
                · rw [cmpZ_eq k'.symm]; decide
            have a8 := below1 w7 (.cells #[.int .u32 1] 54)
            have n8 := dig_new1 w7 54 1 1 rfl (by decide)
            have K8 := Lib.hid (K7.out.below a8)
            have HG := Lib.hid (rncmp_l v A n c ds e0 _ 1 1 [1] (-1022) _ K8.out.2.1 n8 ba (dbare_one (by decide)) hn (by decide) (by rw [dval_one]; decide) h1 h2 (by decide) (by decide) (by rw [hS, dval_one, sz_norm rfl]; exact hv))
            have x0 := K7.out.1.c0
            have x1 := K7.out.1.c1
            have x2 := K7.out.1.c2
            have Hvc := Lib.hid hvc
            clear hv hvc a8 n8 HF hF Hlow
            go_wp2_with fail
            refine HG.out.mono ?_
            rintro e w9 ⟨rfl, hb9⟩
            have Hfin := Lib.hid (K8.out.below hb9).2.2
            clear hb9 HG K7 K8 x0 x1 x2
            rcases Hvc.out with ⟨rfl, rfl⟩ | ⟨hv0, rfl⟩
            · clear Hvc
              go_wp2
              go_ret2
              exact ⟨rfl, Hfin.out⟩
            · clear Hvc
              go_wp2
              go_ret2
              exact ⟨rfl, Hfin.out⟩
end Go.Proofs.YtjdlnfmeciodnaaDoor

/- planimeterlaw07.alive. -/
namespace Go.Proofs.YtjdlnfmeciodnaaDoor
open Go.RowKit

theorem to_one : toR false (val [9007199254740993]) 0 false 0 = (4845873199050653696, 1, 0) := by
  have hl : low 9007199254740993 = 0 := low_eq (l := 0) (m := 4503599627370496) (by decide)
  have hv : val [9007199254740993] = 9007199254740993 := by decide
  have hm : mk false 9007199254740993 0 = some ⟨false, 9007199254740993, 0⟩ := by
    unfold mk; rw [hl]; rfl
  have hr : rndO false 9007199254740993 0 false 0 = (4845873199050653696, 1) := by decide +kernel
  rw [hv, toR_some (by decide) hm (by decide), hr]
theorem to_none : toR false (val []) 0 true 0 = (0, 0, 1) := by decide

theorem ralive_any (w : World) (hT : Tab w) : Calls Tryd.prog 6 #[] w fun e w' => e = .returned (.bool true) ∧ Below w.heap.size w w' := by
  have a3 := below1 w (.cells #[.int .u64 9007199254740993] 30)
  have n1 := lim_new1 w 30 9007199254740993 9007199254740993 rfl (by decide)
  have H1 := Lib.hid (to_l 4845873199050653696 1 0 false _ 1 1 [9007199254740993] 0 false 0 _ n1 (by decide) (hT.below a3) to_one)
  have HS := Lib.hid a3
  have HT := Lib.hid (hT.below a3)
  clear a3 n1 hT
  go_enter Tryd.func6, Tryd.ntmps6
  go_wp2_with fail
  refine H1.out.mono ?_
  rintro e w1 ⟨rfl, hb⟩
  have HS1 := Lib.hid (HS.out.trans (hb.mono HS.out.size))
  have H2 := Lib.hid (to_l 0 0 1 false none 0 0 [] 0 true 0 w1 (Lim.nil _ _ _) (by decide) (HT.out.below hb) to_none)
  clear hb HS HT H1
  go_wp2_with fail
  refine H2.out.mono ?_
  rintro e w2 ⟨rfl, hb⟩
  have Hfin := Lib.hid (HS1.out.trans (hb.mono HS1.out.size))
  clear hb HS1 H2
  go_wp2
  go_ret
  exact ⟨rfl, Hfin.out⟩
end Go.Proofs.YtjdlnfmeciodnaaDoor

/- The walk of RoundTo. -/
namespace Go.Proofs.YtjdlnfmeciodnaaDoor
open Go.RowKit

/-- The document's To of 0. -/
theorem rdoc_zero (g more : Bool) (A : Option Addr) (c : Nat) (e0 dir : Int) (w : World) :
    Calls Tryd.prog 10 #[.agg #[.bool g, .slice A 0 c, .int .i64 e0], .bool more, .int .i64 dir] w fun e w' => e = .returned (.tuple #[.int .u64 0, .int .i64 0]) ∧ Below w.heap.size w w' := by
  have Hfin := Lib.hid (below1 w (.cells #[.bool false, .slice A 0 c, .int .i64 e0] 28))
  go_enter Tryd.func10, Tryd.ntmps10
  go_wp2
  go_ret2
  exact ⟨rfl, Hfin.out⟩

theorem fits_no (g : Bool) (A : Option Addr) (n c : Nat) (e0 : Int) (w : World) (h : e0 < -1073741824 ∨ 1073741824 < e0) :
    Calls Tryd.prog 9 #[.agg #[.bool g, .slice A n c, .int .i64 e0]] w fun e w' => e = .returned (.bool false) ∧ Below w.heap.size w w' := by
  have H1 := Lib.hid (below1 w (.cells #[.bool g, .slice A n c, .int .i64 e0] 28))
  rcases h with h | h
  · have b1 : decide (-1073741824 ≤ e0) = false := decide_eq_false (by omega)
    clear h
    go_enter Tryd.func9, Tryd.ntmps9
    go_wp2
    go_ret
    exact ⟨rfl, H1.out⟩
  · have b1 : decide (-1073741824 ≤ e0) = true := decide_eq_true (by omega)
    have b2 : decide (e0 ≤ 1073741824) = false := decide_eq_false (by omega)
    clear h
    go_enter Tryd.func9, Tryd.ntmps9
    go_wp2
    go_ret
    exact ⟨rfl, H1.out⟩

theorem rndO_fl (g : Bool) (V : Nat) (e : Int) (more : Bool) (dir : Int) : (rndO g V e more dir).2 ≤ 5 := by
  unfold rndO
  split
  · exact Nat.le_refl _
  · unfold rfin
    split
    · exact Nat.le_refl _
    · unfold fl
      simp only
      split
      · split <;> decide
      · decide

/-- What To tells, by the document's number. -/
theorem to_cases {g more : Bool} {V : Nat} {e0 dir : Int} {d : Dy} {x f : Nat} {E : Int} (hd : nO g V e0 = d) (ht : toR g V e0 more dir = (x, f, E)) :
    ((dir < 0 ∨ 3 < dir) ∧ x = 0 ∧ f = 0 ∧ E = 1) ∨
    (0 ≤ dir ∧ dir ≤ 3 ∧ (d.e < -1073741824 ∨ 1073741824 < d.e) ∧ x = 0 ∧ f = 0 ∧ E = 1) ∨
    (0 ≤ dir ∧ dir ≤ 3 ∧ -1073741824 ≤ d.e ∧ d.e ≤ 1073741824 ∧ d.V = 0 ∧ more = true ∧ x = 0 ∧ f = 0 ∧ E = 1) ∨
    (0 ≤ dir ∧ dir ≤ 3 ∧ -1073741824 ≤ d.e ∧ d.e ≤ 1073741824 ∧ d.V = 0 ∧ more = false ∧ x = 0 ∧ f = 0 ∧ E = 0) ∨
    (0 ≤ dir ∧ dir ≤ 3 ∧ -1073741824 ≤ d.e ∧ d.e ≤ 1073741824 ∧ d.V ≠ 0 ∧ rndO d.neg d.V d.e more dir = (x, f) ∧ f ≤ 5 ∧ E = 0) := by
  unfold toR chk at ht
  by_cases hdir : 0 ≤ dir ∧ dir ≤ 3
  · rw [if_pos hdir, mk_nO, hd] at ht
    by_cases hr : d.e < -1073741824 ∨ 1073741824 < d.e
    · have hV : d.V ≠ 0 := by
        intro h0
        rw [← hd] at h0 hr
        by_cases hV : V = 0
        · rw [hV, nO_zero] at hr
          simp only at hr
          omega
        · rw [nO_pos _ _ hV] at h0
          exact hV (odd_part_zero.1 h0)
      have hn : toldD d.neg d.V d.e = none := by unfold toldD; rw [if_neg hV, if_pos hr]
      rw [hn] at ht
      simp only [Prod.mk.injEq] at ht
      exact Or.inr (Or.inl ⟨hdir.1, hdir.2, hr, ht.1.symm, ht.2.1.symm, ht.2.2.symm⟩)
    · have hf : Fine d := ⟨by omega, by omega, fun h0 => by
        rw [← hd] at h0 ⊢
        by_cases hV : V = 0
        · rw [hV, nO_zero]; exact ⟨rfl, rfl⟩
        · rw [nO_pos _ _ hV] at h0
          exact absurd (odd_part_zero.1 h0) hV⟩
      rw [toldD_self hf] at ht
      simp only at ht
      by_cases h0 : d.V = 0
      · cases more with
        | true =>
          rw [if_pos ⟨h0, rfl⟩] at ht
          simp only [Prod.mk.injEq] at ht
          exact Or.inr (Or.inr (Or.inl ⟨hdir.1, hdir.2, by omega, by omega, h0, rfl, ht.1.symm, ht.2.1.symm, ht.2.2.symm⟩))
        | false =>
          rw [if_neg (fun h => by cases h.2)] at ht
          simp only at ht
          rw [if_pos h0] at ht
          simp only [Prod.mk.injEq] at ht
          exact Or.inr (Or.inr (Or.inr (Or.inl ⟨hdir.1, hdir.2, by omega, by omega, h0, rfl, ht.1.symm, ht.2.1.symm, ht.2.2.symm⟩)))
      · rw [if_neg (fun h => h0 h.1)] at ht
        simp only at ht
        rw [if_neg h0] at ht
        simp only [Prod.mk.injEq] at ht
        refine Or.inr (Or.inr (Or.inr (Or.inr ⟨hdir.1, hdir.2, by omega, by omega, h0, Prod.ext ht.1 ht.2.1, ?_, ht.2.2.symm⟩)))
        rw [← ht.2.1]
        exact rndO_fl _ _ _ _ _
  · rw [if_neg hdir] at ht
    simp only [Prod.mk.injEq] at ht
    exact Or.inl ⟨by omega, ht.1.symm, ht.2.1.symm, ht.2.2.symm⟩

theorem rround_long (g : Bool) (A : Option Addr) (n c : Nat) (e0 : Int) (more : Bool) (dir : Int) (w : World) (hT : Tab w) (h : 40 < n) :
    Calls Tryd.prog 3 #[.agg #[.bool g, .slice A n c, .int .i64 e0], .bool more, .int .i64 dir] w fun e w' => e = .returned (.bool true) ∧ Below w.heap.size w w' := by
  have a1 := below1 w (.cells #[.bool g, .slice A n c, .int .i64 e0] 24)
  have H1 := Lib.hid (ralive_any _ (hT.below a1))
  have HS := Lib.hid a1
  have Hb := Lib.hid (Bd.new w 24 g A n c e0)
  have q1 : decide ((40 : Int) < (n : Int)) = true := decide_eq_true (by omega)
  clear a1 hT h
  go_enter Tryd.func3, Tryd.ntmps3
  go_wp2_with fail
  refine H1.out.mono ?_
  rintro e w1 ⟨rfl, hb⟩
  have k1 := Hb.out.below hb
  have x1 := k1.c1
  have Hfin := Lib.hid (HS.out.trans (hb.mono HS.out.size))
  clear k1 hb H1 Hb HS
  go_wp2
  go_ret
  exact ⟨rfl, Hfin.out⟩

set_option maxHeartbeats 2000000 in
theorem walk_roundTo (g : Bool) (A : Option Addr) (n c : Nat) (xs : List Nat) (e0 : Int) (more : Bool) (dir : Int) (w : World) (hT : Tab w) (hA : Lim w A n c xs) (hi1 : -9223372036854775808 ≤ dir) (hi2 : dir ≤ 9223372036854775807) :
    Calls Tryd.prog 3 #[.agg #[.bool g, .slice A n c, .int .i64 e0], .bool more, .int .i64 dir] w fun e w' => e = .returned (.bool true) ∧ Below w.heap.size w w' := by
  by_cases hn : n ≤ 40
  case neg => exact rround_long g A n c e0 more dir w hT (by omega)
  have a1 := below1 w (.cells #[.bool g, .slice A n c, .int .i64 e0] 24)
  have H1 := Lib.hid (ralive_any _ (hT.below a1))
  have HS := Lib.hid a1
  have Hb := Lib.hid (Bd.new w 24 g A n c e0)
  have HA := Lib.hid (hA.below a1)
  have HT := Lib.hid (hT.below a1)
  have q1 : decide ((40 : Int) < (n : Int)) = false := decide_eq_false (by omega)
  have q1' : decide (40 < n) = false := decide_eq_false (by omega)
  obtain ⟨d, hd⟩ : ∃ d, nO g (val xs) e0 = d := ⟨_, rfl⟩
  obtain ⟨⟨x, f, E⟩, ht⟩ : ∃ t, toR g (val xs) e0 more dir = t := ⟨_, rfl⟩
  have hcase := to_cases hd ht
  have Hd := Lib.hid hd
  have Ht := Lib.hid ht
  obtain ⟨dg, dV, dE⟩ := d
  simp only at hcase
  clear a1 hA hT hd ht
  go_enter Tryd.func3, Tryd.ntmps3
  go_wp2_with fail
  refine H1.out.mono ?_
  rintro e w1 ⟨rfl, hb1⟩
  have k1 := Hb.out.below hb1
  have H2 := rof_any g A n c xs e0 w1 (HA.out.below hb1) (by omega)
  rw [Hd.out] at H2
  have H2 := Lib.hid H2
  have HS1 := Lib.hid (HS.out.trans (hb1.mono HS.out.size))
  have HA1 := Lib.hid (HA.out.below hb1)
  have HT1 := Lib.hid (HT.out.below hb1)
  have Hk1 := Lib.hid k1
  have x0 := k1.c0
  have x1 := k1.c1
  have x2 := k1.c2
  clear k1 hb1 H1 Hb HS HA HT Hd
  go_wp2_with fail
  refine H2.out.mono ?_
  rintro e w2 ⟨A2, m2, c2, ds, rfl, hm2, hl2, hd2, hv2, hb2⟩
  have a3 := below1 w2 (.cells #[.bool dg, .slice A2 m2 c2, .int .i64 dE] 28)
  have hb3 := hb2.trans (a3.mono hb2.size)
  have HS3 := Lib.hid (HS1.out.trans (hb3.mono HS1.out.size))
  have H4 := Lib.hid (to_l x f E g A n c xs e0 more dir _ (HA1.out.below hb3) (by omega) (HT1.out.below hb3) Ht)
  have HN3 := Lib.hid (Bd.new w2 28 dg A2 m2 c2 dE)
  have HL3 := Lib.hid (hl2.below a3)
  have hmz := dnil_iff hl2 hd2
  simp only at hv2
  rw [hv2] at hmz
  have HD2 : Hid (D.Bare ds ∧ D.val ds = dV) := ⟨hd2, hv2⟩
  have hkd := Hk1.out.below hb2
  clear x0 x1 x2 hl2 hd2 hv2 hb3 a3 HS1 HA1 HT1 H2 Hk1 Ht hb2
  have x0 := fun o => (hkd.alloc o).c0
  have x1 := fun o => (hkd.alloc o).c1
  have x2 := fun o => (hkd.alloc o).c2
  clear hkd
  go_wp2_with fail
  refine H4.out.mono ?_
  rintro e w4 ⟨rfl, hb4⟩
  have HS4 := Lib.hid (HS3.out.trans (hb4.mono HS3.out.size))
  have HN4 := Lib.hid (HN3.out.below hb4)
  have HL4 := Lib.hid (HL3.out.below hb4)
  clear hb4 HS3 HN3 HL3 H4 x0 x1 x2
  have x0 := HN4.out.c0
  have x1 := HN4.out.c1
  have x2 := HN4.out.c2
  rcases hcase with ⟨hdir, rfl, rfl, rfl⟩ | ⟨hd0, hd3, hE, rfl, rfl, rfl⟩ | ⟨hd0, hd3, hE1, hE2, hV, rfl, rfl, rfl, rfl⟩ | ⟨hd0, hd3, hE1, hE2, hV, rfl, rfl, rfl, rfl⟩ | ⟨hd0, hd3, hE1, hE2, hV, hR, hf5, rfl⟩
  · clear HN4 HL4 HD2 hmz hm2
    rcases hdir with hdir | hdir
    · go_wp2
      go_ret
      exact ⟨rfl, HS4.out⟩
    · have q2 : decide (dir < 0) = false := decide_eq_false (by omega)
      go_wp2
      go_ret
      exact ⟨rfl, HS4.out⟩
  · have HF := Lib.hid (fits_no dg A2 m2 c2 dE w4 hE)
    have q2 : decide (dir < 0) = false := decide_eq_false (by omega)
    have q3 : decide (3 < dir) = false := decide_eq_false (by omega)
    clear HN4 HL4 HD2 hmz hm2 hE hd0 hd3
    go_wp2_with fail
    refine HF.out.mono ?_
    rintro e w5 ⟨rfl, hb5⟩
    have Hfin := Lib.hid (HS4.out.trans (hb5.mono HS4.out.size))
    clear hb5 HF HS4 x0 x1 x2
    go_wp2
    go_ret
    exact ⟨rfl, Hfin.out⟩
  · have HF := Lib.hid (fits_yes dg A2 m2 c2 dE w4 hE1 hE2)
    have q2 : decide (dir < 0) = false := decide_eq_false (by omega)
    have q3 : decide (3 < dir) = false := decide_eq_false (by omega)
    obtain rfl : m2 = 0 := hmz.2 hV
    clear HL4 HD2 hmz hm2 hE1 hE2 hd0 hd3 hV
    go_wp2_with fail
    refine HF.out.mono ?_
    rintro e w5 ⟨rfl, hb5⟩
    have Hfin := Lib.hid (HS4.out.trans (hb5.mono HS4.out.size))
    have y1 := (HN4.out.below hb5).c1
    clear hb5 HF HS4 x0 x1 x2 HN4
    go_wp2
    go_ret
    exact ⟨rfl, Hfin.out⟩
  · have HF := Lib.hid (fits_yes dg A2 m2 c2 dE w4 hE1 hE2)
    have q2 : decide (dir < 0) = false := decide_eq_false (by omega)
    have q3 : decide (3 < dir) = false := decide_eq_false (by omega)
    obtain rfl : m2 = 0 := hmz.2 hV
    clear HL4 HD2 hmz hm2 hE1 hE2 hd0 hd3 hV
    go_wp2_with fail
    refine HF.out.mono ?_
    rintro e w5 ⟨rfl, hb5⟩
    have HS5 := Lib.hid (HS4.out.trans (hb5.mono HS4.out.size))
    have HN5 := Lib.hid (HN4.out.below hb5)
    clear hb5 HF HS4 x0 x1 x2 HN4
    have x0 := HN5.out.c0
    have x1 := HN5.out.c1
    have x2 := HN5.out.c2
    go_wp2_with fail
    refine (rdoc_zero dg false A2 c2 dE dir w5).mono ?_
    rintro e w6 ⟨rfl, hb6⟩
    have Hfin := Lib.hid (HS5.out.trans (hb6.mono HS5.out.size))
    clear hb6 HS5 HN5 x0 x1 x2
    go_wp2
    go_ret
    exact ⟨rfl, Hfin.out⟩
  · have HF := Lib.hid (fits_yes dg A2 m2 c2 dE w4 hE1 hE2)
    have q2 : decide (dir < 0) = false := decide_eq_false (by omega)
    have q3 : decide (3 < dir) = false := decide_eq_false (by omega)
    have q4 : ((m2 : Int) == 0) = false := beq_no (by intro h; exact hV (hmz.1 (by omega)))
    have hlow := low_is hV hE1 hE2
    rw [rndO_S dg more dir hV hE1 hE2 hlow] at hR
    have HDoc : Hid (∀ u, Dig u A2 m2 c2 ds → Calls Tryd.prog 10 #[.agg #[.bool dg, .slice A2 m2 c2, .int .i64 dE], .bool more, .int .i64 dir] u fun e w' => e = .returned (.tuple #[.int .u64 (x : Int), .int .i64 (f : Int)]) ∧ Below u.heap.size u w') := fun u hu =>
      rdoc_l x f (lowX dV dE) dg more A2 m2 c2 ds dE dir u hu HD2.out.1 (by omega) (by rw [HD2.out.2]; exact hV) hE1 hE2 hd0 hd3 (by rw [HD2.out.2]; exact hlow) (by rw [HD2.out.2]; exact hR)
    have r1 : ((x : Int) == (x : Int)) = true := by simp
    have r2 : ((f : Int) == (f : Int)) = true := by simp
    clear HD2 hmz hE1 hE2 hV hlow hR
    cases more with
    | false =>
      go_wp2_with fail
      refine HF.out.mono ?_
      rintro e w5 ⟨rfl, hb5⟩
      have HS5 := Lib.hid (HS4.out.trans (hb5.mono HS4.out.size))
      have HN5 := Lib.hid (HN4.out.below hb5)
      have HG := Lib.hid (HDoc.out w5 (HL4.out.below hb5))
      clear hb5 HF HS4 x0 x1 x2 HN4 HL4 HDoc
      have x0 := HN5.out.c0
      have x1 := HN5.out.c1
      have x2 := HN5.out.c2
      go_wp2_with fail
      refine HG.out.mono ?_
      rintro e w6 ⟨rfl, hb6⟩
      have Hfin := Lib.hid (HS5.out.trans (hb6.mono HS5.out.size))
      clear hb6 HS5 HN5 x0 x1 x2 HG
      go_wp2
      go_ret
      exact ⟨rfl, Hfin.out⟩
    | true =>
      go_wp2_with fail
      refine HF.out.mono ?_
      rintro e w5 ⟨rfl, hb5⟩
      have HS5 := Lib.hid (HS4.out.trans (hb5.mono HS4.out.size))
      have HN5 := Lib.hid (HN4.out.below hb5)
      have HG := Lib.hid (HDoc.out w5 (HL4.out.below hb5))
      clear hb5 HF HS4 x0 x1 x2 HN4 HL4 HDoc
      have x0 := HN5.out.c0
      have x1 := HN5.out.c1
      have x2 := HN5.out.c2
      go_wp2_with fail
      refine HG.out.mono ?_
      rintro e w6 ⟨rfl, hb6⟩
      have Hfin := Lib.hid (HS5.out.trans (hb6.mono HS5.out.size))
      clear hb6 HS5 HN5 x0 x1 x2 HG
      go_wp2
      go_ret
      exact ⟨rfl, Hfin.out⟩
end Go.Proofs.YtjdlnfmeciodnaaDoor

/- From what the form reads to what the walks ask: a dyad that came in. -/
namespace Go.Proofs.YtjdlnfmeciodnaaDoor
open Go.ChangeShapes Go.WideShapes Go.ChangeAt Go.RowKit Go.Joins

theorem cellsDy : Tryd.prog.cellsOf 24 = 3 := by kernel_rfl

set_option maxRecDepth 20000 in
theorem dyad_of_trod {H : Type} {enc : TypeId × Value → H} {W : World} {base : Nat} {v : Value} {d : DataW H} {p : List MemPlace}
    (hv : Value.okWide Tryd.prog W .any base 24 v) (h : DataW.Trod enc Tryd.prog W 0 (fun _ => true) true 24 v d p) :
    ∃ (g : Bool) (A : Option Addr) (n c : Nat) (e : Int) (xs : List Nat), v = .agg #[.bool g, .slice A n c, .int .i64 e] ∧ Lim W A n c xs := by
  obtain ⟨v0, v1, v2, y0, y1, y2, m, rfl, rfl, rfl, hy0, hy1, hy2⟩ := open_agg3 Tryd.underlying24 (by kernel_rfl) cellsDy hv h
  obtain ⟨g, e0, _⟩ := DataW.trod_bool Tryd.underlying4 hy0
  obtain ⟨e, e2, _⟩ := DataW.trod_int Tryd.underlying3 hy2
  obtain ⟨A, n, c, e1⟩ := slice_form Tryd.underlying22 hy1
  simp at e0 e1 e2
  subst e0 e1 e2
  have h1 : DataW.Trod enc Tryd.prog W 0 (fun _ => true) true 22 (.slice A n c) y1.1 y1.2 := ⟨m, by simpa [Value.cells] using hy1⟩
  obtain ⟨xs, hx, _⟩ := lim_of_trod h1
  exact ⟨g, A, n, c, e, xs, rfl, hx⟩
end Go.Proofs.YtjdlnfmeciodnaaDoor
