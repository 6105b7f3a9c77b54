/- The walks of planimeterref01.Num and of planimeterref02.Mul, Pow. -/
import Derived.Test.YtkgbgmhkbigjhaaDoorWRAdd
import Derived.Test.YtkgbgmhkbigjhaaDoorPMath
import Derived.Test.YtkgbgmhkbigjhaaDoorLaws
namespace Go.Proofs.YtkgbgmhkbigjhaaDoor
open Go.RowKit

theorem D.val_set (zs : List Nat) (k z : Nat) (hk : k < zs.length) : D.val (zs.set k z) + D.pw k * zs.getD k 0 = D.val zs + D.pw k * z := by
  induction zs generalizing k with
  | nil => simp at hk
  | cons x xs ih =>
    cases k with
    | zero => rw [List.set_cons_zero, D.val, D.val, D.pw_zero, D.getD_cons_zero]; omega
    | succ k =>
      rw [List.length_cons] at hk
      have := ih k (by omega)
      rw [List.set_cons_succ, D.val, D.val, D.pw_succ, D.getD_cons_succ, Nat.mul_assoc, Nat.mul_assoc]
      omega
theorem getD_set (zs : List Nat) (k z j : Nat) (hk : k < zs.length) : (zs.set k z).getD j 0 = if j = k then z else zs.getD j 0 := by
  rw [List.getD_eq_getElem?_getD, List.getD_eq_getElem?_getD, List.getElem?_set]
  by_cases h : k = j
  · subst h; simp [hk]
  · rw [if_neg h, if_neg (fun e => h e.symm)]
theorem D.Words.set {zs : List Nat} (h : D.Words zs) (k : Nat) {z : Nat} (hz : z < 65536) : D.Words (zs.set k z) := by
  intro x hx
  rcases List.mem_or_eq_of_mem_set hx with h1 | h1
  · exact h x h1
  · rw [h1]; exact hz
theorem D.getD_of_lt {zs : List Nat} {k : Nat} (h : D.val zs < D.pw k) : zs.getD k 0 = 0 := by
  apply D.getD_of_tl
  rcases Nat.lt_or_ge k (D.tl zs) with h1 | h1
  · obtain ⟨j, hj⟩ : ∃ j, D.tl zs = j + 1 := ⟨D.tl zs - 1, by omega⟩
    have h2 := D.val_pos_of_tl hj
    have h3 := D.pw_mono (show k ≤ j by omega)
    omega
  · exact h1
theorem D.val_zeros (L : Nat) : D.val (List.replicate L 0) = 0 := by
  induction L with
  | zero => rfl
  | succ L ih => rw [List.replicate_succ, D.val, ih]

/-- A row of the call's own, L numbers long, that is turned in place: it holds zs; below block g nothing has turned. -/
def Keep (kd : IntKind) (w wr : World) (g t L : Nat) (zs : List Nat) : Prop :=
  Below g w wr ∧ wr.rowIs g t L (fun j => .int kd ((zs.getD j 0 : Nat) : Int)) ∧ zs.length = L
section
variable {kd : IntKind} {w wr : World} {g t L : Nat} {zs : List Nat}
theorem Keep.below (h : Keep kd w wr g t L zs) : Below g w wr := h.1
theorem Keep.len (h : Keep kd w wr g t L zs) : zs.length = L := h.2.2
theorem Keep.cell (h : Keep kd w wr g t L zs) {j : Nat} (hj : j < L) : wr.cell? ⟨g, j, none⟩ = some (.int kd ((zs.getD j 0 : Nat) : Int)) := h.2.1.cell hj
theorem Keep.frozen (h : Keep kd w wr g t L zs) (j : Nat) : wr.frozen? ⟨g, j, none⟩ = false := h.2.1.frozen j
theorem Keep.start (kd : IntKind) (w : World) (t L : Nat) : Keep kd w (w.alloc (.cells (madeCells #[.int kd 0] L) t)) w.heap.size t L (List.replicate L 0) :=
  ⟨(Below.refl _ _).alloc (Nat.le_refl _) _, (World.rowIs_made w (.int kd 0) L t).congr (fun j hj => by rw [List.getD_eq_getElem?_getD, List.getElem?_replicate, if_pos hj]; rfl), List.length_replicate⟩
theorem Keep.set (h : Keep kd w wr g t L zs) {z k : Nat} (hk : k < L) : Keep kd w (wr.setCell ⟨g, k, none⟩ (.int kd (z : Int))) g t L (zs.set k z) :=
  ⟨h.1.setCell (Nat.le_refl _) _, (h.2.1.set _ _).congr (fun j _ => by
    rw [getD_set zs k z j (by rw [h.2.2]; exact hk)]
    split <;> rfl), by rw [List.length_set]; exact h.2.2⟩
theorem Keep.drewN (h : Keep kd w wr g t L zs) (k : Nat) : Keep kd w (wr.drewN k) g t L zs := ⟨below_drewN h.1 k, h.2.1, h.2.2⟩
theorem Keep.row (h : Keep kd w wr g t L zs) : Row kd wr (some ⟨g, 0, none⟩) L L zs :=
  ⟨h.2.2, Nat.le_refl _, fun _ => ⟨g, 0, rfl, h.2.1.lt, fun k hk => by rw [Nat.zero_add]; exact h.cell hk⟩⟩
end

theorem dmul_step {x y o cn d c2 j V Z T U : Nat} (hs : d + 65536 * c2 = o + cn + x * y) (hset : U + D.pw j * o = Z + D.pw j * d) (h : Z + D.pw j * cn = V + T) : U + D.pw (j + 1) * c2 = V + (T + D.pw j * (x * y)) := by
  have e : D.pw (j + 1) * c2 = D.pw j * (65536 * c2) := by rw [D.pw_succ, Nat.mul_comm 65536, Nat.mul_assoc]
  have e2 : D.pw j * (d + 65536 * c2) = D.pw j * (o + cn + x * y) := by rw [hs]
  rw [Nat.mul_add, Nat.mul_add, Nat.mul_add] at e2
  omega
theorem D.mul_lt {us bs : List Nat} (hu : D.Words us) (hb : D.Words bs) (i : Nat) (hi : i ≤ us.length) : D.val (us.take i) * D.val bs < D.pw (i + bs.length) := by
  rw [D.pw_add]
  have h1 := D.val_lt (hu.take i)
  rw [List.length_take, Nat.min_eq_left hi] at h1
  exact Nat.mul_lt_mul'' h1 (D.val_lt hb)

set_option maxHeartbeats 4000000 in
set_option maxRecDepth 100000 in
theorem rmul_any (A : Option Addr) (n c : Nat) (us : List Nat) (B : Option Addr) (m d : Nat) (bs : List Nat) (w : World) (hA : Dig w A n c us) (hB : Dig w B m d bs) (hn : n ≤ 100000) (hm : m ≤ 100000) :
    Calls Tryd.prog 28 #[.slice A n c, .slice B m d] w (DTells w (D.val us * D.val bs) (n + m + 1)) := by
  have HA := Lib.hid hA
  have HB := Lib.hid hB
  obtain ⟨L, hL⟩ : ∃ L, n + m + 1 = L := ⟨_, rfl⟩
  rw [hL]
  have hmk := run_make_row' (P := Tryd.prog) 27 49 (.int .u32 0) 4 Tryd.underlying27 info32 rfl .i64 .i64 L (by omega) (by omega)
  have e0 : (n : Int) + (m : Int) + 1 = (L : Int) := by omega
  clear hA hB
  go_enter Tryd.func28, Tryd.ntmps28
  go_wp2
  clear hmk e0
  go_loopw [6] (fun i wr => ∃ (k : Nat) (os : List Nat), k ≤ n ∧ i = .int .i64 k ∧ Hid (Keep .u32 w wr w.heap.size 49 L os) ∧ Hid (D.Words os) ∧ Hid (D.val os = D.val (us.take k) * D.val bs)) (fun i _ => n - (intOf i).toNat)
  case atStart => exact ⟨0, List.replicate L 0, Nat.zero_le _, rfl, Keep.start _ w _ _, fun x hx => by rw [(List.mem_replicate.1 hx).2]; decide, by rw [D.val_zeros]; simp [Hid, D.val]⟩
  case round =>
    obtain ⟨w1, rfl⟩ : ∃ w1, w1 = wr := ⟨_, rfl⟩
    obtain ⟨i, os, hi, rfl, HK, HW, HV⟩ := hrel
    by_cases hlt : i < n
    · obtain ⟨x, hx⟩ : ∃ x, us.getD i 0 = x := ⟨_, rfl⟩
      have hxw := HA.out.words.getD i
      rw [hx] at hxw
      have Hx := Lib.hid hx
      have Hz : Hid (os.getD (i + m) 0 = 0) := by
        apply D.getD_of_lt
        rw [HV.out]
        have := D.mul_lt HA.out.words HB.out.words i (by have := HA.out.len; omega)
        rw [HB.out.len] at this
        exact this
      clear hx
      go_wp2
      go_loopw [7, 8] (fun s7 s8 wr2 => ∃ (k cn : Nat) (zs : List Nat), k ≤ m + 1 ∧ (k = m + 1 → cn = 0) ∧ cn < 65536 ∧ s7 = .int .u32 cn ∧ s8 = .int .i64 k ∧ Hid (Keep .u32 w wr2 w.heap.size 49 L zs) ∧ Hid (D.Words zs) ∧ Hid (∀ j, i + k ≤ j → zs.getD j 0 = os.getD j 0) ∧ Hid (D.val zs + D.pw (i + k) * cn = D.val os + D.pw i * (x * D.val (bs.take k)))) (fun _ s8 _ => m + 1 - (intOf s8).toNat)
      case atStart => exact ⟨0, 0, os, Nat.zero_le _, fun _ => rfl, by decide, rfl, rfl, HK, HW, fun _ _ => rfl, by simp [Hid, D.val]⟩
      case round =>
        obtain ⟨w2, rfl⟩ : ∃ w2, w2 = wr := ⟨_, rfl⟩
        obtain ⟨k, cn, zs, hk, hkc, hcn, rfl, rfl, HK2, HW2, HT2, HE2⟩ := hrel
        by_cases hkm : k < m
        · obtain ⟨j, hj⟩ : ∃ j, i + k = j := ⟨_, rfl⟩
          have ej : (i : Int) + (k : Int) = (j : Int) := by omega
          have hjL : j < L := by omega
          have c1 := HK2.out.cell hjL
          have c2 := HK2.out.frozen j
          have how := HW2.out.getD j
          obtain ⟨b, o, hAe, hb, hcl⟩ := HA.out.at_ (by omega)
          subst hAe
          have c3 := (HK2.out.below.cell (p := ⟨b, o + i, none⟩) hb).trans (hcl i hlt)
          clear hcl
          obtain ⟨b', o', hBe, hb', hcl⟩ := HB.out.at_ (by omega)
          subst hBe
          have c4 := (HK2.out.below.cell (p := ⟨b', o' + k, none⟩) hb').trans (hcl k hkm)
          clear hcl
          have hyw := HB.out.words.getD k
          rw [Hx.out] at c3
          obtain ⟨y, hy⟩ : ∃ y, bs.getD k 0 = y := ⟨_, rfl⟩
          rw [hy] at c4 hyw
          obtain ⟨oo, hoo⟩ : ∃ y, zs.getD j 0 = y := ⟨_, rfl⟩
          rw [hoo] at c1 how
          have hxy : x * y ≤ 65535 * 65535 := Nat.mul_le_mul (by omega) (by omega)
          obtain ⟨xy, hxye⟩ : ∃ v, x * y = v := ⟨_, rfl⟩
          have exy : (x : Int) * (y : Int) = (xy : Int) := by rw [← hxye]; exact (Int.natCast_mul x y).symm
          rw [hxye] at hxy
          obtain ⟨dg, cy, hdc, hdg, hcy⟩ : ∃ dg cy, dg + 65536 * cy = oo + cn + xy ∧ dg < 65536 ∧ cy < 65536 := ⟨(oo + cn + xy) % 65536, (oo + cn + xy) / 65536, by omega, by omega, by omega⟩
          have e1 : ((oo : Int) + (cn : Int) + (xy : Int)) % 65536 = (dg : Int) := by omega
          have e2 : ((oo : Int) + (cn : Int) + (xy : Int)) / 65536 = (cy : Int) := by omega
          have HK3 : Hid (∀ q, Keep .u32 w ((w2.drewN q).setCell ⟨w.heap.size, j, none⟩ (.int .u32 (dg : Int))) w.heap.size 49 L (zs.set j dg)) := fun q => (HK2.out.drewN q).set (z := dg) hjL
          have HE3 : Hid (D.val (zs.set j dg) + D.pw (i + (k + 1)) * cy = D.val os + D.pw i * (x * D.val (bs.take (k + 1)))) := by
            have h1 := D.val_set zs j dg (by rw [HK2.out.len]; exact hjL)
            rw [hoo] at h1
            have h2 := HE2.out
            rw [hj] at h2
            rw [← hxye] at hdc
            have h3 := dmul_step hdc h1 h2
            show _ = _
            rw [D.val_take_succ', hy, ← Nat.add_assoc, hj, h3, Nat.mul_add, Nat.mul_add, ← hj, D.pw_add, Nat.mul_left_comm x, Nat.mul_assoc]
          have HT3 : Hid (∀ j', i + (k + 1) ≤ j' → (zs.set j dg).getD j' 0 = os.getD j' 0) := fun j' hj' => by
            rw [getD_set zs j dg j' (by rw [HK2.out.len]; exact hjL), if_neg (by omega)]
            exact HT2.out j' (by omega)
          have HW3 : Hid (D.Words (zs.set j dg)) := HW2.out.set j hdg
          clear hxye hdc hoo hy hj HE2 HT2
          go_wp2
          go_quiet (fail)
          go_wp2
          go_roundw
          case rel => exact ⟨k + 1, cy, zs.set j dg, by omega, fun h => by omega, hcy, by rw [e2], by go_num, HK3.out _, HW3, HT3, HE3⟩
          case measure => simp [intOf]; omega
        · by_cases hc0 : cn = 0
          · subst hc0
            have HV2 : Hid (D.val zs = D.val (us.take (i + 1)) * D.val bs) := by
              have h1 := HE2.out
              rw [Nat.mul_zero, Nat.add_zero, List.take_of_length_le (by have := HB.out.len; omega), HV.out] at h1
              show _ = _
              rw [D.val_take_succ', Hx.out, Nat.add_mul, h1, Nat.mul_assoc]
            have b1 : decide ((k : Int) < (m : Int)) = false := by simp; omega
            clear HE2 HT2 hkc
            go_wp2
            go_roundw
            case rel => exact ⟨i + 1, zs, by omega, by go_num, HK2, HW2, HV2⟩
            case measure => simp [intOf]; omega
          · obtain rfl : k = m := by
              have : k ≠ m + 1 := fun h => hc0 (hkc h)
              omega
            obtain ⟨j, hj⟩ : ∃ j, i + k = j := ⟨_, rfl⟩
            have ej : (i : Int) + (k : Int) = (j : Int) := by omega
            have hjL : j < L := by omega
            have c1 := HK2.out.cell hjL
            have c2 := HK2.out.frozen j
            have h0 : zs.getD j 0 = 0 := by rw [HT2.out j (by omega), ← hj]; exact Hz.out
            rw [h0] at c1
            have HK3 := Lib.hid (HK2.out.set (z := cn) hjL)
            have HE3 : Hid (D.val (zs.set j cn) + D.pw (i + (k + 1)) * 0 = D.val os + D.pw i * (x * D.val (bs.take (k + 1)))) := by
              have h1 := D.val_set zs j cn (by rw [HK2.out.len]; exact hjL)
              have h2 := HE2.out
              rw [h0] at h1
              rw [hj, List.take_of_length_le (by have := HB.out.len; omega)] at h2
              show _ = _
              rw [List.take_of_length_le (by have := HB.out.len; omega)]
              omega
            have HT3 : Hid (∀ j', i + (k + 1) ≤ j' → (zs.set j cn).getD j' 0 = os.getD j' 0) := fun j' hj' => by
              rw [getD_set zs j cn j' (by rw [HK2.out.len]; exact hjL), if_neg (by omega)]
              exact HT2.out j' (by omega)
            have HW3 : Hid (D.Words (zs.set j cn)) := HW2.out.set j hcn
            have b1 : decide ((k : Int) < (k : Int)) = false := by simp
            have b2 : decide ((0 : Int) < (cn : Int)) = true := by simp; omega
            have b3 : 0 < cn := by omega
            have e1 : (cn : Int) % 65536 = (cn : Int) := by omega
            have e2 : (cn : Int) / 65536 = 0 := by omega
            clear h0 hj HE2 HT2 hkc hc0
            go_wp2
            go_roundw
            case rel => exact ⟨k + 1, 0, zs.set j cn, by omega, fun _ => rfl, by decide, by first | rfl | (rw [e2]; rfl), by go_num, HK3, HW3, HT3, HE3⟩
            case measure => simp [intOf]
    · obtain rfl : i = n := by omega
      have hV : D.val os = D.val us * D.val bs := by
        have h1 := HV.out
        rw [List.take_of_length_le (by have := HA.out.len; omega)] at h1
        exact h1
      have hd : Dig w1 (some ⟨w.heap.size, 0, none⟩) L L os := ⟨HK.out.row, HW.out⟩
      have hN := norm_any _ L L os w1 hd (by omega)
      rw [hV] at hN
      have HN := Lib.hid hN
      have hb := HK.out.below
      clear hV hd hN
      go_wp2_with fail
      refine HN.out.mono ?_
      rintro e w2 ⟨A1, m1, c1, es, rfl, h1, h2, h3, h4, h5⟩
      have Hfin : Hid (DTells w (D.val us * D.val bs) L (.returned (.slice A1 m1 c1)) w2) := ⟨A1, m1, c1, es, rfl, h1, h2, h3, h4, hb.trans (h5.mono hb.size)⟩
      clear h1 h2 h3 h4 h5
      go_wp2
      go_ret
      exact Hfin.out

theorem num_any (x : Nat) (hx : x < 18446744073709551616) (w : World) : Calls Tryd.prog 13 #[.int .u64 (x : Int)] w (DTells w x 4) := by
  have hT := to_any _ 1 1 [x] _ (lim_new1 w 33 x x rfl hx) (by decide)
  rw [show val [x] = x from by simp [val]] at hT
  have HT := Lib.hid hT
  clear hT
  go_enter Tryd.func13, Tryd.ntmps13
  go_wp2_with fail
  refine HT.out.mono ?_
  rintro e w2 ⟨A1, m1, c1, es, rfl, h1, h2, h3, h4, h5⟩
  have Hfin : Hid (DTells w x 4 (.returned (.slice A1 m1 c1)) w2) := ⟨A1, m1, c1, es, rfl, h1, h2, h3, h4, ((Below.refl _ _).alloc (Nat.le_refl _) _).trans (h5.mono (by simp))⟩
  clear h1 h2 h3 h4 h5
  go_wp2
  go_ret
  exact Hfin.out

theorem D.len_of_lt {es : List Nat} {M : Nat} (hb : D.Bare es) (h : D.val es < D.pw M) : es.length ≤ M := by
  rcases Nat.lt_or_ge M es.length with h1 | h1
  · have h2 := D.val_pos_of_tl (xs := es) (j := es.length - 1) (by rw [hb]; omega)
    have h3 := D.pw_mono (show M ≤ es.length - 1 by omega)
    omega
  · exact h1

set_option maxHeartbeats 1000000 in
theorem rpow_any (M : Nat) (A : Option Addr) (n c : Nat) (us : List Nat) (k : Nat) (w : World) (hA : Dig w A n c us) (hX : 1 ≤ D.val us) (hn : n ≤ 10000) (hk : k ≤ 10000) (hM : M ≤ 10000) (hM1 : 1 ≤ M) (hlt : D.val us ^ k < D.pw M) :
    Calls Tryd.prog 14 #[.slice A n c, .int .i64 (k : Int)] w (DTells w (D.val us ^ k) (M + 4)) := by
  have HA := Lib.hid hA
  have Hlt := Lib.hid hlt
  obtain ⟨X, hXe⟩ : ∃ X, D.val us = X := ⟨_, rfl⟩
  rw [hXe] at hX hlt
  rw [hXe]
  have HX := Lib.hid hXe
  have HX1 := Lib.hid hX
  have Hlt := Lib.hid hlt
  have HN := Lib.hid (num_any 1 (by decide) w)
  clear hA hXe hX hlt
  go_enter Tryd.func14, Tryd.ntmps14
  go_wp2_with fail
  refine HN.out.mono ?_
  rintro e w1 ⟨A1, m1, c1, es, rfl, h1, h2, h3, h4, h5⟩
  have Hs : Hid (Dig w1 A1 m1 c1 es ∧ D.Bare es ∧ D.val es = 1) := ⟨h2, h3, h4⟩
  clear h2 h3 h4
  go_wp2
  go_loopw [5, 6] (fun v i wr => ∃ (j m2 c2 : Nat) (A2 : Option Addr) (fs : List Nat), j ≤ k ∧ i = .int .i64 j ∧ v = .slice A2 m2 c2 ∧ m2 ≤ M + 4 ∧ Hid (Dig wr A2 m2 c2 fs) ∧ Hid (D.Bare fs) ∧ Hid (D.val fs = X ^ j) ∧ Below w.heap.size w wr) (fun _ i _ => k - (intOf i).toNat)
  case atStart => exact ⟨0, m1, c1, A1, es, Nat.zero_le _, rfl, rfl, by omega, Hs.out.1, Hs.out.2.1, by rw [Nat.pow_zero]; exact Hs.out.2.2, h5⟩
  case round =>
    obtain ⟨w2, rfl⟩ : ∃ w2, w2 = wr := ⟨_, rfl⟩
    obtain ⟨j, m2, c2, A2, fs, hj, rfl, rfl, hm2, Hf, Hbf, HV, hb⟩ := hrel
    by_cases hjk : j < k
    · have hR := rmul_any A2 m2 c2 fs A n c us w2 Hf.out (HA.out.below hb) (by omega) (by omega)
      rw [HV.out, HX.out, ← Nat.pow_succ] at hR
      have HR := Lib.hid hR
      clear hR
      go_wp2_with fail
      refine HR.out.mono ?_
      rintro e w3 ⟨A3, m3, c3, gs, rfl, g1, g2, g3, g4, g5⟩
      have hm3 : m3 ≤ M := by
        have hle : X ^ (j + 1) ≤ X ^ k := Nat.pow_le_pow_right HX1.out (by omega)
        have := D.len_of_lt g3 (M := M) (by rw [g4]; exact Nat.lt_of_le_of_lt hle Hlt.out)
        rw [g2.len] at this
        exact this
      have Hg : Hid (Dig w3 A3 m3 c3 gs) := g2
      have Hbg : Hid (D.Bare gs) := g3
      have HVg : Hid (D.val gs = X ^ (j + 1)) := g4
      have hb3 := hb.trans (g5.mono hb.size)
      clear g2 g3 g4 g5 hb
      go_wp2
      go_roundw
      case rel => exact ⟨j + 1, m3, c3, A3, gs, by omega, by go_num, rfl, by omega, Hg, Hbg, HVg, hb3⟩
      case measure => simp [intOf]; omega
    · obtain rfl : j = k := by omega
      have Hfin : Hid (DTells w (X ^ j) (M + 4) (.returned (.slice A2 m2 c2)) w2) := ⟨A2, m2, c2, fs, rfl, hm2, Hf.out, Hbf.out, HV.out, hb⟩
      clear HV
      go_wp2
      go_ret
      exact Hfin.out
end Go.Proofs.YtkgbgmhkbigjhaaDoor
