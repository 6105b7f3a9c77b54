/- The walk of the law SeriesAdds (written by law_sadds.py). -/
import Derived.Test.YtngldpmnbdgkiaaDoorSrAlive
import Derived.Test.YtngldpmnbdgkiaaDoorSrAddsM
namespace Go.Proofs.YtngldpmnbdgkiaaDoor
open Go.RowKit

theorem blen_32 {x : Nat} (h : x < 4294967296) : blen x ≤ 32 := blen_le_iff.2 h
theorem blen_34 : blen 12884901888 ≤ 34 := blen_le_iff.2 (by decide)
theorem val_34 : val [12884901888] = 12884901888 := by simp [val]
theorem val_one (x : Nat) : val [x] = x := by simp [val]
theorem len_small {w : World} {A : Option Addr} {n c k M : Nat} {xs : List Nat} (hA : Lim w A n c xs) (hb : Bare xs) (hv : val xs < 2 ^ k) (hk : k ≤ 64 * M) : n ≤ M := by
  have h := bare_len hA.words hb
  have h2 := blen_le_iff.2 hv
  rw [hA.len] at h
  omega

set_option maxHeartbeats 4000000 in
set_option maxRecDepth 20000 in
theorem sadds_any (HEx : ExpMeets) (HAt : AtanhMeets) (HLn : Ln2Meets) (a b s : Nat) (w : World) (hT : Tab w) (ha : a ≤ 4294967295) (hb : b ≤ 4294967295) (hs : s ≤ 255) :
    Calls Tryd.prog 6 #[.int .u32 (a : Int), .int .u32 (b : Int), .int .u8 (s : Int)] w fun e w' => e = .returned (.bool true) ∧ Below w.heap.size w w' := by
  have H1 := Lib.hid (salive_any HLn w hT)
  have HT := Lib.hid hT
  have HM := Lib.hid HEx
  have HN := Lib.hid HAt
  have HS := Lib.hid (Below.refl w.heap.size w)
  obtain ⟨z, hz⟩ : ∃ z, 40 + s = z := ⟨_, rfl⟩
  have ez : (40 : Int) + (s : Int) = (z : Int) := by omega
  obtain ⟨t, ht⟩ : ∃ t, z - 34 = t := ⟨_, rfl⟩
  have et : (z : Int) - 34 = (t : Int) := by omega
  have hz9 : z ≤ 295 := by omega
  have ht9 : t ≤ 261 := by omega
  have ha9 : a < 4294967296 := by omega
  have hb9 : b < 4294967296 := by omega
  have hpw : ∀ x, x < 4294967296 → 4 * (x * 2 ^ t) ≤ 2 ^ z := fun x hx => by
    rw [show z = t + 34 by omega, Nat.pow_add, Nat.mul_comm x, ← Nat.mul_assoc, Nat.mul_comm 4, Nat.mul_assoc]
    exact Nat.mul_le_mul_left _ (by omega)
  obtain ⟨X, hX⟩ : ∃ X, a * 2 ^ t = X := ⟨_, rfl⟩
  obtain ⟨Y, hY⟩ : ∃ Y, b * 2 ^ t = Y := ⟨_, rfl⟩
  have hx4 := hpw a ha9
  have hy4 := hpw b hb9
  rw [hX] at hx4
  rw [hY] at hy4
  have HX := Lib.hid hX
  have HY := Lib.hid hY
  have HB : Hid (4 * X ≤ 2 ^ z ∧ 4 * Y ≤ 2 ^ z) := ⟨hx4, hy4⟩
  have Hz : Hid (8 ≤ (z : Int) ∧ (z : Int) ≤ 9000) := ⟨by omega, by omega⟩
  obtain ⟨mn, hmn⟩ : ∃ k, min a b = k := ⟨_, rfl⟩
  obtain ⟨mx, hmx⟩ : ∃ k, max a b = k := ⟨_, rfl⟩
  have emn : min (a : Int) (b : Int) = (mn : Int) := by omega
  have emx : max (a : Int) (b : Int) = (mx : Int) := by omega
  have hmn9 : mn < 4294967296 := by omega
  have hmx9 : mx < 4294967296 := by omega
  have HR : Hid (mn ≤ mx) := by show _ ≤ _; omega
  clear HLn HEx HAt hT hz ht hpw hX hY hx4 hy4 hmn hmx ha hb
  go_enter Tryd.func6, Tryd.ntmps6
  go_wp2_with fail
  refine H1.out.mono ?_
  rintro e w1 ⟨rfl, hB⟩
  replace HT : Hid (Tab w1) := HT.out.below hB
  replace HS := Lib.hid (HS.out.trans (hB.mono HS.out.size))
  clear hB H1
  have ln1a := lim_new1 w1 38 a (a : Int) rfl (by omega)
  have ba1a := below1 w1 (.cells #[.int .u64 (a : Int)] 38)
  replace HT : Hid (Tab (w1.alloc (.cells #[.int .u64 (a : Int)] 38))) := HT.out.below ba1a
  replace HS := Lib.hid (HS.out.trans (ba1a.mono HS.out.size))
  clear ba1a
  have H2 := shl_all (some ⟨w1.heap.size, 0, none⟩) 1 1 [a] (w1.alloc (.cells #[.int .u64 (a : Int)] 38)) ln1a (by decide) t (Or.inl (by have := blen_le_iff.2 (show val [a] < 2 ^ 32 by simp [val]; omega); omega))
  rw [show val [a] = a by simp [val], HX.out] at H2
  replace H2 := Lib.hid H2
  clear ln1a
  go_wp2_with fail
  refine H2.out.mono ?_
  rintro e w2 ⟨A2, m2, c2, d2, rfl, hm2, hl2, hb2, hv2, hB⟩
  replace HT : Hid (Tab w2) := HT.out.below hB
  replace HS := Lib.hid (HS.out.trans (hB.mono HS.out.size))
  have HXl : Hid (Lim w2 A2 m2 c2 d2) := hl2
  clear hl2 hB H2
  have hnHXl : m2 ≤ 5 := len_small HXl.out hb2 (k := z) (by rw [hv2]; have := HB.out; have := Nat.two_pow_pos z; omega) (by omega)
  have HvHXl := Lib.hid hv2
  have HbHXl := Lib.hid hb2
  clear hv2 hb2 hm2
  have ln2a := lim_new1 w2 38 b (b : Int) rfl (by omega)
  have ba2a := below1 w2 (.cells #[.int .u64 (b : Int)] 38)
  replace HT : Hid (Tab (w2.alloc (.cells #[.int .u64 (b : Int)] 38))) := HT.out.below ba2a
  replace HXl : Hid (Lim (w2.alloc (.cells #[.int .u64 (b : Int)] 38)) A2 m2 c2 d2) := HXl.out.below ba2a
  replace HS := Lib.hid (HS.out.trans (ba2a.mono HS.out.size))
  clear ba2a
  have H2 := shl_all (some ⟨w2.heap.size, 0, none⟩) 1 1 [b] (w2.alloc (.cells #[.int .u64 (b : Int)] 38)) ln2a (by decide) t (Or.inl (by have := blen_le_iff.2 (show val [b] < 2 ^ 32 by simp [val]; omega); omega))
  rw [show val [b] = b by simp [val], HY.out] at H2
  replace H2 := Lib.hid H2
  clear ln2a
  go_wp2_with fail
  refine H2.out.mono ?_
  rintro e w3 ⟨A3, m3, c3, d3, rfl, hm3, hl3, hb3, hv3, hB⟩
  replace HT : Hid (Tab w3) := HT.out.below hB
  replace HXl : Hid (Lim w3 A2 m2 c2 d2) := HXl.out.below hB
  replace HS := Lib.hid (HS.out.trans (hB.mono HS.out.size))
  have HYl : Hid (Lim w3 A3 m3 c3 d3) := hl3
  clear hl3 hB H2
  have hnHYl : m3 ≤ 5 := len_small HYl.out hb3 (k := z) (by rw [hv3]; have := HB.out; have := Nat.two_pow_pos z; omega) (by omega)
  have HvHYl := Lib.hid hv3
  have HbHYl := Lib.hid hb3
  clear hv3 hb3 hm3
  have H3 := HM.out A2 m2 c2 d2 A2 m2 c2 d2 (z : Int) w3 HXl.out HXl.out (by omega) (by omega) HT.out (by omega) (by omega)
  rw [HvHXl.out] at H3
  replace H3 := Lib.hid H3
  go_wp2_with fail
  refine H3.out.mono ?_
  rintro e w4 ⟨Alx, mlx, clx, lx, Ahx, mhx, chx, hx, rx, rfl, hmlx, hmhx, hllx, hlhx, hB, hq⟩
  replace HT : Hid (Tab w4) := HT.out.below hB
  replace HXl : Hid (Lim w4 A2 m2 c2 d2) := HXl.out.below hB
  replace HYl : Hid (Lim w4 A3 m3 c3 d3) := HYl.out.below hB
  replace HS := Lib.hid (HS.out.trans (hB.mono HS.out.size))
  obtain ⟨rfl, hqx⟩ : rx = 0 ∧ ExB X X z (val lx) (val hx) := by
    rcases hq with ⟨_, h1, h2, _⟩ | ⟨h, _⟩
    · rw [Int.toNat_natCast] at h2; exact ⟨h1, h2⟩
    · exact absurd (show ExOk X X (z : Int) from ⟨Hz.out, Nat.le_refl _, by rw [Int.toNat_natCast]; have := HB.out; have := Nat.two_pow_pos z; omega⟩) h
  have HLx : Hid (Lim w4 Alx mlx clx lx) := hllx
  have HHx : Hid (Lim w4 Ahx mhx chx hx) := hlhx
  have HQx := Lib.hid hqx
  clear hq hqx hllx hlhx hB H3
  have H3 := HM.out A3 m3 c3 d3 A3 m3 c3 d3 (z : Int) w4 HYl.out HYl.out (by omega) (by omega) HT.out (by omega) (by omega)
  rw [HvHYl.out] at H3
  replace H3 := Lib.hid H3
  go_wp2_with fail
  refine H3.out.mono ?_
  rintro e w5 ⟨Aly, mly, cly, ly, Ahy, mhy, chy, hy, ry, rfl, hmly, hmhy, hlly, hlhy, hB, hq⟩
  replace HT : Hid (Tab w5) := HT.out.below hB
  replace HXl : Hid (Lim w5 A2 m2 c2 d2) := HXl.out.below hB
  replace HYl : Hid (Lim w5 A3 m3 c3 d3) := HYl.out.below hB
  replace HLx : Hid (Lim w5 Alx mlx clx lx) := HLx.out.below hB
  replace HHx : Hid (Lim w5 Ahx mhx chx hx) := HHx.out.below hB
  replace HS := Lib.hid (HS.out.trans (hB.mono HS.out.size))
  obtain ⟨rfl, hqy⟩ : ry = 0 ∧ ExB Y Y z (val ly) (val hy) := by
    rcases hq with ⟨_, h1, h2, _⟩ | ⟨h, _⟩
    · rw [Int.toNat_natCast] at h2; exact ⟨h1, h2⟩
    · exact absurd (show ExOk Y Y (z : Int) from ⟨Hz.out, Nat.le_refl _, by rw [Int.toNat_natCast]; have := HB.out; have := Nat.two_pow_pos z; omega⟩) h
  have HLy : Hid (Lim w5 Aly mly cly ly) := hlly
  have HHy : Hid (Lim w5 Ahy mhy chy hy) := hlhy
  have HQy := Lib.hid hqy
  clear hq hqy hlly hlhy hB H3
  have H4 := add_any A2 m2 c2 d2 A3 m3 c3 d3 w5 HXl.out HYl.out (by omega) (by omega)
  rw [HvHXl.out, HvHYl.out] at H4
  replace H4 := Lib.hid H4
  go_wp2_with fail
  refine H4.out.mono ?_
  rintro e w6 ⟨A6, m6, c6, d6, rfl, hm6, hl6, hb6, hv6, hB⟩
  replace HT : Hid (Tab w6) := HT.out.below hB
  replace HXl : Hid (Lim w6 A2 m2 c2 d2) := HXl.out.below hB
  replace HYl : Hid (Lim w6 A3 m3 c3 d3) := HYl.out.below hB
  replace HLx : Hid (Lim w6 Alx mlx clx lx) := HLx.out.below hB
  replace HHx : Hid (Lim w6 Ahx mhx chx hx) := HHx.out.below hB
  replace HLy : Hid (Lim w6 Aly mly cly ly) := HLy.out.below hB
  replace HHy : Hid (Lim w6 Ahy mhy chy hy) := HHy.out.below hB
  replace HS := Lib.hid (HS.out.trans (hB.mono HS.out.size))
  have HCl : Hid (Lim w6 A6 m6 c6 d6) := hl6
  clear hl6 hB H4
  have HvHCl := Lib.hid hv6
  clear hv6 hb6
  have H3 := HM.out A6 m6 c6 d6 A6 m6 c6 d6 (z : Int) w6 HCl.out HCl.out (by omega) (by omega) HT.out (by omega) (by omega)
  rw [HvHCl.out] at H3
  replace H3 := Lib.hid H3
  go_wp2_with fail
  refine H3.out.mono ?_
  rintro e w7 ⟨Alc, mlc, clc, lc, Ahc, mhc, chc, hc, rc, rfl, hmlc, hmhc, hllc, hlhc, hB, hq⟩
  replace HT : Hid (Tab w7) := HT.out.below hB
  replace HXl : Hid (Lim w7 A2 m2 c2 d2) := HXl.out.below hB
  replace HYl : Hid (Lim w7 A3 m3 c3 d3) := HYl.out.below hB
  replace HLx : Hid (Lim w7 Alx mlx clx lx) := HLx.out.below hB
  replace HHx : Hid (Lim w7 Ahx mhx chx hx) := HHx.out.below hB
  replace HLy : Hid (Lim w7 Aly mly cly ly) := HLy.out.below hB
  replace HHy : Hid (Lim w7 Ahy mhy chy hy) := HHy.out.below hB
  replace HCl : Hid (Lim w7 A6 m6 c6 d6) := HCl.out.below hB
  replace HS := Lib.hid (HS.out.trans (hB.mono HS.out.size))
  obtain ⟨rfl, hqc⟩ : rc = 0 ∧ ExB (X + Y) (X + Y) z (val lc) (val hc) := by
    rcases hq with ⟨_, h1, h2, _⟩ | ⟨h, _⟩
    · rw [Int.toNat_natCast] at h2; exact ⟨h1, h2⟩
    · exact absurd (show ExOk (X + Y) (X + Y) (z : Int) from ⟨Hz.out, Nat.le_refl _, by rw [Int.toNat_natCast]; have := HB.out; have := Nat.two_pow_pos z; omega⟩) h
  have HLc : Hid (Lim w7 Alc mlc clc lc) := hllc
  have HHc : Hid (Lim w7 Ahc mhc chc hc) := hlhc
  have HQc := Lib.hid hqc
  clear hq hqc hllc hlhc hB H3
  have HAd := Lib.hid (ex_adds (s := z) (by have := HB.out; have := Nat.two_pow_pos z; omega) (by have := HB.out; have := Nat.two_pow_pos z; omega) HQx.out HQy.out HQc.out)
  clear HXl HYl HCl
  clear HQx HQy HQc HvHXl HvHYl HvHCl HbHXl HbHYl HM
  have H5 := Lib.hid (to_any Alx mlx clx lx w7 HLx.out (by omega))
  go_wp2_with fail
  refine H5.out.mono ?_
  rintro e w8 ⟨A8, m8, c8, d8, rfl, hm8, hl8, hb8, hv8, hB⟩
  replace HT : Hid (Tab w8) := HT.out.below hB
  replace HLx : Hid (Lim w8 Alx mlx clx lx) := HLx.out.below hB
  replace HHx : Hid (Lim w8 Ahx mhx chx hx) := HHx.out.below hB
  replace HLy : Hid (Lim w8 Aly mly cly ly) := HLy.out.below hB
  replace HHy : Hid (Lim w8 Ahy mhy chy hy) := HHy.out.below hB
  replace HLc : Hid (Lim w8 Alc mlc clc lc) := HLc.out.below hB
  replace HHc : Hid (Lim w8 Ahc mhc chc hc) := HHc.out.below hB
  replace HS := Lib.hid (HS.out.trans (hB.mono HS.out.size))
  have Hp : Hid (Dig w8 A8 m8 c8 d8 ∧ D.Bare d8 ∧ D.val d8 = val lx) := ⟨hl8, hb8, hv8⟩
  clear hl8 hb8 hv8 hB H5
  clear HLx
  have H5 := Lib.hid (to_any Aly mly cly ly w8 HLy.out (by omega))
  go_wp2_with fail
  refine H5.out.mono ?_
  rintro e w9 ⟨A9, m9, c9, d9, rfl, hm9, hl9, hb9, hv9, hB⟩
  replace HT : Hid (Tab w9) := HT.out.below hB
  replace HHx : Hid (Lim w9 Ahx mhx chx hx) := HHx.out.below hB
  replace HLy : Hid (Lim w9 Aly mly cly ly) := HLy.out.below hB
  replace HHy : Hid (Lim w9 Ahy mhy chy hy) := HHy.out.below hB
  replace HLc : Hid (Lim w9 Alc mlc clc lc) := HLc.out.below hB
  replace HHc : Hid (Lim w9 Ahc mhc chc hc) := HHc.out.below hB
  replace Hp : Hid (Dig w9 A8 m8 c8 d8 ∧ D.Bare d8 ∧ D.val d8 = val lx) := ⟨Hp.out.1.below hB, Hp.out.2⟩
  replace HS := Lib.hid (HS.out.trans (hB.mono HS.out.size))
  have Hu : Hid (Dig w9 A9 m9 c9 d9 ∧ D.Bare d9 ∧ D.val d9 = val ly) := ⟨hl9, hb9, hv9⟩
  clear hl9 hb9 hv9 hB H5
  clear HLy
  have H6 := rmul_any A8 m8 c8 d8 A9 m9 c9 d9 w9 Hp.out.1 Hu.out.1 (by omega) (by omega)
  rw [Hp.out.2.2, Hu.out.2.2] at H6
  replace H6 := Lib.hid H6
  go_wp2_with fail
  refine H6.out.mono ?_
  rintro e w10 ⟨A10, m10, c10, d10, rfl, hm10, hl10, hb10, hv10, hB⟩
  replace HT : Hid (Tab w10) := HT.out.below hB
  replace HHx : Hid (Lim w10 Ahx mhx chx hx) := HHx.out.below hB
  replace HHy : Hid (Lim w10 Ahy mhy chy hy) := HHy.out.below hB
  replace HLc : Hid (Lim w10 Alc mlc clc lc) := HLc.out.below hB
  replace HHc : Hid (Lim w10 Ahc mhc chc hc) := HHc.out.below hB
  replace Hp : Hid (Dig w10 A8 m8 c8 d8 ∧ D.Bare d8 ∧ D.val d8 = val lx) := ⟨Hp.out.1.below hB, Hp.out.2⟩
  replace Hu : Hid (Dig w10 A9 m9 c9 d9 ∧ D.Bare d9 ∧ D.val d9 = val ly) := ⟨Hu.out.1.below hB, Hu.out.2⟩
  replace HS := Lib.hid (HS.out.trans (hB.mono HS.out.size))
  have Hlow : Hid (Dig w10 A10 m10 c10 d10 ∧ D.Bare d10 ∧ D.val d10 = val lx * val ly) := ⟨hl10, hb10, hv10⟩
  clear hl10 hb10 hv10 hB H6
  clear Hp Hu
  have H5 := Lib.hid (to_any Ahx mhx chx hx w10 HHx.out (by omega))
  go_wp2_with fail
  refine H5.out.mono ?_
  rintro e w11 ⟨A11, m11, c11, d11, rfl, hm11, hl11, hb11, hv11, hB⟩
  replace HT : Hid (Tab w11) := HT.out.below hB
  replace HHx : Hid (Lim w11 Ahx mhx chx hx) := HHx.out.below hB
  replace HHy : Hid (Lim w11 Ahy mhy chy hy) := HHy.out.below hB
  replace HLc : Hid (Lim w11 Alc mlc clc lc) := HLc.out.below hB
  replace HHc : Hid (Lim w11 Ahc mhc chc hc) := HHc.out.below hB
  replace Hlow : Hid (Dig w11 A10 m10 c10 d10 ∧ D.Bare d10 ∧ D.val d10 = val lx * val ly) := ⟨Hlow.out.1.below hB, Hlow.out.2⟩
  replace HS := Lib.hid (HS.out.trans (hB.mono HS.out.size))
  have Hq : Hid (Dig w11 A11 m11 c11 d11 ∧ D.Bare d11 ∧ D.val d11 = val hx) := ⟨hl11, hb11, hv11⟩
  clear hl11 hb11 hv11 hB H5
  clear HHx
  have H5 := Lib.hid (to_any Ahy mhy chy hy w11 HHy.out (by omega))
  go_wp2_with fail
  refine H5.out.mono ?_
  rintro e w12 ⟨A12, m12, c12, d12, rfl, hm12, hl12, hb12, hv12, hB⟩
  replace HT : Hid (Tab w12) := HT.out.below hB
  replace HHy : Hid (Lim w12 Ahy mhy chy hy) := HHy.out.below hB
  replace HLc : Hid (Lim w12 Alc mlc clc lc) := HLc.out.below hB
  replace HHc : Hid (Lim w12 Ahc mhc chc hc) := HHc.out.below hB
  replace Hlow : Hid (Dig w12 A10 m10 c10 d10 ∧ D.Bare d10 ∧ D.val d10 = val lx * val ly) := ⟨Hlow.out.1.below hB, Hlow.out.2⟩
  replace Hq : Hid (Dig w12 A11 m11 c11 d11 ∧ D.Bare d11 ∧ D.val d11 = val hx) := ⟨Hq.out.1.below hB, Hq.out.2⟩
  replace HS := Lib.hid (HS.out.trans (hB.mono HS.out.size))
  have Hv : Hid (Dig w12 A12 m12 c12 d12 ∧ D.Bare d12 ∧ D.val d12 = val hy) := ⟨hl12, hb12, hv12⟩
  clear hl12 hb12 hv12 hB H5
  clear HHy
  have H6 := rmul_any A11 m11 c11 d11 A12 m12 c12 d12 w12 Hq.out.1 Hv.out.1 (by omega) (by omega)
  rw [Hq.out.2.2, Hv.out.2.2] at H6
  replace H6 := Lib.hid H6
  go_wp2_with fail
  refine H6.out.mono ?_
  rintro e w13 ⟨A13, m13, c13, d13, rfl, hm13, hl13, hb13, hv13, hB⟩
  replace HT : Hid (Tab w13) := HT.out.below hB
  replace HLc : Hid (Lim w13 Alc mlc clc lc) := HLc.out.below hB
  replace HHc : Hid (Lim w13 Ahc mhc chc hc) := HHc.out.below hB
  replace Hlow : Hid (Dig w13 A10 m10 c10 d10 ∧ D.Bare d10 ∧ D.val d10 = val lx * val ly) := ⟨Hlow.out.1.below hB, Hlow.out.2⟩
  replace Hq : Hid (Dig w13 A11 m11 c11 d11 ∧ D.Bare d11 ∧ D.val d11 = val hx) := ⟨Hq.out.1.below hB, Hq.out.2⟩
  replace Hv : Hid (Dig w13 A12 m12 c12 d12 ∧ D.Bare d12 ∧ D.val d12 = val hy) := ⟨Hv.out.1.below hB, Hv.out.2⟩
  replace HS := Lib.hid (HS.out.trans (hB.mono HS.out.size))
  have Hhigh : Hid (Dig w13 A13 m13 c13 d13 ∧ D.Bare d13 ∧ D.val d13 = val hx * val hy) := ⟨hl13, hb13, hv13⟩
  clear hl13 hb13 hv13 hB H6
  clear Hq Hv
  have H5 := Lib.hid (to_any Ahc mhc chc hc w13 HHc.out (by omega))
  go_wp2_with fail
  refine H5.out.mono ?_
  rintro e w14 ⟨A14, m14, c14, d14, rfl, hm14, hl14, hb14, hv14, hB⟩
  replace HT : Hid (Tab w14) := HT.out.below hB
  replace HLc : Hid (Lim w14 Alc mlc clc lc) := HLc.out.below hB
  replace HHc : Hid (Lim w14 Ahc mhc chc hc) := HHc.out.below hB
  replace Hlow : Hid (Dig w14 A10 m10 c10 d10 ∧ D.Bare d10 ∧ D.val d10 = val lx * val ly) := ⟨Hlow.out.1.below hB, Hlow.out.2⟩
  replace Hhigh : Hid (Dig w14 A13 m13 c13 d13 ∧ D.Bare d13 ∧ D.val d13 = val hx * val hy) := ⟨Hhigh.out.1.below hB, Hhigh.out.2⟩
  replace HS := Lib.hid (HS.out.trans (hB.mono HS.out.size))
  have Hh : Hid (Dig w14 A14 m14 c14 d14 ∧ D.Bare d14 ∧ D.val d14 = val hc) := ⟨hl14, hb14, hv14⟩
  clear hl14 hb14 hv14 hB H5
  clear HHc
  have H7 := rshl_any A14 m14 c14 d14 z w14 Hh.out.1 Hh.out.2.1 (by omega) (by omega)
  rw [Hh.out.2.2] at H7
  obtain ⟨Z, hZ⟩ : ∃ Z, 2 ^ z = Z := ⟨_, rfl⟩
  have HZ := Lib.hid hZ
  rw [HZ.out] at H7
  replace H7 := Lib.hid H7
  clear hZ
  go_wp2_with fail
  refine H7.out.mono ?_
  rintro e w15 ⟨A15, m15, c15, d15, rfl, hm15, hl15, hb15, hv15, hB⟩
  replace HT : Hid (Tab w15) := HT.out.below hB
  replace HLc : Hid (Lim w15 Alc mlc clc lc) := HLc.out.below hB
  replace Hlow : Hid (Dig w15 A10 m10 c10 d10 ∧ D.Bare d10 ∧ D.val d10 = val lx * val ly) := ⟨Hlow.out.1.below hB, Hlow.out.2⟩
  replace Hhigh : Hid (Dig w15 A13 m13 c13 d13 ∧ D.Bare d13 ∧ D.val d13 = val hx * val hy) := ⟨Hhigh.out.1.below hB, Hhigh.out.2⟩
  replace Hh : Hid (Dig w15 A14 m14 c14 d14 ∧ D.Bare d14 ∧ D.val d14 = val hc) := ⟨Hh.out.1.below hB, Hh.out.2⟩
  replace HS := Lib.hid (HS.out.trans (hB.mono HS.out.size))
  have Hsh1 : Hid (Dig w15 A15 m15 c15 d15 ∧ D.Bare d15 ∧ D.val d15 = val hc * Z) := ⟨hl15, hb15, hv15⟩
  clear hl15 hb15 hv15 hB H7
  clear Hh
  obtain ⟨cx, hcx⟩ : ∃ cv, cmpZ (val lx * val ly) (val hc * Z) = cv := ⟨_, rfl⟩
  have bcx : decide (0 < cx) = false := decide_eq_false (by rw [← hcx]; have := cmpZ_down (show val lx * val ly ≤ val hc * Z by have h := HAd.out.1; rw [HZ.out] at h; exact h); omega)
  have H8 := Lib.hid (rcmp_v cx A10 m10 c10 d10 A15 m15 c15 d15 w15 Hlow.out.1 Hsh1.out.1 Hlow.out.2.1 Hsh1.out.2.1 (by omega) (by omega) (by show _ = _; rw [Hlow.out.2.2, Hsh1.out.2.2]; exact hcx))
  clear hcx
  clear Hlow Hsh1
  go_wp2_with fail
  refine H8.out.mono ?_
  rintro e w16 ⟨rfl, hB⟩
  replace HT : Hid (Tab w16) := HT.out.below hB
  replace HLc : Hid (Lim w16 Alc mlc clc lc) := HLc.out.below hB
  replace Hhigh : Hid (Dig w16 A13 m13 c13 d13 ∧ D.Bare d13 ∧ D.val d13 = val hx * val hy) := ⟨Hhigh.out.1.below hB, Hhigh.out.2⟩
  replace HS := Lib.hid (HS.out.trans (hB.mono HS.out.size))
  clear hB H8
  have H5 := Lib.hid (to_any Alc mlc clc lc w16 HLc.out (by omega))
  go_wp2_with fail
  refine H5.out.mono ?_
  rintro e w17 ⟨A17, m17, c17, d17, rfl, hm17, hl17, hb17, hv17, hB⟩
  replace HT : Hid (Tab w17) := HT.out.below hB
  replace HLc : Hid (Lim w17 Alc mlc clc lc) := HLc.out.below hB
  replace Hhigh : Hid (Dig w17 A13 m13 c13 d13 ∧ D.Bare d13 ∧ D.val d13 = val hx * val hy) := ⟨Hhigh.out.1.below hB, Hhigh.out.2⟩
  replace HS := Lib.hid (HS.out.trans (hB.mono HS.out.size))
  have Hl : Hid (Dig w17 A17 m17 c17 d17 ∧ D.Bare d17 ∧ D.val d17 = val lc) := ⟨hl17, hb17, hv17⟩
  clear hl17 hb17 hv17 hB H5
  clear HLc
  have H7 := rshl_any A17 m17 c17 d17 z w17 Hl.out.1 Hl.out.2.1 (by omega) (by omega)
  rw [Hl.out.2.2] at H7
  rw [HZ.out] at H7
  replace H7 := Lib.hid H7
  go_wp2_with fail
  refine H7.out.mono ?_
  rintro e w18 ⟨A18, m18, c18, d18, rfl, hm18, hl18, hb18, hv18, hB⟩
  replace HT : Hid (Tab w18) := HT.out.below hB
  replace Hhigh : Hid (Dig w18 A13 m13 c13 d13 ∧ D.Bare d13 ∧ D.val d13 = val hx * val hy) := ⟨Hhigh.out.1.below hB, Hhigh.out.2⟩
  replace Hl : Hid (Dig w18 A17 m17 c17 d17 ∧ D.Bare d17 ∧ D.val d17 = val lc) := ⟨Hl.out.1.below hB, Hl.out.2⟩
  replace HS := Lib.hid (HS.out.trans (hB.mono HS.out.size))
  have Hsh2 : Hid (Dig w18 A18 m18 c18 d18 ∧ D.Bare d18 ∧ D.val d18 = val lc * Z) := ⟨hl18, hb18, hv18⟩
  clear hl18 hb18 hv18 hB H7
  clear Hl
  obtain ⟨cy, hcy⟩ : ∃ cv, cmpZ (val lc * Z) (val hx * val hy) = cv := ⟨_, rfl⟩
  have bcy : decide (0 < cy) = false := decide_eq_false (by rw [← hcy]; have := cmpZ_down (show val lc * Z ≤ val hx * val hy by have h := HAd.out.2; rw [HZ.out] at h; exact h); omega)
  have H8 := Lib.hid (rcmp_v cy A18 m18 c18 d18 A13 m13 c13 d13 w18 Hsh2.out.1 Hhigh.out.1 Hsh2.out.2.1 Hhigh.out.2.1 (by omega) (by omega) (by show _ = _; rw [Hsh2.out.2.2, Hhigh.out.2.2]; exact hcy))
  clear hcy
  clear Hsh2 Hhigh
  go_wp2_with fail
  refine H8.out.mono ?_
  rintro e w19 ⟨rfl, hB⟩
  replace HT : Hid (Tab w19) := HT.out.below hB
  replace HS := Lib.hid (HS.out.trans (hB.mono HS.out.size))
  clear hB H8
  clear HAd HZ
  have ln19a := lim_new1 w19 38 12884901888 12884901888 rfl (by decide)
  have ba19a := below1 w19 (.cells #[.int .u64 12884901888] 38)
  replace HT : Hid (Tab (w19.alloc (.cells #[.int .u64 12884901888] 38))) := HT.out.below ba19a
  replace HS := Lib.hid (HS.out.trans (ba19a.mono HS.out.size))
  clear ba19a
  have HDl : Hid (Lim (w19.alloc (.cells #[.int .u64 12884901888] 38)) (some ⟨w19.heap.size, 0, none⟩) 1 1 [12884901888]) := ln19a
  clear ln19a
  have ln19b := lim_new1 (w19.alloc (.cells #[.int .u64 12884901888] 38)) 38 mn (mn : Int) rfl (by omega)
  rw [World.size_alloc] at ln19b
  have ba19b := below1 (w19.alloc (.cells #[.int .u64 12884901888] 38)) (.cells #[.int .u64 (mn : Int)] 38)
  replace HT : Hid (Tab ((w19.alloc (.cells #[.int .u64 12884901888] 38)).alloc (.cells #[.int .u64 (mn : Int)] 38))) := HT.out.below ba19b
  replace HDl : Hid (Lim ((w19.alloc (.cells #[.int .u64 12884901888] 38)).alloc (.cells #[.int .u64 (mn : Int)] 38)) (some ⟨w19.heap.size, 0, none⟩) 1 1 [12884901888]) := HDl.out.below ba19b
  replace HS := Lib.hid (HS.out.trans (ba19b.mono HS.out.size))
  clear ba19b
  have H9 := HN.out (some ⟨w19.heap.size + 1, 0, none⟩) 1 1 [mn] (some ⟨w19.heap.size, 0, none⟩) 1 1 [12884901888] (z : Int) ((w19.alloc (.cells #[.int .u64 12884901888] 38)).alloc (.cells #[.int .u64 (mn : Int)] 38)) ln19b HDl.out (by decide) (by decide) HT.out (by omega) (by omega)
  rw [val_one mn, val_34] at H9
  replace H9 := Lib.hid H9
  clear ln19b
  go_wp2_with fail
  refine H9.out.mono ?_
  rintro e w20 ⟨Alm, mlm, clm, lm, Ahm, mhm, chm, hm, rm, rfl, hmlm, hmhm, hllm, hlhm, hB, hq⟩
  replace HT : Hid (Tab w20) := HT.out.below hB
  replace HDl : Hid (Lim w20 (some ⟨w19.heap.size, 0, none⟩) 1 1 [12884901888]) := HDl.out.below hB
  replace HS := Lib.hid (HS.out.trans (hB.mono HS.out.size))
  obtain ⟨rfl, hqm⟩ : rm = 0 ∧ AtB mn 12884901888 z (val lm) (val hm) := by
    rcases hq with ⟨_, h1, h2, _⟩ | ⟨h, _⟩
    · rw [Int.toNat_natCast] at h2; exact ⟨h1, h2⟩
    · exact absurd (show AtOk mn 12884901888 (z : Int) from ⟨Hz.out, by have := blen_32 hmn9; omega, by have := blen_34; omega, by decide, by omega⟩) h
  have HLm : Hid (Lim w20 Alm mlm clm lm) := hllm
  have HHm : Hid (Lim w20 Ahm mhm chm hm) := hlhm
  have HQm := Lib.hid hqm
  clear hq hqm hllm hlhm hB H9
  have ln20a := lim_new1 w20 38 mx (mx : Int) rfl (by omega)
  have ba20a := below1 w20 (.cells #[.int .u64 (mx : Int)] 38)
  replace HT : Hid (Tab (w20.alloc (.cells #[.int .u64 (mx : Int)] 38))) := HT.out.below ba20a
  replace HDl : Hid (Lim (w20.alloc (.cells #[.int .u64 (mx : Int)] 38)) (some ⟨w19.heap.size, 0, none⟩) 1 1 [12884901888]) := HDl.out.below ba20a
  replace HLm : Hid (Lim (w20.alloc (.cells #[.int .u64 (mx : Int)] 38)) Alm mlm clm lm) := HLm.out.below ba20a
  replace HHm : Hid (Lim (w20.alloc (.cells #[.int .u64 (mx : Int)] 38)) Ahm mhm chm hm) := HHm.out.below ba20a
  replace HS := Lib.hid (HS.out.trans (ba20a.mono HS.out.size))
  clear ba20a
  have H9 := HN.out (some ⟨w20.heap.size, 0, none⟩) 1 1 [mx] (some ⟨w19.heap.size, 0, none⟩) 1 1 [12884901888] (z : Int) (w20.alloc (.cells #[.int .u64 (mx : Int)] 38)) ln20a HDl.out (by decide) (by decide) HT.out (by omega) (by omega)
  rw [val_one mx, val_34] at H9
  replace H9 := Lib.hid H9
  clear ln20a
  go_wp2_with fail
  refine H9.out.mono ?_
  rintro e w21 ⟨Aln, mln, cln, ln, Ahn, mhn, chn, hn, rn, rfl, hmln, hmhn, hlln, hlhn, hB, hq⟩
  replace HT : Hid (Tab w21) := HT.out.below hB
  replace HDl : Hid (Lim w21 (some ⟨w19.heap.size, 0, none⟩) 1 1 [12884901888]) := HDl.out.below hB
  replace HLm : Hid (Lim w21 Alm mlm clm lm) := HLm.out.below hB
  replace HHm : Hid (Lim w21 Ahm mhm chm hm) := HHm.out.below hB
  replace HS := Lib.hid (HS.out.trans (hB.mono HS.out.size))
  obtain ⟨rfl, hqn⟩ : rn = 0 ∧ AtB mx 12884901888 z (val ln) (val hn) := by
    rcases hq with ⟨_, h1, h2, _⟩ | ⟨h, _⟩
    · rw [Int.toNat_natCast] at h2; exact ⟨h1, h2⟩
    · exact absurd (show AtOk mx 12884901888 (z : Int) from ⟨Hz.out, by have := blen_32 hmx9; omega, by have := blen_34; omega, by decide, by omega⟩) h
  have HLn : Hid (Lim w21 Aln mln cln ln) := hlln
  have HHn : Hid (Lim w21 Ahn mhn chn hn) := hlhn
  have HQn := Lib.hid hqn
  clear hq hqn hlln hlhn hB H9
  have HRi := Lib.hid (at_rises (d := 12884901888) (by decide) HR.out (by omega) HQm.out HQn.out)
  obtain ⟨ck, hck⟩ : ∃ cv, cmpZ (val lm) (val hn) = cv := ⟨_, rfl⟩
  have bck : decide (ck ≤ 0) = true := decide_eq_true (by rw [← hck]; exact cmpZ_down HRi.out)
  have H10 := Lib.hid (cmp_b ck Alm mlm clm lm Ahn mhn chn hn w21 HLm.out HHn.out (by omega) (by omega) hck)
  clear hck
  go_wp2_with fail
  refine H10.out.mono ?_
  rintro e w22 ⟨rfl, hB⟩
  replace HT : Hid (Tab w22) := HT.out.below hB
  replace HDl : Hid (Lim w22 (some ⟨w19.heap.size, 0, none⟩) 1 1 [12884901888]) := HDl.out.below hB
  replace HLm : Hid (Lim w22 Alm mlm clm lm) := HLm.out.below hB
  replace HHm : Hid (Lim w22 Ahm mhm chm hm) := HHm.out.below hB
  replace HLn : Hid (Lim w22 Aln mln cln ln) := HLn.out.below hB
  replace HHn : Hid (Lim w22 Ahn mhn chn hn) := HHn.out.below hB
  replace HS := Lib.hid (HS.out.trans (hB.mono HS.out.size))
  clear hB H10
  have Hfin := Lib.hid HS.out
  clear HS HT HDl HLm HHm HLn HHn HQm HQn HRi HR HN HB HX HY Hz
  go_wp2
  go_ret
  exact ⟨rfl, Hfin.out⟩

theorem walk_seriesAdds' (HEx : ExpMeets) (HAt : AtanhMeets) (HLn : Ln2Meets) (a b s : Int) (w : World) (hT : Tab w) (ha1 : 0 ≤ a) (ha2 : a ≤ 4294967295) (hb1 : 0 ≤ b) (hb2 : b ≤ 4294967295) (hs1 : 0 ≤ s) (hs2 : s ≤ 255) :
    Calls Tryd.prog 6 #[.int .u32 a, .int .u32 b, .int .u8 s] w fun e w' => e = .returned (.bool true) ∧ Below w.heap.size w w' := by
  obtain ⟨x, rfl⟩ := Int.eq_ofNat_of_zero_le ha1
  obtain ⟨y, rfl⟩ := Int.eq_ofNat_of_zero_le hb1
  obtain ⟨z, rfl⟩ := Int.eq_ofNat_of_zero_le hs1
  exact sadds_any HEx HAt HLn x y z w hT (by omega) (by omega) (by omega)
end Go.Proofs.YtngldpmnbdgkiaaDoor
