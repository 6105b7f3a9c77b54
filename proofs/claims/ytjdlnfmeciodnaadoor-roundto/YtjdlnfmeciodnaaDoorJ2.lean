/- Texts joined into one, in build order: WOf, WRAdd, WRCmp, PPow, PAlive, WShr, WShl, DyMem, DyMake, DyCmp, DyOrd, FlBits, FlParts, FlExact, FlAlive, WRSub, WRBit. -/
import Derived.Test.YtjdlnfmeciodnaaDoorJ1
import Derived.Laws.CopyOwn
import Derived.Deep.RegionHeld3
import Derived.StillTailTactics
/- The walks of planimeterref01.Of and of planimeterlaw07.same. -/
namespace Go.Proofs.YtjdlnfmeciodnaaDoor
open Go.RowKit

/-- Limb j, while the digits from k on have been taken. -/
def part (ds : List Nat) (k j : Nat) : Nat := D.val ((ds.drop (max k (4 * j))).take (4 * j + 4 - max k (4 * j)))

theorem part_step (ds : List Nat) (k : Nat) (hk : k < ds.length) : part ds k (k / 4) = ds.getD k 0 + 65536 * part ds (k + 1) (k / 4) := by
  unfold part
  rw [show max k (4 * (k / 4)) = k from by omega, show max (k + 1) (4 * (k / 4)) = k + 1 from by omega, D.drop_cons ds k hk,
    show 4 * (k / 4) + 4 - k = (4 * (k / 4) + 4 - (k + 1)) + 1 from by omega, List.take_succ_cons, D.val]
theorem part_other (ds : List Nat) (k j : Nat) (hj : j ≠ k / 4) : part ds k j = part ds (k + 1) j := by
  unfold part
  by_cases h : k + 1 ≤ 4 * j
  · rw [show max k (4 * j) = 4 * j from by omega, show max (k + 1) (4 * j) = 4 * j from by omega]
  · rw [show 4 * j + 4 - max k (4 * j) = 0 from by omega, show 4 * j + 4 - max (k + 1) (4 * j) = 0 from by omega]; simp
theorem part_start (ds : List Nat) (n j : Nat) (hn : ds.length ≤ n) : part ds n j = 0 := by
  unfold part
  rw [List.drop_of_length_le (by omega), List.take_nil]; rfl
theorem part_lt (ds : List Nat) (hw : D.Words ds) (k : Nat) : part ds (k + 1) (k / 4) < 281474976710656 := by
  unfold part
  have h1 := D.val_lt ((hw.drop (max (k + 1) (4 * (k / 4)))).take (4 * (k / 4) + 4 - max (k + 1) (4 * (k / 4))))
  have h2 : ((ds.drop (max (k + 1) (4 * (k / 4)))).take (4 * (k / 4) + 4 - max (k + 1) (4 * (k / 4)))).length ≤ 3 := by rw [List.length_take]; omega
  have h3 := D.pw_mono h2
  have h4 : D.pw 3 = 281474976710656 := by decide
  omega
theorem part_word (ds : List Nat) (hw : D.Words ds) (j : Nat) : part ds 0 j < 18446744073709551616 := by
  unfold part
  have h1 := D.val_lt ((hw.drop (max 0 (4 * j))).take (4 * j + 4 - max 0 (4 * j)))
  have h2 : ((ds.drop (max 0 (4 * j))).take (4 * j + 4 - max 0 (4 * j))).length ≤ 4 := by rw [List.length_take]; omega
  have h3 := D.pw_mono h2
  have h4 : D.pw 4 = 18446744073709551616 := by decide
  omega

/-- Digits as limbs. -/
def grp (ds : List Nat) : Nat → List Nat
  | 0 => []
  | m + 1 => grp ds m ++ [part ds 0 m]
theorem grp_len (ds : List Nat) (m : Nat) : (grp ds m).length = m := by
  induction m with
  | zero => rfl
  | succ m ih => rw [grp, List.length_append, ih]; rfl
theorem grp_getD (ds : List Nat) (m j : Nat) (hj : j < m) : (grp ds m).getD j 0 = part ds 0 j := by
  induction m with
  | zero => omega
  | succ m ih =>
    rw [grp, getD_snoc, grp_len]
    split
    · rename_i h; rw [h]
    · exact ih (by omega)
theorem grp_words (ds : List Nat) (hw : D.Words ds) (m : Nat) : Words (grp ds m) := by
  induction m with
  | zero => exact Words.nil
  | succ m ih => exact ih.append (Words.one (part_word ds hw m))
theorem grp_val (ds : List Nat) (m : Nat) : val (grp ds m) = D.val (ds.take (4 * m)) := by
  induction m with
  | zero => rfl
  | succ m ih =>
    rw [grp, val_snoc, grp_len, ih, ← pw_dig]
    unfold part
    rw [show max 0 (4 * m) = 4 * m from by omega, show 4 * m + 4 - 4 * m = 4 from by omega]
    by_cases h : 4 * m ≤ (ds.take (4 * (m + 1))).length
    · rw [D.val_split (ds.take (4 * (m + 1))) (4 * m) h, List.take_take, List.drop_take, show min (4 * m) (4 * (m + 1)) = 4 * m from by omega, show 4 * (m + 1) - 4 * m = 4 from by omega]
    · rw [List.length_take] at h
      rw [List.drop_of_length_le (by omega), List.take_nil, List.take_of_length_le (by omega), List.take_of_length_le (by omega)]
      simp [D.val]
theorem grp_bare (ds : List Nat) (hb : D.Bare ds) : Bare (grp ds ((ds.length + 3) / 4)) := by
  show tl _ = _
  apply tl_eq
  · intro j h1 h2; omega
  · intro j hj
    rw [grp_len] at hj
    rw [grp_getD _ _ _ (by omega)]
    have hne := D.getD_tl_pred (xs := ds) (j := ds.length - 1) (by rw [hb]; omega)
    intro h0
    apply hne
    unfold part at h0
    rw [show max 0 (4 * j) = 4 * j from by omega, show 4 * j + 4 - 4 * j = 4 from by omega] at h0
    have h2 := D.tl_zero_iff.2 h0
    have h3 := D.getD_of_tl (xs := (ds.drop (4 * j)).take 4) (j := ds.length - 1 - 4 * j) (by omega)
    rw [List.getD_eq_getElem?_getD, List.getElem?_take_of_lt (by omega), List.getElem?_drop, show 4 * j + (ds.length - 1 - 4 * j) = ds.length - 1 from by omega, ← List.getD_eq_getElem?_getD] at h3
    exact h3



end Go.Proofs.YtjdlnfmeciodnaaDoor

/- The walk of planimeterref01.Add. -/
namespace Go.Proofs.YtjdlnfmeciodnaaDoor
open Go.RowKit

theorem dadd_step {x y cn s t k X Y Z : Nat} (hs : s + 65536 * t = cn + x + y) (h : Z + D.pw k * cn = X + Y) : Z + D.pw k * s + D.pw (k + 1) * t = X + D.pw k * x + (Y + D.pw k * y) := by
  have e : D.pw (k + 1) * t = D.pw k * (65536 * t) := by rw [D.pw_succ, Nat.mul_assoc, ← Nat.mul_assoc, ← Nat.mul_assoc, Nat.mul_comm (D.pw k)]
  have e2 : D.pw k * (s + 65536 * t) = D.pw k * (cn + x + y) := by rw [hs]
  rw [Nat.mul_add, Nat.mul_add, Nat.mul_add] at e2
  omega
theorem dbare_of {es : List Nat} {k : Nat} (hw : D.Words es) (hl : es.length = k) (h : k = 0 ∨ D.pw (k - 1) ≤ D.val es) : D.Bare es := by
  show D.tl es = es.length
  have h1 := D.tl_le es
  rcases Nat.lt_or_ge (D.tl es) es.length with h2 | h2
  · exfalso
    have h3 := D.val_lt_tl hw
    have h4 : D.pw (D.tl es) ≤ D.pw (k - 1) := D.pw_mono (by omega)
    rcases h with h | h
    · omega
    · omega
  · omega
theorem dval_ge {ds : List Nat} {n : Nat} (hb : D.Bare ds) (hl : ds.length = n) : n = 0 ∨ D.pw (n - 1) ≤ D.val ds := by
  cases n with
  | zero => exact Or.inl rfl
  | succ j => exact Or.inr (D.val_pos_of_tl (by rw [hb, hl]; rfl))
theorem getD_past {ds : List Nat} {k : Nat} (h : ds.length ≤ k) : ds.getD k 0 = 0 := by
  rw [List.getD_eq_getElem?_getD, List.getElem?_eq_none h]; rfl

set_option maxHeartbeats 4000000 in
theorem radd_any (A : Option Addr) (n c : Nat) (us : List Nat) (B : Option Addr) (m d : Nat) (bs : List Nat) (w : World) (hA : Dig w A n c us) (hB : Dig w B m d bs) (ba : D.Bare us) (bb : D.Bare bs) (hn : n ≤ 1000000) (hm : m ≤ 1000000) :
    Calls Tryd.prog 76 #[.slice A n c, .slice B m d] w (DTells w (D.val us + D.val bs) (max n m + 1)) := by
  have HA := Lib.hid hA
  have HB := Lib.hid hB
  have Hga := Lib.hid (dval_ge ba hA.len)
  have Hgb := Lib.hid (dval_ge bb hB.len)
  clear hA hB ba bb
  go_enter Tryd.func76, Tryd.ntmps76
  go_wp2
  go_loopw [5, 6, 7] (fun v cy i wr => ∃ (k cn m1 c1 : Nat) (A1 : Option Addr) (es : List Nat), k ≤ max n m + 1 ∧ cn ≤ 1 ∧ m1 ≤ k ∧ k ≤ m1 ∧ i = .int .i64 k ∧ cy = .int .u32 cn ∧ v = .slice A1 m1 c1 ∧ Hid (es.length = m1) ∧ Hid (Own .u32 54 wr w.heap.size (.slice A1 m1 c1) es) ∧ Hid (D.Words es) ∧ Hid (D.val es + D.pw k * cn = D.val (us.take k) + D.val (bs.take k)) ∧ Hid (k ≤ max n m ∨ (cn = 0 ∧ D.pw (max n m) ≤ D.val us + D.val bs)) ∧ Below w.heap.size w wr) (fun _ _ i _ => max n m + 1 - (intOf i).toNat)
  case atStart => exact ⟨0, 0, 0, 0, none, [], Nat.zero_le _, Nat.zero_le _, Nat.zero_le _, Nat.zero_le _, rfl, rfl, rfl, rfl, Own.nil _ _ _ _, D.Words.nil, by simp [Hid, D.val], Or.inl (Nat.zero_le _), Below.refl _ _⟩
  case round =>
    obtain ⟨k, cn, m1, c1, A1, es, hk, hcn, hm1, hm2, rfl, rfl, rfl, Hl, Ho, Hw, HE, HM, hb⟩ := hrel
    obtain ⟨x, hx⟩ : ∃ x, us.getD k 0 = x := ⟨_, rfl⟩
    obtain ⟨y, hy⟩ : ∃ y, bs.getD k 0 = y := ⟨_, rfl⟩
    have hxw := HA.out.words.getD k
    have hyw := HB.out.words.getD k
    rw [hx] at hxw
    rw [hy] at hyw
    obtain ⟨s, t, hst, hs, ht⟩ : ∃ s t, s + 65536 * t = cn + x + y ∧ s < 65536 ∧ t ≤ 1 := ⟨(cn + x + y) % 65536, (cn + x + y) / 65536, by omega, by omega, by omega⟩
    have hm3 : m1 = k := by omega
    have HE' := Lib.hid (dadd_step hst HE.out)
    rw [← hx, ← hy, ← D.val_take_succ', ← D.val_take_succ'] at HE'
    obtain ⟨A3, c3, w3, hrun, ho3, hb3⟩ := app_digit wr w.heap.size A1 m1 c1 es s s rfl Ho.out Hl.out hb.size (by omega)
    have Hrun := Lib.hid hrun
    have Ho3 := Lib.hid ho3
    have hb4 := hb.trans hb3
    have Hl3 : Hid ((es ++ [s]).length = m1 + 1) := by have := Hl.out; simp [Hid]; omega
    have Hw3 : Hid (D.Words (es ++ [s])) := Hw.out.append (D.Words.one hs)
    have HE3 : Hid (D.val (es ++ [s]) + D.pw (k + 1) * t = D.val (us.take (k + 1)) + D.val (bs.take (k + 1))) := by rw [D.val_snoc, Hl.out, hm3]; exact HE'.out
    have Hst := Lib.hid hst
    have Hx := Lib.hid hx
    have Hy := Lib.hid hy
    have hla := HA.out.len
    have hlb := HB.out.len
    clear hrun ho3 hb3 hx hy hst HE' hm3
    by_cases h1 : k < n
    · have HM3 : Hid (k + 1 ≤ max n m ∨ (t = 0 ∧ D.pw (max n m) ≤ D.val us + D.val bs)) := Or.inl (by omega)
      by_cases h2 : k < m
      · obtain ⟨ba, oa, rfl, hba, hcl⟩ := HA.out.at_ (by omega)
        have ca := (hb.cell (p := ⟨ba, oa + k, none⟩) hba).trans (hcl k (by omega))
        rw [Hx.out] at ca
        clear hcl
        obtain ⟨bb, ob, rfl, hbb, hcl⟩ := HB.out.at_ (by omega)
        have cb := (hb.cell (p := ⟨bb, ob + k, none⟩) hbb).trans (hcl k (by omega))
        rw [Hy.out] at cb
        clear hcl
        have e1 : ((cn : Int) + (x : Int) + (y : Int)) % 65536 = (s : Int) := by have := Hst.out; omega
        have e2 : ((cn : Int) + (x : Int) + (y : Int)) / 65536 = (t : Int) := by have := Hst.out; omega
        have b1 : decide (k < n) = true := by simp; omega
        have b2 : decide (k < m) = true := by simp; omega
        clear hla hlb
        go_wp2_with (at_builtin; refine wpList_app (s := .tmp 46) (x := .tmp 49) (by rfl) rfl rfl rfl Hrun.out ?_)
        go_roundw
        case rel => exact ⟨k + 1, t, m1 + 1, c3, A3, es ++ [s], by omega, ht, by omega, by omega, by go_num, by first | rfl | rw [e2], rfl, Hl3, Ho3, Hw3, HE3, HM3, hb4⟩
        case measure => simp [intOf]; omega
      · obtain ⟨ba, oa, rfl, hba, hcl⟩ := HA.out.at_ (by omega)
        have ca := (hb.cell (p := ⟨ba, oa + k, none⟩) hba).trans (hcl k (by omega))
        rw [Hx.out] at ca
        clear hcl
        have hy0 : y = 0 := by rw [← Hy.out]; exact getD_past (by omega)
        have e1 : ((cn : Int) + (x : Int)) % 65536 = (s : Int) := by have := Hst.out; omega
        have e2 : ((cn : Int) + (x : Int)) / 65536 = (t : Int) := by have := Hst.out; omega
        have b1 : decide (k < n) = true := by simp; omega
        have b2 : decide (k < m) = false := by simp; omega
        clear hla hlb hy0
        go_wp2_with (at_builtin; refine wpList_app (s := .tmp 46) (x := .tmp 49) (by rfl) rfl rfl rfl Hrun.out ?_)
        go_roundw
        case rel => exact ⟨k + 1, t, m1 + 1, c3, A3, es ++ [s], by omega, ht, by omega, by omega, by go_num, by first | rfl | rw [e2], rfl, Hl3, Ho3, Hw3, HE3, HM3, hb4⟩
        case measure => simp [intOf]; omega
    · by_cases h2 : k < m
      · have HM3 : Hid (k + 1 ≤ max n m ∨ (t = 0 ∧ D.pw (max n m) ≤ D.val us + D.val bs)) := Or.inl (by omega)
        have hx0 : x = 0 := by rw [← Hx.out]; exact getD_past (by omega)
        obtain ⟨bb, ob, rfl, hbb, hcl⟩ := HB.out.at_ (by omega)
        have cb := (hb.cell (p := ⟨bb, ob + k, none⟩) hbb).trans (hcl k (by omega))
        rw [Hy.out] at cb
        clear hcl
        have e1 : ((cn : Int) + (y : Int)) % 65536 = (s : Int) := by have := Hst.out; omega
        have e2 : ((cn : Int) + (y : Int)) / 65536 = (t : Int) := by have := Hst.out; omega
        have b1 : decide (k < n) = false := by simp; omega
        have b2 : decide (k < m) = true := by simp; omega
        clear hla hlb hx0
        go_wp2_with (at_builtin; refine wpList_app (s := .tmp 46) (x := .tmp 49) (by rfl) rfl rfl rfl Hrun.out ?_)
        go_roundw
        case rel => exact ⟨k + 1, t, m1 + 1, c3, A3, es ++ [s], by omega, ht, by omega, by omega, by go_num, by first | rfl | rw [e2], rfl, Hl3, Ho3, Hw3, HE3, HM3, hb4⟩
        case measure => simp [intOf]; omega
      · have hx0 : x = 0 := by rw [← Hx.out]; exact getD_past (by omega)
        have hy0 : y = 0 := by rw [← Hy.out]; exact getD_past (by omega)
        have b1 : decide (k < n) = false := by simp; omega
        have b2 : decide (k < m) = false := by simp; omega
        have hta : us.take k = us := List.take_of_length_le (by omega)
        have htb : bs.take k = bs := List.take_of_length_le (by omega)
        have HEf : Hid (D.val es + D.pw k * cn = D.val us + D.val bs) := by have := HE.out; rw [hta, htb] at this; exact this
        by_cases h3 : cn = 1
        · have e1 : (cn : Int) % 65536 = (s : Int) := by have := Hst.out; omega
          have e2 : (cn : Int) / 65536 = (t : Int) := by have := Hst.out; omega
          have b3 : decide (0 < cn) = true := by simp; omega
          have hkM : k ≤ max n m := by
            rcases HM.out with h | ⟨h, _⟩
            · exact h
            · omega
          have HM3 : Hid (k + 1 ≤ max n m ∨ (t = 0 ∧ D.pw (max n m) ≤ D.val us + D.val bs)) := Or.inr ⟨by have := Hst.out; omega, by
            have h4 := HEf.out
            rw [h3, Nat.mul_one, show k = max n m from by omega] at h4
            omega⟩
          clear hla hlb hx0 hy0 hta htb h3
          go_wp2_with (at_builtin; refine wpList_app (s := .tmp 46) (x := .tmp 49) (by rfl) rfl rfl rfl Hrun.out ?_)
          go_roundw
          case rel => exact ⟨k + 1, t, m1 + 1, c3, A3, es ++ [s], by omega, ht, by omega, by omega, by go_num, by first | rfl | rw [e2], rfl, Hl3, Ho3, Hw3, HE3, HM3, hb4⟩
          case measure => simp [intOf]; omega
        · obtain rfl : cn = 0 := by omega
          have hV : D.val es = D.val us + D.val bs := by have := HEf.out; rw [Nat.mul_zero, Nat.add_zero] at this; exact this
          have hbare : D.Bare es := dbare_of Hw.out Hl.out (by
            rw [hV]
            rcases HM.out with h | ⟨_, h⟩
            · obtain rfl : m1 = max n m := by omega
              rcases Nat.le_total n m with hnm | hnm
              · rw [Nat.max_eq_right hnm]
                rcases Hgb.out with g | g
                · exact Or.inl g
                · exact Or.inr (by omega)
              · rw [Nat.max_eq_left hnm]
                rcases Hga.out with g | g
                · exact Or.inl g
                · exact Or.inr (by omega)
            · by_cases e : m1 ≤ max n m
              · obtain rfl : m1 = max n m := by omega
                have : D.pw (max n m - 1) ≤ D.pw (max n m) := D.pw_mono (by omega)
                exact Or.inr (by omega)
              · rw [show m1 - 1 = max n m from by omega]
                exact Or.inr h)
          have Hfin : Hid (DTells w (D.val us + D.val bs) (max n m + 1) (.returned (.slice A1 m1 c1)) wr) := ⟨A1, m1, c1, es, rfl, by omega, Ho.out.dig Hl.out Hw.out, hbare, hV, hb⟩
          clear hla hlb hx0 hy0 hta htb h3 hV hbare
          go_wp2
          go_ret
          exact Hfin.out
end Go.Proofs.YtjdlnfmeciodnaaDoor

/- The walks of planimeterref01.Cmp and of nat.Bare. -/
namespace Go.Proofs.YtjdlnfmeciodnaaDoor
open Go.RowKit

set_option maxHeartbeats 2000000 in
theorem rcmp_any (A : Option Addr) (n c : Nat) (us : List Nat) (B : Option Addr) (m d : Nat) (bs : List Nat) (w : World) (hA : Dig w A n c us) (hB : Dig w B m d bs) (ba : D.Bare us) (bb : D.Bare bs) (hn : n ≤ 1000000) (hm : m ≤ 1000000) :
    Calls Tryd.prog 77 #[.slice A n c, .slice B m d] w fun e w' => e = .returned (.int .i64 (cmpZ (D.val us) (D.val bs))) ∧ ∃ q, w' = w.drewN q := by
  have hta : D.tl us = n := by rw [ba, hA.len]
  have htb : D.tl bs = m := by rw [bb, hB.len]
  rcases Nat.lt_trichotomy n m with hlt | heq | hgt
  · have HV := Lib.hid (cmpZ_lt (D.val_lt_of_tl_lt (ys := bs) hA.words (by omega)))
    have b1 : ((n : Int) != (m : Int)) = true := by rw [bne_iff_ne]; omega
    have b2 : decide (n < m) = true := by simp; omega
    clear hta htb hA hB ba bb
    go_enter Tryd.func77, Tryd.ntmps77
    go_wp2
    go_ret
    exact ⟨by rw [HV.out]; rfl, 0, rfl⟩
  · subst heq
    have HA := Lib.hid hA
    have HB := Lib.hid hB
    clear hta htb hA hB ba bb
    have b1 : ((n : Int) != (n : Int)) = false := by simp
    go_enter Tryd.func77, Tryd.ntmps77
    go_wp2
    clear b1
    go_loopw [5] (fun i wr => ∃ k q : Nat, k ≤ n ∧ i = .int .i64 ((k : Int) - 1) ∧ wr = w.drewN q ∧ Hid (∀ j, k ≤ j → j < n → us.getD j 0 = bs.getD j 0)) (fun i _ => (intOf i + 1).toNat)
    case atStart => exact ⟨n, 0, Nat.le_refl _, rfl, rfl, fun j h1 h2 => by omega⟩
    case round =>
      obtain ⟨k, q, hk, rfl, rfl, hz⟩ := hrel
      have Hfa : Hid (us.take n = us) := List.take_of_length_le (by rw [HA.out.len]; exact Nat.le_refl _)
      have Hfb : Hid (bs.take n = bs) := List.take_of_length_le (by rw [HB.out.len]; exact Nat.le_refl _)
      cases k with
      | zero =>
        have HV := Lib.hid (cmpZ_eq (show D.val us = D.val bs by rw [← Hfa.out, ← Hfb.out]; exact D.take_congr (fun j hj => hz.out j (Nat.zero_le _) hj)))
        go_wp2
        go_ret
        exact ⟨by rw [HV.out]; rfl, q, rfl⟩
      | succ k =>
        rw [show (((k + 1 : Nat) : Int) - 1) = (k : Int) from by omega]
        obtain ⟨b, o, rfl, hb, hcl⟩ := HA.out.at_ (by omega)
        have c1 := hcl k (by omega)
        clear hcl
        obtain ⟨b', o', rfl, hb', hcl⟩ := HB.out.at_ (by omega)
        have c2 := hcl k (by omega)
        clear hcl
        obtain ⟨x, hx⟩ : ∃ x, us.getD k 0 = x := ⟨_, rfl⟩
        obtain ⟨y, hy⟩ : ∃ y, bs.getD k 0 = y := ⟨_, rfl⟩
        rw [hx] at c1
        rw [hy] at c2
        have Hx := Lib.hid hx
        have Hy := Lib.hid hy
        clear hx hy
        have hk1 : (k : Int) < (n : Int) := by omega
        rcases Nat.lt_trichotomy x y with hlt | heq | hgt
        · have b4 : decide (x < y) = true := by simp; omega
          have HV := Lib.hid (cmpZ_lt (show D.val us < D.val bs by
            rw [← Hfa.out, ← Hfb.out]
            exact D.val_lt_of_digit HA.out.words (i := k) (by omega) (by have := HA.out.len; omega) (by have := HB.out.len; omega) (fun j h1 h2 => hz.out j (by omega) h2) (by rw [Hx.out, Hy.out]; exact hlt)))
          go_wp2
          go_quiet (fail)
          go_wp2
          go_ret
          exact ⟨by rw [HV.out]; rfl, _, by first | rfl | (simp only [World.drewN_drewN]; rfl)⟩
        · subst heq
          have b4 : decide (x < x) = false := by simp
          go_wp2
          go_quiet (fail)
          go_wp2
          go_quiet (fail)
          go_wp2
          go_roundw
          case rel => exact ⟨k, _, by omega, by go_num, by first | rfl | (simp only [World.drewN_drewN]; rfl), fun j h1 h2 => by
            by_cases e : j = k
            · rw [e, Hx.out, Hy.out]
            · exact hz.out j (by omega) h2⟩
          case measure => simp [intOf]
        · have b4 : decide (x < y) = false := by simp; omega
          have b5 : decide (y < x) = true := by simp; omega
          have HV := Lib.hid (cmpZ_gt (show D.val bs < D.val us by
            rw [← Hfa.out, ← Hfb.out]
            exact D.val_lt_of_digit HB.out.words (i := k) (by omega) (by have := HB.out.len; omega) (by have := HA.out.len; omega) (fun j h1 h2 => (hz.out j (by omega) h2).symm) (by rw [Hx.out, Hy.out]; exact hgt)))
          go_wp2
          go_quiet (fail)
          go_wp2
          go_quiet (fail)
          go_wp2
          go_ret
          exact ⟨by rw [HV.out]; rfl, _, by first | rfl | (simp only [World.drewN_drewN]; rfl)⟩
  · have HV := Lib.hid (cmpZ_gt (D.val_lt_of_tl_lt (ys := us) hB.words (by omega)))
    have b1 : ((n : Int) != (m : Int)) = true := by rw [bne_iff_ne]; omega
    have b2 : decide (n < m) = false := by simp; omega
    clear hta htb hA hB ba bb
    go_enter Tryd.func77, Tryd.ntmps77
    go_wp2
    go_ret
    exact ⟨by rw [HV.out]; rfl, 0, rfl⟩

theorem size64 : (Tryd.prog.info? 30).map (·.size) = some 1 := by kernel_rfl


end Go.Proofs.YtjdlnfmeciodnaaDoor

/- The walks of prod.squares and prod.Pow: any power of any number. -/
namespace Go.Proofs.YtjdlnfmeciodnaaDoor
open Go.RowKit

theorem half_bit (k p : Nat) : k / 2 ^ p = 2 * (k / 2 ^ (p + 1)) + k / 2 ^ p % 2 := by
  rw [Nat.pow_succ, ← Nat.div_div_eq_div_mul]
  omega
theorem top_one {k : Nat} (hk : 1 ≤ k) : k / 2 ^ (blen k - 1) = 1 := by
  have h1 := blen_le (show k ≠ 0 by omega)
  have h2 := lt_blen k
  have h3 := blen_pos (show k ≠ 0 by omega)
  have h4 : 2 ^ blen k = 2 * 2 ^ (blen k - 1) := by
    rw [Nat.mul_comm, ← Nat.pow_succ]
    congr 1
    omega
  rw [h4] at h2
  apply Nat.div_eq_of_lt_le
  · omega
  · omega
theorem pow_le_of {X j k : Nat} (hX : 1 ≤ X) (h : j ≤ k) : X ^ j ≤ X ^ k := Nat.pow_le_pow_right hX h

theorem bits_and_i64_nat (a b : Nat) (ha : a < 9223372036854775808) (hb : b < 9223372036854775808) : bits .and .i64 (a : Int) (b : Int) = ((a &&& b : Nat) : Int) := by
  have hx : a &&& b < 2 ^ 63 := Nat.and_lt_two_pow _ (by omega)
  have h1 : (BitVec.ofInt 64 (a : Int)).toNat = a := by
    rw [BitVec.ofInt_natCast, BitVec.toNat_ofNat]; exact Nat.mod_eq_of_lt (by omega)
  have h2 : (BitVec.ofInt 64 (b : Int)).toNat = b := by
    rw [BitVec.ofInt_natCast, BitVec.toNat_ofNat]; exact Nat.mod_eq_of_lt (by omega)
  show IntKind.i64.wrap ((BitVec.ofInt 64 (a : Int) &&& BitVec.ofInt 64 (b : Int)).toNat : Int) = _
  rw [BitVec.toNat_and, h1, h2, IntKind.wrap_i64]
  omega
theorem and_one_i64 (k p : Nat) (hk : k < 9223372036854775808) : bits BinOp.and IntKind.i64 ((k : Int) / 2 ^ p) 1 = ((k / 2 ^ p % 2 : Nat) : Int) := by
  have h1 : k / 2 ^ p ≤ k := Nat.div_le_self _ _
  have h := bits_and_i64_nat (k / 2 ^ p) 1 (by omega) (by decide)
  rw [Nat.and_one_is_mod] at h
  rw [← h]
  congr 1

/-- What squares and Pow tell: the power, or that it is too long. -/
def PowTells (w : World) (V : Nat) (e : Ending) (w' : World) : Prop :=
  (blen V ≤ 65536 ∧ Tells2 w V 1024 (.int .i64 0) e w') ∨ (65536 < blen V ∧ e = .returned (.tuple #[.slice none 0 0, .int .i64 2]) ∧ Below w.heap.size w w')






end Go.Proofs.YtjdlnfmeciodnaaDoor

/- The walk of planimeterlaw02.alive; products and powers by their lengths. -/
namespace Go.Proofs.YtjdlnfmeciodnaaDoor
open Go.RowKit

theorem blen_two_pow (k : Nat) : blen (2 ^ k) = k + 1 := by
  apply blen_eq
  · exact Nat.pow_le_pow_right (by decide) (by omega)
  · exact Nat.pow_lt_pow_right (by decide) (by omega)
  · omega
theorem long_two (k : Nat) (hk : 65536 ≤ k) : 65536 < blen (val [2] ^ k) := by
  rw [show val [2] = 2 from by decide, blen_two_pow]; omega
theorem Lim.blen_le {w : World} {A : Option Addr} {n c : Nat} {xs : List Nat} (h : Lim w A n c xs) : blen (val xs) ≤ 64 * n := by
  have := tl_of_blen h.words
  have := h.tl_le
  omega




end Go.Proofs.YtjdlnfmeciodnaaDoor

/- The walk of nat.Shr. -/
namespace Go.Proofs.YtjdlnfmeciodnaaDoor
open Go.RowKit

theorem Tab.below {w w' : World} (h : Tab w) (hb : Below w.heap.size w w') : Tab w' := fun j hj => by
  have hc := h j hj
  exact (hb.cell (p := ⟨0, j, none⟩) (World.block_lt_of_cell? _ _ hc)).trans hc

theorem getD_drop (ps : List Nat) (j k : Nat) : (ps.drop j).getD k 0 = ps.getD (j + k) 0 := by
  rw [List.getD_eq_getElem?_getD, List.getElem?_drop, ← List.getD_eq_getElem?_getD]

theorem pow64 {p : Nat} (hp : p ≤ 64) : (18446744073709551616 : Nat) = 2 ^ p * 2 ^ (64 - p) := by
  rw [← Nat.pow_add, show p + (64 - p) = 64 from by omega]
theorem shr_word (x y p : Nat) (hx : x < 18446744073709551616) (hp : p < 64) : x / 2 ^ p + y % 2 ^ p * 2 ^ (64 - p) < 18446744073709551616 := by
  have h64 := pow64 (p := p) (by omega)
  have h1 : x / 2 ^ p < 2 ^ (64 - p) := by rw [Nat.div_lt_iff_lt_mul (Nat.pow_pos (by decide)), Nat.mul_comm, ← h64]; exact hx
  have h2 : (y % 2 ^ p + 1) * 2 ^ (64 - p) ≤ 2 ^ p * 2 ^ (64 - p) := Nat.mul_le_mul_right _ (Nat.mod_lt _ (Nat.pow_pos (by decide)))
  rw [Nat.add_mul, Nat.one_mul, ← h64] at h2
  omega
theorem shr_or (x y p : Nat) (hx : x < 18446744073709551616) (hp : p < 64) :
    bits BinOp.or IntKind.u64 ((x : Int) / 2 ^ p) (IntKind.u64.wrap ((y : Int) * 2 ^ (64 - p))) = ((x / 2 ^ p + y % 2 ^ p * 2 ^ (64 - p) : Nat) : Int) := by
  have h64 := pow64 (p := p) (by omega)
  have h1 : x / 2 ^ p < 2 ^ (64 - p) := by rw [Nat.div_lt_iff_lt_mul (Nat.pow_pos (by decide)), Nat.mul_comm, ← h64]; exact hx
  have e1 : (x : Int) / 2 ^ p = ((x / 2 ^ p : Nat) : Int) := by simp
  have e2 : IntKind.u64.wrap ((y : Int) * 2 ^ (64 - p)) = ((y % 2 ^ p * 2 ^ (64 - p) : Nat) : Int) := by
    rw [IntKind.wrap_u64, show (y : Int) * 2 ^ (64 - p) = ((y * 2 ^ (64 - p) : Nat) : Int) from by simp]
    rw [show (18446744073709551616 : Int) = ((18446744073709551616 : Nat) : Int) from rfl, ← Int.natCast_emod, h64, Nat.mul_mod_mul_right]
  have hw := shr_word x y p hx hp
  rw [e1, e2, bits_or_u64_nat _ _ (Nat.lt_of_le_of_lt (Nat.le_add_right _ _) hw) (Nat.lt_of_le_of_lt (Nat.le_add_left _ _) hw)]
  have e3 := Nat.shiftLeft_add_eq_or_of_lt h1 (y % 2 ^ p)
  rw [Nat.shiftLeft_eq] at e3
  rw [Nat.or_comm, ← e3, Nat.add_comm]
theorem shr_step {x y p k Z V d : Nat} (hp : p ≤ 64) (h : Z * 2 ^ p + d = V + pw k * (x % 2 ^ p)) :
    (Z + pw k * (x / 2 ^ p + y % 2 ^ p * 2 ^ (64 - p))) * 2 ^ p + d = V + pw k * x + pw (k + 1) * (y % 2 ^ p) := by
  have h64 := pow64 hp
  have e1 : pw (k + 1) * (y % 2 ^ p) = pw k * (y % 2 ^ p * 2 ^ (64 - p) * 2 ^ p) := by
    rw [pw_succ, h64]
    simp only [Nat.mul_assoc, Nat.mul_comm, Nat.mul_left_comm]
  have e2 : pw k * x = pw k * (x / 2 ^ p * 2 ^ p) + pw k * (x % 2 ^ p) := by rw [← Nat.mul_add, Nat.div_add_mod']
  have e3 : (Z + pw k * (x / 2 ^ p + y % 2 ^ p * 2 ^ (64 - p))) * 2 ^ p = Z * 2 ^ p + pw k * (x / 2 ^ p * 2 ^ p) + pw k * (y % 2 ^ p * 2 ^ (64 - p) * 2 ^ p) := by
    rw [Nat.add_mul, Nat.mul_assoc, Nat.add_mul, Nat.mul_add, Nat.add_assoc]
  rw [e1, e2, e3]
  omega
theorem shr_end {ps zs : List Nat} {p wh d : Nat} (h : val zs * 2 ^ p + d % 2 ^ p = val (ps.drop wh)) (hw : wh ≤ ps.length) (hps : Words ps) : val zs = val ps / 2 ^ (64 * wh + p) := by
  have h1 := val_split ps wh hw
  have h2 := val_lt (hps.take wh)
  rw [List.length_take, Nat.min_eq_left hw] at h2
  rw [Nat.pow_add, ← Nat.div_div_eq_div_mul, ← pw_two, h1, Nat.add_mul_div_left _ _ (pw_pos wh), Nat.div_eq_of_lt h2, Nat.zero_add, ← h]
  rw [Nat.add_comm, Nat.mul_comm, Nat.add_mul_div_left _ _ (Nat.pow_pos (by decide)), Nat.div_eq_of_lt (Nat.mod_lt _ (Nat.pow_pos (by decide))), Nat.zero_add]

set_option maxHeartbeats 2000000 in
theorem shr_any (A : Option Addr) (n c : Nat) (xs : List Nat) (w : World) (hA : Lim w A n c xs) (hn : n ≤ 1099511627776) (hT : Tab w) (i : Int) (wh p : Nat) (hi : max i 0 = ((64 * wh + p : Nat) : Int)) (hp : p < 64) (hlt : wh < tl xs) :
    Calls Tryd.prog 60 #[.slice A n c, .int .i64 i] w (Tells2 w (val xs / 2 ^ (64 * wh + p)) n (.bool (decide (val xs % 2 ^ (64 * wh + p) ≠ 0)))) := by
  have hP := hA.trim
  have HX := Lib.hid (val_take_tl xs)
  have l1 := hA.tl_le
  obtain ⟨la, hla⟩ : ∃ l, tl xs = l := ⟨_, rfl⟩
  rw [hla] at l1 hP HX hlt
  have Hla := Lib.hid hla
  clear hla
  generalize xs.take la = ps at hP HX
  obtain ⟨N, hN⟩ : ∃ N, 64 * wh + p = N := ⟨_, rfl⟩
  rw [hN] at hi ⊢
  have e1 : (N : Int) / 64 = (wh : Int) := by omega
  have e2 : (N : Int) % 64 = (p : Int) := by omega
  obtain ⟨L, hL⟩ : ∃ L, la = wh + L := ⟨la - wh, by omega⟩
  have hmk := run_make_row' (P := Tryd.prog) 22 30 (.int .u64 0) 8 Tryd.underlying22 info64 rfl .i64 .i64 L (by omega) (by omega)
  have e3 : (la : Int) - (wh : Int) = (L : Int) := by omega
  have HN := Lib.hid hN
  have HL := Lib.hid hL
  have hL2 : L ≤ la := by omega
  have hL3 : la ≤ wh + L := by omega
  have hL4 : wh + L ≤ la := by omega
  have hN1 : N ≤ 64 * la := by omega
  clear hN hL
  have b0 : decide (la ≤ wh) = false := by simp; omega
  obtain ⟨r, hr⟩ : ∃ r, r = decide (val xs % 2 ^ N ≠ 0) := ⟨_, rfl⟩
  rw [← hr]
  have Hr := Lib.hid hr
  clear hr
  go_enter Tryd.func60, Tryd.ntmps60
  go_wp2_with fail
  refine (trim_to la A n c xs _ hA (by omega) Hla).mono ?_
  rintro e w' ⟨rfl, rfl⟩
  go_wp2_with fail
  clear hmk hi e1 e2 e3
  go_loopw [33] (fun i wr => ∃ (k : Nat) (zs : List Nat), k ≤ L ∧ i = .int .i64 k ∧ Hid (zs.length = k) ∧ Fill w wr w.heap.size 30 L zs ∧ Hid (val zs * 2 ^ p + ps.getD wh 0 % 2 ^ p = val ((ps.drop wh).take k) + pw k * (ps.getD (wh + k) 0 % 2 ^ p))) (fun i _ => L - (intOf i).toNat)
  case atStart => exact ⟨0, [], Nat.zero_le _, rfl, rfl, Fill.start w _ _, by simp [Hid, val, pw_zero]⟩
  case round =>
    obtain ⟨k, zs, hk, rfl, Hzl, hF, HE⟩ := hrel
    by_cases hkl : k < L
    · have hPr := hF.lim hP
      obtain ⟨b, o, hAe, hb, hcl⟩ := hP.at_ (by omega)
      subst hAe
      have c1 := (hF.below.cell (p := ⟨b, o + (wh + k), none⟩) hb).trans (hcl (wh + k) (by omega))
      clear hcl
      have c2 := hF.cell (j := k) (by omega)
      have c3 := hF.frozen k
      have hxw := hP.words.getD (wh + k)
      have hyw := hP.words.getD (wh + k + 1)
      obtain ⟨x, hx⟩ : ∃ x, ps.getD (wh + k) 0 = x := ⟨_, rfl⟩
      obtain ⟨y, hy⟩ : ∃ y, ps.getD (wh + k + 1) 0 = y := ⟨_, rfl⟩
      rw [hx] at c1 hxw
      rw [hy] at hyw
      have Hx := Lib.hid hx
      have Hy := Lib.hid hy
      have HF := Lib.hid hF
      clear hx hy hF
      have hat := at_any (some ⟨b, o, none⟩) la c ps (wh + k + 1)
      rw [Hy.out] at hat
      rw [show ((wh + k + 1 : Nat) : Int) = (wh : Int) + (k : Int) + 1 from by omega] at hat
      have Hat := Lib.hid hat
      clear hat
      have c4 : ∀ v, (wr.setCell ⟨w.heap.size, k, none⟩ v).cell? ⟨b, o + (wh + k), none⟩ = some (.int .u64 (x : Int)) := fun v => by
        rw [World.cell?_setCell_other _ _ _ _ (fun e => by have := congrArg Addr.block e; simp at this; omega)]; exact c1
      have d7 : IntKind.u64.wrap (64 - (p : Int)) = ((64 - p : Nat) : Int) := by rw [IntKind.wrap_u64]; omega
      have d1 : (wh : Int) + (k : Int) < (la : Int) := by omega
      have d2 : (k : Int) < (L : Int) := by omega
      have d3 : IntKind.i64.wrap ((wh : Int) + (k : Int)) = (wh : Int) + (k : Int) := IntWalk.i64_in _ (by omega)
      have d4 : IntKind.i64.wrap ((wh : Int) + (k : Int) + 1) = (wh : Int) + (k : Int) + 1 := IntWalk.i64_in _ (by omega)
      have d5 : ((wh : Int) + (k : Int)).toNat = wh + k := by omega
      have d6 : (0 : Int) ≤ (wh : Int) + (k : Int) := by omega
      go_wp2_with fail
      go_region_held3 (fun w' => w'.cell? ⟨b, o + (wh + k), none⟩ = some (.int .u64 (x : Int))) (go_keep)
        (first
          | (go_at_call 68; refine (Hat.out _ (by exact hPr) (by omega) (by omega)).mono ?_; rintro e w' ⟨rfl, rfl⟩))
      have HE2 := Lib.hid (shr_step (x := x) (y := y) (Nat.le_of_lt hp) (show val zs * 2 ^ p + ps.getD wh 0 % 2 ^ p = val ((ps.drop wh).take k) + pw k * (x % 2 ^ p) by rw [← Hx.out]; exact HE.out))
      go_wp2
      go_roundw
      case rel =>
        refine ⟨k + 1, zs ++ [x / 2 ^ p + y % 2 ^ p * 2 ^ (64 - p)], by omega, by go_num, ?_, ?_, ?_⟩
        · have := Hzl.out; simp [Hid]; omega
        · rw [shr_or x y p hxw hp]
          exact (HF.out.push Hzl.out.symm (by omega) (shr_word x y p hxw hp)).drewN 1
        · have e := HE2.out
          rw [show wh + (k + 1) = wh + k + 1 from by omega, Hy.out, val_snoc, Hzl.out, val_take_succ', getD_drop, Hx.out]
          exact e
      case measure => simp [intOf]; omega
    · obtain rfl : k = L := by omega
      have hlim := hF.done Hzl.out
      have HV : Hid (val zs = val xs / 2 ^ N) := by
        have e1 := HE.out
        have hlen := hP.len
        have e0 : ps.getD (wh + k) 0 = 0 := by rw [List.getD_eq_getElem?_getD, List.getElem?_eq_none (by omega)]; rfl
        rw [e0, List.take_of_length_le (by rw [List.length_drop]; omega), Nat.zero_mod, Nat.mul_zero, Nat.add_zero] at e1
        rw [← HX.out, ← HN.out]
        exact shr_end e1 (by omega) hP.words
      have hbel := hF.below
      have hTr := hT.below hbel
      have hPr := hF.lim hP
      have HR : Hid (r = decide (low (val ps) < N)) := by
        have h0 : 0 < val ps := by
          rcases Nat.eq_zero_or_pos (val ps) with h | h
          · rw [HX.out] at h
            have := tl_zero_iff.2 h
            rw [Hla.out] at this
            omega
          · exact h
        have := low_lt_iff (n := N) h0
        show r = decide (low (val ps) < N)
        rw [Hr.out]
        exact decide_eq_decide.2 (by rw [← HX.out]; exact this.symm)
      have hlow := low_any A la c ps _ hPr (by omega) hTr
      generalize low (val ps) = lw at hlow HR
      have Hlow := Lib.hid hlow
      clear HE hF hP hlow
      go_wp2_with fail
      refine (trim_any _ _ _ zs _ hlim (by omega)).mono ?_
      rintro e w' ⟨rfl, rfl⟩
      go_wp2_with fail
      refine Hlow.out.mono ?_
      rintro e w' ⟨rfl, rfl⟩
      go_wp2
      go_ret2
      rw [HR.out]
      exact tells2_trim hlim hbel HV.out (by omega) rfl

theorem shr_far (A : Option Addr) (n c : Nat) (xs : List Nat) (w : World) (hA : Lim w A n c xs) (hn : n ≤ 1099511627776) (i : Int) (hib : i ≤ 9223372036854775807) (wh N : Nat) (hi : max i 0 = (N : Int)) (hN : N / 64 = wh) (hge : tl xs ≤ wh) :
    Calls Tryd.prog 60 #[.slice A n c, .int .i64 i] w (Tells2 w (val xs / 2 ^ N) n (.bool (decide (val xs % 2 ^ N ≠ 0)))) := by
  have l1 := hA.tl_le
  have h1 : val xs < 2 ^ N := Nat.lt_of_lt_of_le (val_lt_tl hA.words) (by rw [pw_two]; exact Nat.pow_le_pow_right (by decide) (by omega))
  have hr : decide (val xs % 2 ^ N ≠ 0) = decide (0 < tl xs) := by
    rw [Nat.mod_eq_of_lt h1]
    have := tl_zero_iff (xs := xs)
    exact decide_eq_decide.2 ⟨fun h => Nat.pos_of_ne_zero (fun h' => h (this.1 h')), fun h h' => by have := this.2 h'; omega⟩
  rw [hr, Nat.div_eq_of_lt h1]
  obtain ⟨la, hla⟩ : ∃ l, tl xs = l := ⟨_, rfl⟩
  rw [hla] at l1 hge ⊢
  have Hla := Lib.hid hla
  have e1 : (N : Int) / 64 = (wh : Int) := by omega
  have g1 : N ≤ 9223372036854775807 := by omega
  have g2 : wh ≤ 144115188075855871 := by omega
  clear hla h1 hr hN
  have b0 : decide (la ≤ wh) = true := by simp; omega
  go_enter Tryd.func60, Tryd.ntmps60
  go_wp2_with fail
  refine (trim_to la A n c xs _ hA (by omega) Hla).mono ?_
  rintro e w' ⟨rfl, rfl⟩
  go_wp2
  go_ret2
  exact ⟨none, 0, 0, [], rfl, Nat.zero_le _, Lim.nil _ _ _, rfl, rfl, Below.refl _ _⟩

theorem shr_all (A : Option Addr) (n c : Nat) (xs : List Nat) (w : World) (hA : Lim w A n c xs) (hn : n ≤ 1099511627776) (hT : Tab w) (i : Int) (hib : i ≤ 9223372036854775807) :
    Calls Tryd.prog 60 #[.slice A n c, .int .i64 i] w (Tells2 w (val xs / 2 ^ i.toNat) n (.bool (decide (val xs % 2 ^ i.toNat ≠ 0)))) := by
  have hi : max i 0 = (i.toNat : Int) := by omega
  rcases Nat.lt_or_ge (i.toNat / 64) (tl xs) with h | h
  · have e : 64 * (i.toNat / 64) + i.toNat % 64 = i.toNat := by omega
    have := shr_any A n c xs w hA hn hT i (i.toNat / 64) (i.toNat % 64) (by rw [e]; exact hi) (by omega) h
    rwa [e] at this
  · exact shr_far A n c xs w hA hn i hib _ _ hi rfl h
end Go.Proofs.YtjdlnfmeciodnaaDoor

/- The walk of nat.Shl. -/
namespace Go.Proofs.YtjdlnfmeciodnaaDoor
open Go.RowKit

theorem shl_word (x q p : Nat) (hq : q < 2 ^ p) (hp : p < 64) : x % 2 ^ (64 - p) * 2 ^ p + q < 18446744073709551616 := by
  have h64 := pow64 (p := p) (by omega)
  have h2 : (x % 2 ^ (64 - p) + 1) * 2 ^ p ≤ 2 ^ (64 - p) * 2 ^ p := Nat.mul_le_mul_right _ (Nat.mod_lt _ (Nat.pow_pos (by decide)))
  rw [Nat.add_mul, Nat.one_mul, Nat.mul_comm (2 ^ (64 - p)), ← h64] at h2
  omega
theorem shl_or (x q p : Nat) (hq : q < 2 ^ p) (hp : p < 64) :
    bits BinOp.or IntKind.u64 (q : Int) (IntKind.u64.wrap ((x : Int) * 2 ^ p)) = ((x % 2 ^ (64 - p) * 2 ^ p + q : Nat) : Int) := by
  have h64 := pow64 (p := p) (by omega)
  have e2 : IntKind.u64.wrap ((x : Int) * 2 ^ p) = ((x % 2 ^ (64 - p) * 2 ^ p : Nat) : Int) := by
    rw [IntKind.wrap_u64, show (x : Int) * 2 ^ p = ((x * 2 ^ p : Nat) : Int) from by simp]
    rw [show (18446744073709551616 : Int) = ((18446744073709551616 : Nat) : Int) from rfl, ← Int.natCast_emod, h64, Nat.mul_comm (2 ^ p), Nat.mul_mod_mul_right]
  have hw := shl_word x q p hq hp
  rw [e2, bits_or_u64_nat _ _ (Nat.lt_of_le_of_lt (Nat.le_add_left _ _) hw) (Nat.lt_of_le_of_lt (Nat.le_add_right _ _) hw)]
  have e3 := Nat.shiftLeft_add_eq_or_of_lt hq (x % 2 ^ (64 - p))
  rw [Nat.shiftLeft_eq] at e3
  rw [Nat.or_comm, ← e3]
theorem shl_carry (x p : Nat) (hx : x < 18446744073709551616) (hp : p < 64) : x / 2 ^ (64 - p) < 2 ^ p := by
  have h64 := pow64 (p := p) (by omega)
  rw [Nat.div_lt_iff_lt_mul (Nat.pow_pos (by decide)), ← h64]
  exact hx
theorem shl_step {x q p wh k Z V : Nat} (hp : p < 64) (h : Z + pw (wh + k) * q = 2 ^ (64 * wh + p) * V) :
    Z + pw (wh + k) * (x % 2 ^ (64 - p) * 2 ^ p + q) + pw (wh + k + 1) * (x / 2 ^ (64 - p)) = 2 ^ (64 * wh + p) * (V + pw k * x) := by
  have h64 := pow64 (p := p) (by omega)
  have e1 : pw (wh + k + 1) * (x / 2 ^ (64 - p)) = pw (wh + k) * (2 ^ (64 - p) * (x / 2 ^ (64 - p)) * 2 ^ p) := by
    rw [pw_succ, h64]
    simp only [Nat.mul_assoc, Nat.mul_comm, Nat.mul_left_comm]
  have e2 : pw (wh + k) * (x % 2 ^ (64 - p) * 2 ^ p) + pw (wh + k) * (2 ^ (64 - p) * (x / 2 ^ (64 - p)) * 2 ^ p) = 2 ^ (64 * wh + p) * (pw k * x) := by
    rw [← Nat.mul_add, ← Nat.add_mul, Nat.mod_add_div, pw_add, pw_two wh, Nat.pow_add]
    simp only [Nat.mul_assoc, Nat.mul_comm, Nat.mul_left_comm]
  rw [e1, Nat.mul_add (pw (wh + k)), Nat.mul_add (2 ^ (64 * wh + p)), ← e2, ← h]
  omega
theorem val_zerosL (n : Nat) : val (List.replicate n 0) = 0 := by
  induction n with
  | zero => rfl
  | succ n ih => rw [List.replicate_succ, val, ih]
theorem Fill.zeros {w : World} {t L n : Nat} (hn : n ≤ L) : Fill w (w.alloc (.cells (madeCells #[.int .u64 0] L) t)) w.heap.size t L (List.replicate n 0) :=
  ⟨(Below.refl _ _).alloc (Nat.le_refl _) _, (World.rowIs_made w (.int .u64 0) L t).congr (fun j _ => by
    rw [List.getD_eq_getElem?_getD, List.getElem?_replicate]; split <;> rfl), by simp; omega, fun x hx => by rw [(List.mem_replicate.1 hx).2]; decide⟩

set_option maxHeartbeats 4000000 in
theorem shl_any (A : Option Addr) (n c : Nat) (xs : List Nat) (w : World) (hA : Lim w A n c xs) (hn : n ≤ 1099511627776) (wh p : Nat) (hp : p < 64) (h0 : 0 < tl xs) (hfit : blen (val xs) + (64 * wh + p) ≤ 65536) :
    Calls Tryd.prog 66 #[.slice A n c, .int .i64 ((64 * wh + p : Nat) : Int)] w (Tells2 w (val xs * 2 ^ (64 * wh + p)) (wh + n + 1) (.int .i64 0)) := by
  have hP := hA.trim
  have HX := Lib.hid (val_take_tl xs)
  have l1 := hA.tl_le
  obtain ⟨la, hla⟩ : ∃ l, tl xs = l := ⟨_, rfl⟩
  rw [hla] at l1 hP HX h0
  have Hla := Lib.hid hla
  clear hla
  generalize xs.take la = ps at hP HX
  have hbits := bits_any A la c ps w hP (by omega)
  rw [HX.out] at hbits
  generalize blen (val xs) = bl at hbits hfit
  have Hbits := Lib.hid hbits
  obtain ⟨N, hN⟩ : ∃ N, 64 * wh + p = N := ⟨_, rfl⟩
  rw [hN] at hfit ⊢
  have e1 : (N : Int) / 64 = (wh : Int) := by omega
  have e2 : (N : Int) % 64 = (p : Int) := by omega
  have hmk := run_make_row' (P := Tryd.prog) 22 30 (.int .u64 0) 8 Tryd.underlying22 info64 rfl .i64 .i64 (wh + la + 1) (by omega) (by omega)
  rw [show ((wh + la + 1 : Nat) : Int) = (wh : Int) + (la : Int) + 1 from by omega] at hmk
  have b0 : ((la : Int) == 0) = false := beq_eq_false_iff_ne.2 (by omega)
  have b1 : decide (65536 - (bl : Int) < (N : Int)) = false := by simp; omega
  have HN := Lib.hid hN
  have hN1 : N ≤ 65536 := by omega
  have hw1 : wh ≤ 1024 := by omega
  clear hN hbits
  go_enter Tryd.func66, Tryd.ntmps66
  go_wp2_with fail
  refine (trim_to la A n c xs _ hA (by omega) Hla).mono ?_
  rintro e w' ⟨rfl, rfl⟩
  go_wp2_with fail
  refine Hbits.out.mono ?_
  rintro e w' ⟨rfl, rfl⟩
  go_wp2_with fail
  clear hmk e1 e2 b0 b1 Hbits
  go_loopw [36] (fun i wr => ∃ (k q : Nat) (zs : List Nat), k ≤ la ∧ i = .int .i64 k ∧ Hid (zs.length = wh + k) ∧ q < 2 ^ p ∧ Fill w wr w.heap.size 30 (wh + la + 1) (zs ++ [q]) ∧ Hid (val zs + pw (wh + k) * q = 2 ^ (64 * wh + p) * val (ps.take k))) (fun i _ => la - (intOf i).toNat)
  case atStart => exact ⟨0, 0, List.replicate wh 0, Nat.zero_le _, rfl, by simp [Hid], Nat.pow_pos (by decide), by
      have := Fill.zeros (w := w) (t := 30) (L := wh + la + 1) (n := wh + 1) (by omega)
      rwa [List.replicate_succ'] at this, by simp [Hid, val, val_zerosL]⟩
  case round =>
    obtain ⟨k, q, zs, hk, rfl, Hzl, hq, hF, HE⟩ := hrel
    by_cases hkl : k < la
    · obtain ⟨b, o, hAe, hb, hcl⟩ := hP.at_ (by omega)
      subst hAe
      have c1 := (hF.below.cell (p := ⟨b, o + k, none⟩) hb).trans (hcl k hkl)
      clear hcl
      have c2 := hF.cell (j := wh + k) (by omega)
      rw [getD_snoc, if_pos Hzl.out.symm] at c2
      have c3 := hF.frozen (wh + k)
      have c4 := hF.cell (j := wh + k + 1) (by omega)
      have c5 := hF.frozen (wh + k + 1)
      have hxw := hP.words.getD k
      obtain ⟨x, hx⟩ : ∃ x, ps.getD k 0 = x := ⟨_, rfl⟩
      rw [hx] at c1 hxw
      have d7 : IntKind.u64.wrap (64 - (p : Int)) = ((64 - p : Nat) : Int) := by rw [IntKind.wrap_u64]; omega
      have HE2 := Lib.hid (shl_step (x := x) hp HE.out)
      have hqq := shl_carry x p hxw hp
      have HF1 := Lib.hid ((hF.again Hzl.out.symm (shl_word x q p hq hp)).push (z := x / 2 ^ (64 - p)) (k := wh + k + 1) (by have := Hzl.out; simp; omega) (by omega) (by
        have h64 := pow64 (p := p) (by omega)
        have : 2 ^ p * 1 ≤ 2 ^ p * 2 ^ (64 - p) := Nat.mul_le_mul_left _ (Nat.pow_pos (by decide))
        omega))
      have Hx := Lib.hid hx
      have Hor := Lib.hid (shl_or x q p hq hp)
      clear hx HE hF
      go_wp2
      go_roundw
      case rel =>
        refine ⟨k + 1, x / 2 ^ (64 - p), zs ++ [x % 2 ^ (64 - p) * 2 ^ p + q], by omega, by go_num, ?_, hqq, ?_, ?_⟩
        · have := Hzl.out; simp [Hid]; omega
        · rw [Hor.out, show (x : Int) / 2 ^ (64 - p) = ((x / 2 ^ (64 - p) : Nat) : Int) from by simp]
          exact HF1.out
        · have e := HE2.out
          rw [val_snoc, Hzl.out, val_take_succ', Hx.out]
          exact e
      case measure => simp [intOf]; omega
    · obtain rfl : k = la := by omega
      have hlim := hF.done (by have := Hzl.out; simp; omega)
      have HV : Hid (val (zs ++ [q]) = val xs * 2 ^ N) := by
        rw [val_snoc, Hzl.out]
        refine HE.out.trans ?_
        rw [List.take_of_length_le (by have := hP.len; omega), HX.out, HN.out, Nat.mul_comm]
      have hbel := hF.below
      clear HE hF hP
      go_wp2_with fail
      refine (trim_any _ _ _ (zs ++ [q]) _ hlim (by omega)).mono ?_
      rintro e w' ⟨rfl, rfl⟩
      go_wp2
      go_ret2
      exact tells2_trim hlim hbel HV.out (by omega) rfl

theorem shl_neg (A : Option Addr) (n c : Nat) (w : World) (i : Int) (hi : i < 0) :
    Calls Tryd.prog 66 #[.slice A n c, .int .i64 i] w fun e w' => e = .returned (.tuple #[.slice none 0 0, .int .i64 1]) ∧ w = w' := by
  go_enter Tryd.func66, Tryd.ntmps66
  go_wp2
  go_ret2
  exact ⟨rfl, rfl⟩

theorem shl_zero (A : Option Addr) (n c : Nat) (xs : List Nat) (w : World) (hA : Lim w A n c xs) (hn : n ≤ 1099511627776) (i : Int) (hi : 0 ≤ i) (h0 : val xs = 0) :
    Calls Tryd.prog 66 #[.slice A n c, .int .i64 i] w fun e w' => e = .returned (.tuple #[.slice none 0 0, .int .i64 0]) ∧ w = w' := by
  have Hla := Lib.hid (tl_zero_iff.2 h0)
  clear h0
  go_enter Tryd.func66, Tryd.ntmps66
  go_wp2_with fail
  refine (trim_to 0 A n c xs _ hA (by omega) Hla).mono ?_
  rintro e w' ⟨rfl, rfl⟩
  go_wp2
  go_ret2
  exact ⟨rfl, rfl⟩

theorem shl_long (A : Option Addr) (n c : Nat) (xs : List Nat) (w : World) (hA : Lim w A n c xs) (hn : n ≤ 1099511627776) (i : Int) (hi : 0 ≤ i) (hib : i ≤ 9223372036854775807) (h0 : val xs ≠ 0) (hlong : 65536 < blen (val xs) + i) :
    Calls Tryd.prog 66 #[.slice A n c, .int .i64 i] w fun e w' => e = .returned (.tuple #[.slice none 0 0, .int .i64 2]) ∧ w = w' := by
  have hP := hA.trim
  have l1 := hA.tl_le
  have hbits := bits_any A (tl xs) c (xs.take (tl xs)) w hP (by omega)
  rw [val_take_tl] at hbits
  have hbl : blen (val xs) ≤ 64 * tl xs := blen_le_iff.2 (by rw [← pw_two]; exact val_lt_tl hA.words)
  obtain ⟨la, hla⟩ : ∃ l, tl xs = l := ⟨_, rfl⟩
  have hne : tl xs ≠ 0 := fun h => h0 (tl_zero_iff.1 h)
  rw [hla] at hbits hne l1 hbl
  generalize blen (val xs) = bl at hbits hlong hbl
  have Hla := Lib.hid hla
  have Hbits := Lib.hid hbits
  have b0 : ((la : Int) == 0) = false := beq_eq_false_iff_ne.2 (by omega)
  have b1 : decide (65536 - (bl : Int) < i) = true := by simp; omega
  clear hla hbits h0 hP
  go_enter Tryd.func66, Tryd.ntmps66
  go_wp2_with fail
  refine (trim_to la A n c xs _ hA (by omega) Hla).mono ?_
  rintro e w' ⟨rfl, rfl⟩
  go_wp2_with fail
  refine Hbits.out.mono ?_
  rintro e w' ⟨rfl, rfl⟩
  go_wp2
  go_ret2
  exact ⟨rfl, rfl⟩

/-- Every shift that fits. -/
theorem shl_all (A : Option Addr) (n c : Nat) (xs : List Nat) (w : World) (hA : Lim w A n c xs) (hn : n ≤ 1099511627776) (k : Nat) (hfit : blen (val xs) + k ≤ 65536 ∨ val xs = 0) :
    Calls Tryd.prog 66 #[.slice A n c, .int .i64 (k : Int)] w (Tells2 w (val xs * 2 ^ k) (k + n + 1) (.int .i64 0)) := by
  by_cases h0 : val xs = 0
  · refine (shl_zero A n c xs w hA hn k (by omega) h0).mono ?_
    rintro e w' ⟨rfl, rfl⟩
    exact ⟨none, 0, 0, [], rfl, Nat.zero_le _, Lim.nil _ _ _, rfl, by rw [h0]; simp [val], Below.refl _ _⟩
  · have e : 64 * (k / 64) + k % 64 = k := by omega
    have h1 : 0 < tl xs := Nat.pos_of_ne_zero (fun h => h0 (tl_zero_iff.1 h))
    have := shl_any A n c xs w hA hn (k / 64) (k % 64) (by omega) h1 (by rw [e]; rcases hfit with h | h; exact h; exact absurd h h0)
    rw [e] at this
    exact this.mono fun _ _ h => h.wider (by omega)
end Go.Proofs.YtjdlnfmeciodnaaDoor

/- Words for a dyad in a block of its own; what tells a dyad. -/
namespace Go.Proofs.YtjdlnfmeciodnaaDoor
open Go.RowKit

/-- Block b is a variable of type t that holds a dyad. -/
def Bd (w : World) (b t : Nat) (g : Bool) (A : Option Addr) (n c : Nat) (e : Int) : Prop := w.heap[b]? = some (.cells #[.bool g, .slice A n c, .int .i64 e] t)

section
variable {w w' : World} {b t : Nat} {g : Bool} {A : Option Addr} {n c : Nat} {e : Int}
theorem Bd.lt (h : Bd w b t g A n c e) : b < w.heap.size := by
  rcases Nat.lt_or_ge b w.heap.size with h' | h'
  · exact h'
  · rw [Bd, Array.getElem?_eq_none h'] at h; cases h
theorem Bd.new (w : World) (t : Nat) (g : Bool) (A : Option Addr) (n c : Nat) (e : Int) : Bd (w.alloc (.cells #[.bool g, .slice A n c, .int .i64 e] t)) w.heap.size t g A n c e := by
  show (w.heap.push _)[w.heap.size]? = _
  simp
theorem Bd.below (h : Bd w b t g A n c e) (hb : Below w.heap.size w w') : Bd w' b t g A n c e := by
  rw [Bd, hb.block b h.lt]; exact h
theorem Bd.alloc (h : Bd w b t g A n c e) (o : Obj) : Bd (w.alloc o) b t g A n c e := h.below ((Below.refl _ _).alloc (Nat.le_refl _) o)
theorem Bd.c0 (h : Bd w b t g A n c e) : w.cell? ⟨b, 0, none⟩ = some (.bool g) := by simp [World.cell?, show w.heap[b]? = _ from h]
theorem Bd.c1 (h : Bd w b t g A n c e) : w.cell? ⟨b, 1, none⟩ = some (.slice A n c) := by simp [World.cell?, show w.heap[b]? = _ from h]
theorem Bd.c2 (h : Bd w b t g A n c e) : w.cell? ⟨b, 2, none⟩ = some (.int .i64 e) := by simp [World.cell?, show w.heap[b]? = _ from h]
theorem Bd.fz (h : Bd w b t g A n c e) (o : Nat) : w.frozen? ⟨b, o, none⟩ = false := by simp [World.frozen?, show w.heap[b]? = _ from h]
/-- No cell of it is of kind k ≠ i64. -/
theorem Bd.not (h : Bd w b t g A n c e) {o : Nat} {k : IntKind} {z : Int} (hc : w.cell? ⟨b, o, none⟩ = some (.int k z)) : k = .i64 := by
  simp only [World.cell?, show w.heap[b]? = _ from h] at hc
  rcases o with _ | _ | _ | o
  · simp at hc
  · simp at hc
  · simp at hc; exact hc.1.symm
  · simp at hc

/-- A dyad laid into block b. -/
abbrev World.put (w : World) (b : Nat) (g : Bool) (A : Option Addr) (n c : Nat) (e : Int) : World :=
  ((w.setCell ⟨b, 0, none⟩ (.bool g)).setCell ⟨b, 1, none⟩ (.slice A n c)).setCell ⟨b, 2, none⟩ (.int .i64 e)
theorem put_heap (w : World) (b : Nat) (g : Bool) (A : Option Addr) (n c : Nat) (e : Int) (k : Nat) (hk : k ≠ b) : (World.put w b g A n c e).heap[k]? = w.heap[k]? := by
  unfold World.put
  rw [Below.heap_setCell _ _ _ _ hk, Below.heap_setCell _ _ _ _ hk, Below.heap_setCell _ _ _ _ hk]
theorem put_size (w : World) (b : Nat) (g : Bool) (A : Option Addr) (n c : Nat) (e : Int) : (World.put w b g A n c e).heap.size = w.heap.size := by
  simp [World.put, World.setCell]
theorem put_cell (w : World) (b : Nat) (g : Bool) (A : Option Addr) (n c : Nat) (e : Int) (p : Addr) (hp : p.block ≠ b) : (World.put w b g A n c e).cell? p = w.cell? p :=
  World.cell?_of_block (w := w) (put_heap w b g A n c e p.block hp)
theorem below_put {B : Nat} {a w : World} (h : Below B a w) {b : Nat} (hb : B ≤ b) (g : Bool) (A : Option Addr) (n c : Nat) (e : Int) : Below B a (World.put w b g A n c e) :=
  ((h.setCell (p := ⟨b, 0, none⟩) hb _).setCell (p := ⟨b, 1, none⟩) hb _).setCell (p := ⟨b, 2, none⟩) hb _
theorem Bd.put (h : Bd w b t g A n c e) (g' : Bool) (A' : Option Addr) (n' c' : Nat) (e' : Int) : Bd (World.put w b g' A' n' c' e') b t g' A' n' c' e' := by
  unfold Bd at h ⊢
  unfold World.put
  simp [World.setCell, Array.getElem?_modify, h]
theorem Bd.other (h : Bd w b t g A n c e) {b' : Nat} (hb : b ≠ b') (g' : Bool) (A' : Option Addr) (n' c' : Nat) (e' : Int) : Bd (World.put w b' g' A' n' c' e') b t g A n c e := by
  unfold Bd; rw [put_heap _ _ _ _ _ _ _ _ hb]; exact h
/-- A list isn't in such a block. -/
theorem Bd.lim (h : Bd w b t g A n c e) {A1 : Option Addr} {n1 c1 : Nat} {xs : List Nat} (hA : Lim w A1 n1 c1 xs) (g' : Bool) (A' : Option Addr) (n' c' : Nat) (e' : Int) : Lim (World.put w b g' A' n' c' e') A1 n1 c1 xs :=
  ⟨hA.1, hA.2.1, hA.2.2.1, fun hn => by
    obtain ⟨k, o, ek, hk, hc⟩ := hA.at_ hn
    have hne : k ≠ b := by
      rintro rfl
      have := h.not (hc 0 hn)
      cases this
    exact ⟨k, o, ek, by rw [put_size]; exact hk, fun j hj => by rw [put_cell _ _ _ _ _ _ _ _ hne]; exact hc j hj⟩⟩
theorem Bd.tab (h : Bd w b t g A n c e) (hT : Tab w) (g' : Bool) (A' : Option Addr) (n' c' : Nat) (e' : Int) : Tab (World.put w b g' A' n' c' e') := fun j hj => by
  have hne : 0 ≠ b := by
    intro hb
    have hc := hT j hj
    rw [hb] at hc
    have := h.not hc
    cases this
  rw [put_cell _ _ _ _ _ _ _ _ hne]; exact hT j hj
end

/-- The cells of two dyads. -/
abbrev Six (w' : World) (b1 : Nat) (g : Bool) (A : Option Addr) (n c : Nat) (e1 : Int) (b2 : Nat) (k : Bool) (B : Option Addr) (m d : Nat) (e2 : Int) : Prop :=
  w'.cell? ⟨b1, 0, none⟩ = some (.bool g) ∧ w'.cell? ⟨b1, 1, none⟩ = some (.slice A n c) ∧ w'.cell? ⟨b1, 2, none⟩ = some (.int .i64 e1) ∧ w'.cell? ⟨b2, 0, none⟩ = some (.bool k) ∧ w'.cell? ⟨b2, 1, none⟩ = some (.slice B m d) ∧ w'.cell? ⟨b2, 2, none⟩ = some (.int .i64 e2)
theorem Bd.six {w : World} {b1 t1 : Nat} {g : Bool} {A : Option Addr} {n c : Nat} {e1 : Int} {b2 t2 : Nat} {k : Bool} {B : Option Addr} {m d : Nat} {e2 : Int} (h1 : Bd w b1 t1 g A n c e1) (h2 : Bd w b2 t2 k B m d e2) : Six w b1 g A n c e1 b2 k B m d e2 :=
  ⟨h1.c0, h1.c1, h1.c2, h2.c0, h2.c1, h2.c2⟩
theorem Lim.drew {w : World} {A : Option Addr} {n c : Nat} {xs : List Nat} (h : Lim w A n c xs) : Lim w.drew A n c xs := h
theorem Bd.drew {w : World} {b t : Nat} {g : Bool} {A : Option Addr} {n c : Nat} {e : Int} (h : Bd w b t g A n c e) : Bd w.drew b t g A n c e := h

/-- What 'o' says of what was told. -/
def Is (o : Option Dy) (g : Bool) (V : Nat) (E r : Int) : Prop :=
  match o with
  | none => r = 2 ∧ g = false ∧ V = 0 ∧ E = 0
  | some d => r = 0 ∧ g = d.neg ∧ V = d.V ∧ E = d.e
/-- A dyad and an error. -/
def Told (w : World) (o : Option Dy) (L : Nat) (e : Ending) (w' : World) : Prop :=
  ∃ g A m c zs E r, e = .returned (.tuple #[.agg #[.bool g, .slice A m c, .int .i64 E], .int .i64 r]) ∧ m ≤ L ∧ Lim w' A m c zs ∧ Bare zs ∧ Is o g (val zs) E r ∧ Below w.heap.size w w'

theorem bits_l (v : Nat) (A : Option Addr) (n c : Nat) (xs : List Nat) (w : World) (hA : Lim w A n c xs) (hn : n ≤ 4398046511104) (hv : Hid (blen (val xs) = v)) :
    Calls Tryd.prog 40 #[.slice A n c] w fun e w' => e = .returned (.int .i64 (v : Int)) ∧ w = w' := by
  rw [← hv.out]; exact bits_any A n c xs w hA hn
theorem low_l (v : Nat) (A : Option Addr) (n c : Nat) (xs : List Nat) (w : World) (hA : Lim w A n c xs) (hn : n ≤ 4398046511104) (hT : Tab w) (hv : Hid (low (val xs) = v)) :
    Calls Tryd.prog 59 #[.slice A n c] w fun e w' => e = .returned (.int .i64 (v : Int)) ∧ w = w' := by
  rw [← hv.out]; exact low_any A n c xs w hA hn hT
theorem shr_l (N : Nat) (A : Option Addr) (n c : Nat) (xs : List Nat) (w : World) (hA : Lim w A n c xs) (hn : n ≤ 1099511627776) (hT : Tab w) (hN : N ≤ 9223372036854775807) (bb : Bool) (hbb : Hid (decide (val xs % 2 ^ N ≠ 0) = bb)) :
    Calls Tryd.prog 60 #[.slice A n c, .int .i64 (N : Int)] w (Tells2 w (val xs / 2 ^ N) n (.bool bb)) := by
  have h := shr_all A n c xs w hA hn hT (N : Int) (by omega)
  rw [Int.toNat_natCast, hbb.out] at h
  exact h
theorem below_box {w w' : World} {o : Obj} (h : Below (w.alloc o).heap.size (w.alloc o) w') : Below w.heap.size w w' := ((Below.refl _ _).alloc (Nat.le_refl _) _).trans (h.mono (by simp))

theorem held_l (e0 h : Int) (w : World) (hh : Hid (held e0 = h)) : Calls Tryd.prog 50 #[.int .i64 e0] w fun e w' => e = .returned (.int .i64 h) ∧ w = w' := by
  have H : Hid (min (max e0 (-2147483648)) 2147483648 = h) := hh
  go_enter Tryd.func50, Tryd.ntmps50
  go_wp2
  go_ret
  exact ⟨ret_int H.out, rfl⟩
end Go.Proofs.YtjdlnfmeciodnaaDoor

/- The walks of dyad.told, Make and Bare. -/
namespace Go.Proofs.YtjdlnfmeciodnaaDoor
open Go.RowKit

theorem told_any (neg : Bool) (A : Option Addr) (n c : Nat) (xs : List Nat) (e0 : Int) (w : World) (hA : Lim w A n c xs) (hn : n ≤ 4398046511104) (hB : Bare xs) :
    Calls Tryd.prog 61 #[.bool neg, .slice A n c, .int .i64 e0] w (Told w (toldD neg (val xs) e0) n) := by
  obtain ⟨b, hb⟩ : ∃ b, blen (val xs) = b := ⟨_, rfl⟩
  have Hb := Lib.hid hb
  have a3 : ∀ o, Below w.heap.size w (w.alloc o) := fun o => (Below.refl _ _).alloc (Nat.le_refl _) o
  by_cases h0 : val xs = 0
  · obtain rfl : b = 0 := by rw [← hb, h0]; rfl
    have Hfin : Hid (Told w (toldD neg (val xs) e0) n (.returned (.tuple #[.agg #[.bool false, .slice none 0 0, .int .i64 0], .int .i64 0])) (w.alloc (.cells #[.bool false, .slice none 0 0, .int .i64 0] 35))) :=
      ⟨false, none, 0, 0, [], 0, 0, rfl, Nat.zero_le _, Lim.nil _ _ _, rfl, by rw [h0, toldD_zero]; exact ⟨rfl, rfl, rfl, rfl⟩, a3 _⟩
    have HA := Lib.hid hA
    clear hA hB h0 a3 hb
    go_enter Tryd.func61, Tryd.ntmps61
    go_wp2_with fail
    refine (bits_l 0 A n c xs _ (HA.out.alloc _) (by omega) Hb).mono ?_
    rintro e w' ⟨rfl, rfl⟩
    go_wp2
    exact bodyPost_ret (v := .tuple #[.agg #[.bool false, .slice none 0 0, .int .i64 0], .int .i64 0]) (by simp [results, Tryd.results61, go_sem]) rfl Hfin.out
  · have hb1 : b ≠ 0 := fun h => h0 (blen_zero_iff.1 (hb.trans h))
    have hb2 : decide ((b : Int) = 0) = false := decide_eq_false (by omega)
    by_cases h1 : e0 < -1073741824 ∨ 1073741824 < e0
    · have Hfin : Hid (Told w (toldD neg (val xs) e0) n (.returned (.tuple #[.agg #[.bool false, .slice none 0 0, .int .i64 0], .int .i64 2])) (w.alloc (.cells #[.bool false, .slice none 0 0, .int .i64 0] 35))) :=
        ⟨false, none, 0, 0, [], 0, 2, rfl, Nat.zero_le _, Lim.nil _ _ _, rfl, by rw [toldD, if_neg h0, if_pos h1]; exact ⟨rfl, rfl, rfl, rfl⟩, a3 _⟩
      have HA := Lib.hid hA
      clear hA hB h0 a3 hb
      rcases h1 with h1 | h1
      · go_enter Tryd.func61, Tryd.ntmps61
        go_wp2_with fail
        refine (bits_l b A n c xs _ (HA.out.alloc _) (by omega) Hb).mono ?_
        rintro e w' ⟨rfl, rfl⟩
        go_wp2
        exact bodyPost_ret (v := .tuple #[.agg #[.bool false, .slice none 0 0, .int .i64 0], .int .i64 2]) (by simp [results, Tryd.results61, go_sem]) rfl Hfin.out
      · have h2 : decide (e0 < -1073741824) = false := decide_eq_false (by omega)
        go_enter Tryd.func61, Tryd.ntmps61
        go_wp2_with fail
        refine (bits_l b A n c xs _ (HA.out.alloc _) (by omega) Hb).mono ?_
        rintro e w' ⟨rfl, rfl⟩
        go_wp2
        exact bodyPost_ret (v := .tuple #[.agg #[.bool false, .slice none 0 0, .int .i64 0], .int .i64 2]) (by simp [results, Tryd.results61, go_sem]) rfl Hfin.out
    · have Hfin : Hid (Told w (toldD neg (val xs) e0) n (.returned (.tuple #[.agg #[.bool neg, .slice A n c, .int .i64 e0], .int .i64 0])) (w.alloc (.cells #[.bool neg, .slice A n c, .int .i64 e0] 35))) :=
        ⟨neg, A, n, c, xs, e0, 0, rfl, Nat.le_refl _, hA.alloc _, hB, by rw [toldD, if_neg h0, if_neg h1]; exact ⟨rfl, rfl, rfl, rfl⟩, a3 _⟩
      have HA := Lib.hid hA
      have h2 : decide (e0 < -1073741824) = false := decide_eq_false (by omega)
      have h3 : decide (1073741824 < e0) = false := decide_eq_false (by omega)
      clear hA hB h0 a3 hb h1
      go_enter Tryd.func61, Tryd.ntmps61
      go_wp2_with fail
      refine (bits_l b A n c xs _ (HA.out.alloc _) (by omega) Hb).mono ?_
      rintro e w' ⟨rfl, rfl⟩
      go_wp2
      exact bodyPost_ret (v := .tuple #[.agg #[.bool neg, .slice A n c, .int .i64 e0], .int .i64 0]) (by simp [results, Tryd.results61, go_sem]) rfl Hfin.out

theorem low_le_blen (V : Nat) : low V ≤ blen V := by
  rcases Nat.eq_zero_or_pos V with h | h
  · rw [h]; decide
  · obtain ⟨m, hm⟩ := low_spec h
    have h1 := lt_blen V
    rcases Nat.le_total (low V) (blen V) with h2 | h2
    · exact h2
    · have h3 : (2 : Nat) ^ blen V ≤ 2 ^ low V := Nat.pow_le_pow_right (by decide) h2
      have h4 : 2 ^ low V * 1 ≤ 2 ^ low V * (2 * m + 1) := Nat.mul_le_mul_left _ (by omega)
      omega

theorem make_any (neg : Bool) (A : Option Addr) (n c : Nat) (xs : List Nat) (e0 : Int) (w : World) (hA : Lim w A n c xs) (hn : n ≤ 4294967296) (hT : Tab w) :
    Calls Tryd.prog 30 #[.bool neg, .slice A n c, .int .i64 e0] w (Told w (mk neg (val xs) e0) n) := by
  have hl9 := low_le_blen (val xs)
  have hl8 := hA.blen_le
  have Hm : Hid (mk neg (val xs) e0 = toldD neg (val xs / 2 ^ low (val xs)) (held e0 + low (val xs))) := rfl
  obtain ⟨l, hl⟩ : ∃ l, low (val xs) = l := ⟨_, rfl⟩
  obtain ⟨h, hh⟩ : ∃ h, held e0 = h := ⟨_, rfl⟩
  rw [hl, hh] at Hm
  have hb := held_bd e0
  rw [hh] at hb
  rw [hl] at hl9
  have hl7 : l ≤ 64 * n := by omega
  obtain ⟨bb, hbb⟩ : ∃ bb, decide (val xs % 2 ^ l ≠ 0) = bb := ⟨_, rfl⟩
  have HA := Lib.hid hA
  have HT := Lib.hid hT
  have Hhh := Lib.hid hh
  have Hhl := Lib.hid hl
  have Hbb := Lib.hid hbb
  clear hA hT hl hh hbb hl9 hl8
  go_enter Tryd.func30, Tryd.ntmps30
  go_wp2_with fail
  have a3 : Below w.heap.size w (w.alloc (.cells #[.bool false, .slice none 0 0, .int .i64 0] 35)) := (Below.refl _ _).alloc (Nat.le_refl _) _
  have HA3 := Lib.hid (HA.out.below a3)
  have HT3 := Lib.hid (HT.out.below a3)
  have HB3 := Lib.hid (Bd.new w 35 false none 0 0 0)
  have H3 := Lib.hid a3
  clear HA HT a3
  refine (low_l l A n c xs _ HA3.out (by omega) HT3.out Hhl).mono ?_
  rintro e w' ⟨rfl, rfl⟩
  go_wp2_with fail
  refine (shr_l l A n c xs _ HA3.out (by omega) HT3.out (by omega) bb Hbb).mono ?_
  rintro e w1 ⟨A1, m1, c1, us, rfl, hm1, hl1, hb1, hv1, hB1⟩
  have HB1 := Lib.hid (HB3.out.below hB1)
  have HS1 := Lib.hid (below_box hB1)
  have H1 := Lib.hid (told_any neg A1 m1 c1 us (h + l) w1 hl1 (by omega) hb1)
  rw [hv1, ← Hm.out] at H1
  clear hB1 hl1 hb1 hv1 HA3 HT3 HB3 H3 Hbb Hhl
  go_wp2_with fail
  refine (held_l e0 h w1 Hhh).mono ?_
  rintro e w' ⟨rfl, rfl⟩
  go_wp2_with fail
  refine H1.out.mono ?_
  rintro e w2 ⟨g, A2, m2, c2, zs, E, r, rfl, hm2, hl2, hb2, his, hB2⟩
  have HB2 := HB1.out.below hB2
  have Hfin : Hid (Told w (mk neg (val xs) e0) n (.returned (.tuple #[.agg #[.bool g, .slice A2 m2 c2, .int .i64 E], .int .i64 r])) (World.put w2 w.heap.size g A2 m2 c2 E)) :=
    ⟨g, A2, m2, c2, zs, E, r, rfl, by omega, HB2.lim hl2 _ _ _ _ _, hb2, his, below_put (HS1.out.trans (hB2.mono HS1.out.size)) (Nat.le_refl _) _ _ _ _ _⟩
  have x0 := HB2.c0
  have x1 := HB2.c1
  have x2 := HB2.c2
  have xf := HB2.fz
  clear HB2 hB2 HB1 H1 hl2 hb2 his HS1 Hm Hhh
  go_wp2
  exact bodyPost_ret (v := .tuple #[.agg #[.bool g, .slice A2 m2 c2, .int .i64 E], .int .i64 r]) (by simp [results, Tryd.results30, go_sem, x0, x1, x2]) rfl Hfin.out

theorem dbare_any (neg : Bool) (A : Option Addr) (n c : Nat) (xs : List Nat) (e0 : Int) (w : World) (hA : Lim w A n c xs) (hn : n ≤ 4294967296) (hT : Tab w) :
    Calls Tryd.prog 48 #[.agg #[.bool neg, .slice A n c, .int .i64 e0]] w (Told w (mk neg (val xs) e0) n) := by
  have a3 : Below w.heap.size w ((w.alloc (.cells #[.bool neg, .slice A n c, .int .i64 e0] 35)).alloc (.cells #[.bool false, .slice none 0 0, .int .i64 0] 35)) := ((Below.refl _ _).alloc (Nat.le_refl _) _).alloc (by simp) _
  have H1 := Lib.hid (make_any neg A n c xs e0 _ (hA.below a3) hn (hT.below a3))
  have HB3 := Lib.hid (Bd.new (w.alloc (.cells #[.bool neg, .slice A n c, .int .i64 e0] 35)) 35 false none 0 0 0)
  have H3 := Lib.hid a3
  clear a3 hA hT
  go_enter Tryd.func48, Tryd.ntmps48
  go_wp2_with fail
  refine H1.out.mono ?_
  rintro e w2 ⟨g, A2, m2, c2, zs, E, r, rfl, hm2, hl2, hb2, his, hB2⟩
  have HB2 := HB3.out.below hB2
  have Hfin : Hid (Told w (mk neg (val xs) e0) n (.returned (.tuple #[.agg #[.bool g, .slice A2 m2 c2, .int .i64 E], .int .i64 r])) (World.put w2 (w.heap.size + 1) g A2 m2 c2 E)) :=
    ⟨g, A2, m2, c2, zs, E, r, rfl, by omega, by have := HB2.lim hl2 g A2 m2 c2 E; simpa using this, hb2, his, below_put (H3.out.trans (hB2.mono H3.out.size)) (Nat.le_succ _) _ _ _ _ _⟩
  have HB4 : Bd w2 (w.heap.size + 1) 35 false none 0 0 0 := by simpa using HB2
  have x0 := HB4.c0
  have x1 := HB4.c1
  have x2 := HB4.c2
  have xf := HB4.fz
  clear HB2 HB4 hB2 HB3 H1 hl2 hb2 his H3
  go_wp2
  exact bodyPost_ret (v := .tuple #[.agg #[.bool g, .slice A2 m2 c2, .int .i64 E], .int .i64 r]) (by simp [results, Tryd.results48, go_sem, x0, x1, x2]) rfl Hfin.out
end Go.Proofs.YtjdlnfmeciodnaaDoor

/- The walks of dyad.Sign, Top, leading, sizes and Cmp. -/
namespace Go.Proofs.YtjdlnfmeciodnaaDoor
open Go.RowKit

theorem below1 (w : World) (o : Obj) : Below w.heap.size w (w.alloc o) := (Below.refl _ _).alloc (Nat.le_refl _) o

theorem sign_l (v : Int) (g : Bool) (A : Option Addr) (n c : Nat) (xs : List Nat) (e0 : Int) (w : World) (hA : Lim w A n c xs) (hn : n ≤ 4398046511104) (hv : Hid (sgD g (val xs) = v)) :
    Calls Tryd.prog 17 #[.agg #[.bool g, .slice A n c, .int .i64 e0]] w fun e w' => e = .returned (.int .i64 v) ∧ Below w.heap.size w w' := by
  obtain ⟨b, hb⟩ : ∃ b, blen (val xs) = b := ⟨_, rfl⟩
  have HA := Lib.hid (hA.alloc (.cells #[.bool g, .slice A n c, .int .i64 e0] 35))
  have H1 := Lib.hid (below1 w (.cells #[.bool g, .slice A n c, .int .i64 e0] 35))
  have Hb := Lib.hid hb
  have hv' := hv.out
  clear hv
  by_cases h0 : val xs = 0
  · obtain rfl : b = 0 := by rw [← hb, h0]; rfl
    obtain rfl : v = 0 := by rw [← hv', h0]; rfl
    clear hA h0 hv' hb
    go_enter Tryd.func17, Tryd.ntmps17
    go_wp2_with fail
    refine (bits_l 0 A n c xs _ HA.out (by omega) Hb).mono ?_
    rintro e w' ⟨rfl, rfl⟩
    go_wp2
    go_ret
    exact ⟨rfl, H1.out⟩
  · have hb1 : b ≠ 0 := fun h => h0 (blen_zero_iff.1 (hb.trans h))
    have hb2 : decide ((b : Int) = 0) = false := decide_eq_false (by omega)
    rw [sgD, if_neg h0] at hv'
    clear hA h0 hb
    cases g
    · obtain rfl : v = 1 := hv'.symm
      go_enter Tryd.func17, Tryd.ntmps17
      go_wp2_with fail
      refine (bits_l b A n c xs _ HA.out (by omega) Hb).mono ?_
      rintro e w' ⟨rfl, rfl⟩
      go_wp2
      go_ret
      exact ⟨rfl, H1.out⟩
    · obtain rfl : v = -1 := hv'.symm
      go_enter Tryd.func17, Tryd.ntmps17
      go_wp2_with fail
      refine (bits_l b A n c xs _ HA.out (by omega) Hb).mono ?_
      rintro e w' ⟨rfl, rfl⟩
      go_wp2
      go_ret
      exact ⟨rfl, H1.out⟩

theorem top_l (v : Int) (g : Bool) (A : Option Addr) (n c : Nat) (xs : List Nat) (e0 : Int) (w : World) (hA : Lim w A n c xs) (hn : n ≤ 4294967296) (h0 : val xs ≠ 0) (hv : Hid (topD (val xs) e0 = v)) :
    Calls Tryd.prog 24 #[.agg #[.bool g, .slice A n c, .int .i64 e0]] w fun e w' => e = .returned (.tuple #[.int .i64 v, .bool true]) ∧ Below w.heap.size w w' := by
  obtain ⟨b, hb⟩ : ∃ b, blen (val xs) = b := ⟨_, rfl⟩
  obtain ⟨h, hh⟩ : ∃ h, held e0 = h := ⟨_, rfl⟩
  have HA := Lib.hid (hA.alloc (.cells #[.bool g, .slice A n c, .int .i64 e0] 35))
  have H1 := Lib.hid (below1 w (.cells #[.bool g, .slice A n c, .int .i64 e0] 35))
  have Hb := Lib.hid hb
  have Hh := Lib.hid hh
  have hbl := hA.blen_le
  have hhb := held_bd e0
  have hv' := hv.out
  rw [topD, hb, hh] at hv'
  rw [hb] at hbl
  rw [hh] at hhb
  have hb1 : b ≠ 0 := fun h => h0 (blen_zero_iff.1 (hb.trans h))
  have hb2 : decide ((b : Int) = 0) = false := decide_eq_false (by omega)
  have Hv : Hid ((b : Int) - 1 + h = v) := hv'
  clear hA h0 hb hh hv hv'
  go_enter Tryd.func24, Tryd.ntmps24
  go_wp2_with fail
  refine (bits_l b A n c xs _ HA.out (by omega) Hb).mono ?_
  rintro e w' ⟨rfl, rfl⟩
  go_wp2_with fail
  refine (held_l e0 h _ Hh).mono ?_
  rintro e w' ⟨rfl, rfl⟩
  go_wp2
  go_ret2
  exact ⟨by rw [← Hv.out]; rfl, H1.out⟩

theorem isnan_l (x : Int) (w : World) : Calls Tryd.prog 62 #[.int .i64 x] w fun e w' => e = .returned (.bool false) ∧ w = w' := by
  go_enter Tryd.func62, Tryd.ntmps62
  go_wp2
  go_ret
  exact ⟨by simp, rfl⟩
theorem compare_l (x y v : Int) (w : World) (hv : Hid (cmpI x y = v)) : Calls Tryd.prog 33 #[.int .i64 x, .int .i64 y] w fun e w' => e = .returned (.int .i64 v) ∧ w = w' := by
  have hv' := hv.out
  clear hv
  rcases Int.lt_trichotomy x y with h | h | h
  · rw [cmpI_lt h] at hv'
    subst hv'
    go_enter Tryd.func33, Tryd.ntmps33
    go_wp2_with fail
    refine (isnan_l x w).mono ?_
    rintro e w' ⟨rfl, rfl⟩
    go_wp2_with fail
    refine (isnan_l y w).mono ?_
    rintro e w' ⟨rfl, rfl⟩
    go_wp2
    go_ret
    exact ⟨rfl, rfl⟩
  · rw [cmpI_eq h] at hv'
    subst hv'
    subst h
    go_enter Tryd.func33, Tryd.ntmps33
    go_wp2_with fail
    refine (isnan_l x w).mono ?_
    rintro e w' ⟨rfl, rfl⟩
    go_wp2_with fail
    refine (isnan_l x w).mono ?_
    rintro e w' ⟨rfl, rfl⟩
    go_wp2
    go_ret
    exact ⟨rfl, rfl⟩
  · rw [cmpI_gt h] at hv'
    subst hv'
    have h1 : decide (x < y) = false := decide_eq_false (by omega)
    go_enter Tryd.func33, Tryd.ntmps33
    go_wp2_with fail
    refine (isnan_l x w).mono ?_
    rintro e w' ⟨rfl, rfl⟩
    go_wp2_with fail
    refine (isnan_l y w).mono ?_
    rintro e w' ⟨rfl, rfl⟩
    go_wp2
    go_ret
    exact ⟨rfl, rfl⟩

theorem lead_ge (v : Int) (A : Option Addr) (n c : Nat) (xs : List Nat) (B : Option Addr) (m d : Nat) (ys : List Nat) (w : World) (hA : Lim w A n c xs) (hB : Lim w B m d ys) (hn : n ≤ 4294967296) (hm : m ≤ 4294967296) (hT : Tab w) (hle : blen (val ys) ≤ blen (val xs)) (hv : Hid (leadD (val xs) (val ys) = v)) :
    Calls Tryd.prog 63 #[.slice A n c, .slice B m d] w fun e w' => e = .returned (.int .i64 v) ∧ Below w.heap.size w w' := by
  obtain ⟨k, hk⟩ : ∃ k, blen (val xs) - blen (val ys) = k := ⟨_, rfl⟩
  have hcut := lead_cut hle hk
  rw [hv.out] at hcut
  obtain ⟨bx, hbx⟩ : ∃ b, blen (val xs) = b := ⟨_, rfl⟩
  obtain ⟨by_, hby⟩ : ∃ b, blen (val ys) = b := ⟨_, rfl⟩
  obtain ⟨bb, hbb⟩ : ∃ bb, decide (val xs % 2 ^ k ≠ 0) = bb := ⟨_, rfl⟩
  obtain ⟨f, hf⟩ : ∃ f, cmpZ (val xs / 2 ^ k) (val ys) = f := ⟨_, rfl⟩
  have hcase : (f = 0 ∧ bb = true ∧ v = 1) ∨ (f = 0 ∧ bb = false ∧ v = 0) ∨ (f ≠ 0 ∧ v = f) := by
    rcases hcut with ⟨h1, h2, h3⟩ | ⟨h1, h3⟩
    · exact Or.inl ⟨by rw [← hf]; exact cmpZ_eq h1, by rw [← hbb]; exact decide_eq_true h2, h3⟩
    · by_cases h0 : f = 0
      · have h4 : val xs / 2 ^ k = val ys := by
          rw [← hf] at h0
          rcases Nat.lt_trichotomy (val xs / 2 ^ k) (val ys) with h | h | h
          · rw [cmpZ_lt h] at h0; omega
          · exact h
          · rw [cmpZ_gt h] at h0; omega
        have h5 : val xs % 2 ^ k = 0 := by rcases h1 with h1 | h1; exact absurd h4 h1; exact h1
        exact Or.inr (Or.inl ⟨h0, by rw [← hbb]; exact decide_eq_false (fun h => h h5), by rw [h3, hf, h0]⟩)
      · exact Or.inr (Or.inr ⟨h0, by rw [h3, hf]⟩)
  have hbl := hA.blen_le
  have hbl2 := hB.blen_le
  rw [hbx, hby] at hk hle
  rw [hbx] at hbl
  rw [hby] at hbl2
  have hki : (bx : Int) - by_ = (k : Int) := by omega
  have hk9 : k ≤ 64 * n := by omega
  have Hx := Lib.hid hbx
  have Hy := Lib.hid hby
  have HA := Lib.hid hA
  have HB := Lib.hid hB
  have HT := Lib.hid hT
  have Hbb := Lib.hid hbb
  have Hf := Lib.hid hf
  clear hA hB hT hbx hby hbb hf hcut hv hk hle
  go_enter Tryd.func63, Tryd.ntmps63
  go_wp2_with fail
  refine (bits_l bx A n c xs _ HA.out (by omega) Hx).mono ?_
  rintro e w' ⟨rfl, rfl⟩
  go_wp2_with fail
  refine (bits_l by_ B m d ys _ HB.out (by omega) Hy).mono ?_
  rintro e w' ⟨rfl, rfl⟩
  go_wp2_with fail
  refine (shr_l k A n c xs _ HA.out (by omega) HT.out (by omega) bb Hbb).mono ?_
  rintro e w1 ⟨A1, m1, c1, us, rfl, hm1, hl1, hb1, hv1, hB1⟩
  have H2 := Lib.hid (cmp_b f A1 m1 c1 us B m d ys w1 hl1 (HB.out.below hB1) (by omega) (by omega) (by rw [hv1]; exact Hf))
  have HS := Lib.hid hB1
  clear hl1 hb1 hv1 hB1 HA HB HT Hx Hy Hbb Hf
  rcases hcase with ⟨rfl, rfl, rfl⟩ | ⟨rfl, rfl, rfl⟩ | ⟨hf0, rfl⟩
  · go_wp2_with fail
    refine H2.out.mono ?_
    rintro e w2 ⟨rfl, hB2⟩
    have Hfin := Lib.hid (HS.out.trans (hB2.mono HS.out.size))
    clear hB2 HS H2
    go_wp2
    go_ret
    exact ⟨rfl, Hfin.out⟩
  · go_wp2_with fail
    refine H2.out.mono ?_
    rintro e w2 ⟨rfl, hB2⟩
    have Hfin := Lib.hid (HS.out.trans (hB2.mono HS.out.size))
    clear hB2 HS H2
    go_wp2
    go_ret
    exact ⟨rfl, Hfin.out⟩
  · have hf1 : decide (v = 0) = false := decide_eq_false hf0
    go_wp2_with fail
    refine H2.out.mono ?_
    rintro e w2 ⟨rfl, hB2⟩
    have Hfin := Lib.hid (HS.out.trans (hB2.mono HS.out.size))
    clear hB2 HS H2
    go_wp2
    go_ret
    exact ⟨rfl, Hfin.out⟩

theorem lead_any (v : Int) (A : Option Addr) (n c : Nat) (xs : List Nat) (B : Option Addr) (m d : Nat) (ys : List Nat) (w : World) (hA : Lim w A n c xs) (hB : Lim w B m d ys) (hn : n ≤ 4294967296) (hm : m ≤ 4294967296) (hT : Tab w) (hv : Hid (leadD (val xs) (val ys) = v)) :
    Calls Tryd.prog 63 #[.slice A n c, .slice B m d] w fun e w' => e = .returned (.int .i64 v) ∧ Below w.heap.size w w' := by
  rcases Nat.lt_or_ge (blen (val xs)) (blen (val ys)) with hlt | hle
  · have hvb := cmpZ_bd (val xs * 2 ^ (blen (val ys) - blen (val xs))) (val ys * 2 ^ (blen (val xs) - blen (val ys)))
    rw [show cmpZ _ _ = v from hv.out] at hvb
    obtain ⟨u, hu⟩ : ∃ u, leadD (val ys) (val xs) = u := ⟨_, rfl⟩
    have huv : u = -v := by rw [← hu, leadD_swap, hv.out]
    have H1 := Lib.hid (lead_ge u B m d ys A n c xs w hB hA hm hn hT (by omega) hu)
    obtain ⟨bx, hbx⟩ : ∃ b, blen (val xs) = b := ⟨_, rfl⟩
    obtain ⟨by_, hby⟩ : ∃ b, blen (val ys) = b := ⟨_, rfl⟩
    rw [hbx, hby] at hlt
    have hbl := hA.blen_le
    have hbl2 := hB.blen_le
    rw [hbx] at hbl
    rw [hby] at hbl2
    have Hx := Lib.hid hbx
    have Hy := Lib.hid hby
    have HA := Lib.hid hA
    have HB := Lib.hid hB
    have hlt' : decide ((bx : Int) - by_ < 0) = true := decide_eq_true (by omega)
    have hub : -1 ≤ u ∧ u ≤ 1 := by omega
    have Huv : Hid (-u = v) := by show -u = v; omega
    clear hA hB hT hbx hby hu huv hv hvb
    go_enter Tryd.func63, Tryd.ntmps63
    go_wp2_with fail
    refine (bits_l bx A n c xs _ HA.out (by omega) Hx).mono ?_
    rintro e w' ⟨rfl, rfl⟩
    go_wp2_with fail
    refine (bits_l by_ B m d ys _ HB.out (by omega) Hy).mono ?_
    rintro e w' ⟨rfl, rfl⟩
    go_wp2_with fail
    refine H1.out.mono ?_
    rintro e w1 ⟨rfl, hB1⟩
    have Hfin := Lib.hid hB1
    clear hB1 H1 HA HB Hx Hy
    go_wp2
    go_ret
    exact ⟨ret_int Huv.out, Hfin.out⟩
  · exact lead_ge v A n c xs B m d ys w hA hB hn hm hT hle hv

theorem sizes_l (v : Int) (g : Bool) (A : Option Addr) (n c : Nat) (xs : List Nat) (e1 : Int) (k : Bool) (B : Option Addr) (m d : Nat) (ys : List Nat) (e2 : Int) (w : World) (hA : Lim w A n c xs) (hB : Lim w B m d ys) (hn : n ≤ 4294967296) (hm : m ≤ 4294967296) (hT : Tab w) (hx : val xs ≠ 0) (hy : val ys ≠ 0) (hv : Hid (cmpZ (sz (val xs) e1) (sz (val ys) e2) = v)) :
    Calls Tryd.prog 34 #[.agg #[.bool g, .slice A n c, .int .i64 e1], .agg #[.bool k, .slice B m d, .int .i64 e2]] w fun e w' => e = .returned (.int .i64 v) ∧ Below w.heap.size w w' := by
  obtain ⟨t1, ht1⟩ : ∃ t, topD (val xs) e1 = t := ⟨_, rfl⟩
  obtain ⟨t2, ht2⟩ : ∃ t, topD (val ys) e2 = t := ⟨_, rfl⟩
  have a3 : Below w.heap.size w ((w.alloc (.cells #[.bool g, .slice A n c, .int .i64 e1] 35)).alloc (.cells #[.bool k, .slice B m d, .int .i64 e2] 35)) := ((Below.refl _ _).alloc (Nat.le_refl _) _).alloc (by simp) _
  have b1 := (Bd.new w 35 g A n c e1).alloc (.cells #[.bool k, .slice B m d, .int .i64 e2] 35)
  have b2 := Bd.new (w.alloc (.cells #[.bool g, .slice A n c, .int .i64 e1] 35)) 35 k B m d e2
  rw [World.size_alloc] at b2
  have HS := Lib.hid a3
  have Hb1 := Lib.hid b1
  have Hb2 := Lib.hid b2
  have HA := Lib.hid (hA.below a3)
  have HB := Lib.hid (hB.below a3)
  have HT := Lib.hid (hT.below a3)
  have Ht1 := Lib.hid ht1
  have Ht2 := Lib.hid ht2
  have hcase : (t1 ≠ t2 ∧ Hid (cmpI t1 t2 = v)) ∨ (t1 = t2 ∧ Hid (leadD (val xs) (val ys) = v)) := by
    by_cases h : t1 = t2
    · exact Or.inr ⟨h, (cmp_lead hx hy (by rw [ht1, ht2, h])).trans hv.out⟩
    · exact Or.inl ⟨h, by have := cmp_tops hx hy (e := e1) (f := e2) (by rw [ht1, ht2]; exact h); rw [ht1, ht2] at this; exact this.trans hv.out⟩
  clear hA hB hT a3 b1 b2 ht1 ht2 hv
  go_enter Tryd.func34, Tryd.ntmps34
  go_wp2_with fail
  refine (top_l t1 g A n c xs e1 _ HA.out (by omega) hx Ht1).mono ?_
  rintro e w1 ⟨rfl, hB1⟩
  replace HS := Lib.hid (HS.out.trans (hB1.mono HS.out.size))
  replace Hb1 := Lib.hid (Hb1.out.below hB1)
  replace Hb2 := Lib.hid (Hb2.out.below hB1)
  replace HA := Lib.hid (HA.out.below hB1)
  replace HB := Lib.hid (HB.out.below hB1)
  replace HT := Lib.hid (HT.out.below hB1)
  have x0 := Hb2.out.c0
  have x1 := Hb2.out.c1
  have x2 := Hb2.out.c2
  clear hB1
  go_wp2_with fail
  refine (top_l t2 k B m d ys e2 _ HB.out (by omega) hy Ht2).mono ?_
  rintro e w2 ⟨rfl, hB1⟩
  replace HS := Lib.hid (HS.out.trans (hB1.mono HS.out.size))
  replace Hb1 := Lib.hid (Hb1.out.below hB1)
  replace Hb2 := Lib.hid (Hb2.out.below hB1)
  replace HA := Lib.hid (HA.out.below hB1)
  replace HB := Lib.hid (HB.out.below hB1)
  replace HT := Lib.hid (HT.out.below hB1)
  clear hB1 x0 x1 x2
  rcases hcase with ⟨hne, hv⟩ | ⟨rfl, hv⟩
  · have h1 : decide (t1 = t2) = false := decide_eq_false hne
    go_wp2_with fail
    refine (compare_l t1 t2 v w2 hv).mono ?_
    rintro e w' ⟨rfl, rfl⟩
    go_wp2
    go_ret
    exact ⟨rfl, HS.out⟩
  · have x1 := Hb1.out.c1
    have y1 := Hb2.out.c1
    go_wp2_with fail
    refine (lead_any v A n c xs B m d ys w2 HA.out HB.out hn hm HT.out hv).mono ?_
    rintro e w3 ⟨rfl, hB1⟩
    replace HS := Lib.hid (HS.out.trans (hB1.mono HS.out.size))
    clear hB1 x1 y1
    go_wp2
    go_ret
    exact ⟨rfl, HS.out⟩
end Go.Proofs.YtjdlnfmeciodnaaDoor

/- The walk of dyad.Cmp. -/
namespace Go.Proofs.YtjdlnfmeciodnaaDoor
open Go.RowKit

/-- What is held while the two signs are asked for. -/
def Held2 (w0 : World) (b1 : Nat) (g : Bool) (A : Option Addr) (n c : Nat) (xs : List Nat) (e1 : Int) (b2 : Nat) (k : Bool) (B : Option Addr) (m d : Nat) (ys : List Nat) (e2 : Int) (w : World) : Prop :=
  Bd w b1 35 g A n c e1 ∧ Bd w b2 35 k B m d e2 ∧ Lim w A n c xs ∧ Lim w B m d ys ∧ Tab w ∧ Below w0.heap.size w0 w
theorem Held2.below {w0 : World} {b1 : Nat} {g : Bool} {A : Option Addr} {n c : Nat} {xs : List Nat} {e1 : Int} {b2 : Nat} {k : Bool} {B : Option Addr} {m d : Nat} {ys : List Nat} {e2 : Int} {w w' : World}
    (h : Held2 w0 b1 g A n c xs e1 b2 k B m d ys e2 w) (hb : Below w.heap.size w w') : Held2 w0 b1 g A n c xs e1 b2 k B m d ys e2 w' := by
  obtain ⟨h1, h2, h3, h4, h5, h6⟩ := h
  exact ⟨h1.below hb, h2.below hb, h3.below hb, h4.below hb, h5.below hb, h6.trans (hb.mono h6.size)⟩

/-- .. with the cells spelt out. -/
abbrev Cells2 (w0 : World) (b1 : Nat) (g : Bool) (A : Option Addr) (n c : Nat) (xs : List Nat) (e1 : Int) (b2 : Nat) (k : Bool) (B : Option Addr) (m d : Nat) (ys : List Nat) (e2 : Int) (w' : World) : Prop :=
  w'.cell? ⟨b1, 0, none⟩ = some (.bool g) ∧ w'.cell? ⟨b1, 1, none⟩ = some (.slice A n c) ∧ w'.cell? ⟨b1, 2, none⟩ = some (.int .i64 e1) ∧ w'.cell? ⟨b2, 0, none⟩ = some (.bool k) ∧ w'.cell? ⟨b2, 1, none⟩ = some (.slice B m d) ∧ w'.cell? ⟨b2, 2, none⟩ = some (.int .i64 e2) ∧ Hid (Held2 w0 b1 g A n c xs e1 b2 k B m d ys e2 w')
theorem Held2.cells {w0 : World} {b1 : Nat} {g : Bool} {A : Option Addr} {n c : Nat} {xs : List Nat} {e1 : Int} {b2 : Nat} {k : Bool} {B : Option Addr} {m d : Nat} {ys : List Nat} {e2 : Int} {w : World}
    (h : Held2 w0 b1 g A n c xs e1 b2 k B m d ys e2 w) : Cells2 w0 b1 g A n c xs e1 b2 k B m d ys e2 w := ⟨h.1.c0, h.1.c1, h.1.c2, h.2.1.c0, h.2.1.c1, h.2.1.c2, h⟩
theorem Held2.start (w : World) (g : Bool) (A : Option Addr) (n c : Nat) (xs : List Nat) (e1 : Int) (k : Bool) (B : Option Addr) (m d : Nat) (ys : List Nat) (e2 : Int) (hA : Lim w A n c xs) (hB : Lim w B m d ys) (hT : Tab w) :
    Held2 w w.heap.size g A n c xs e1 (w.heap.size + 1) k B m d ys e2 ((w.alloc (.cells #[.bool g, .slice A n c, .int .i64 e1] 35)).alloc (.cells #[.bool k, .slice B m d, .int .i64 e2] 35)) := by
  have a3 : Below w.heap.size w ((w.alloc (.cells #[.bool g, .slice A n c, .int .i64 e1] 35)).alloc (.cells #[.bool k, .slice B m d, .int .i64 e2] 35)) := ((Below.refl _ _).alloc (Nat.le_refl _) _).alloc (by simp) _
  have b1 := (Bd.new w 35 g A n c e1).alloc (.cells #[.bool k, .slice B m d, .int .i64 e2] 35)
  have b2 := Bd.new (w.alloc (.cells #[.bool g, .slice A n c, .int .i64 e1] 35)) 35 k B m d e2
  rw [World.size_alloc] at b2
  exact ⟨b1, b2, hA.below a3, hB.below a3, hT.below a3, a3⟩
theorem below_drew (w : World) : Below w.heap.size w w.drew := (Below.refl _ _).drew

set_option maxHeartbeats 2000000 in
theorem dcmp_l (v : Int) (g : Bool) (A : Option Addr) (n c : Nat) (xs : List Nat) (e1 : Int) (k : Bool) (B : Option Addr) (m d : Nat) (ys : List Nat) (e2 : Int) (w : World) (hA : Lim w A n c xs) (hB : Lim w B m d ys) (hn : n ≤ 4294967296) (hm : m ≤ 4294967296) (hT : Tab w) (hv : Hid (cmpI (dw g (val xs) e1) (dw k (val ys) e2) = v)) :
    Calls Tryd.prog 13 #[.agg #[.bool g, .slice A n c, .int .i64 e1], .agg #[.bool k, .slice B m d, .int .i64 e2]] w fun e w' => e = .returned (.int .i64 v) ∧ Below w.heap.size w w' := by
  obtain ⟨s1, hs1⟩ : ∃ s, sgD g (val xs) = s := ⟨_, rfl⟩
  obtain ⟨s2, hs2⟩ : ∃ s, sgD k (val ys) = s := ⟨_, rfl⟩
  have H0 := Lib.hid ((Held2.start w g A n c xs e1 k B m d ys e2 hA hB hT).below (below_drew _))
  have HS1 : Hid (∀ u, Cells2 w w.heap.size g A n c xs e1 (w.heap.size + 1) k B m d ys e2 u → Calls Tryd.prog 17 #[.agg #[.bool g, .slice A n c, .int .i64 e1]] u fun e w' => e = .returned (.int .i64 s1) ∧ Cells2 w w.heap.size g A n c xs e1 (w.heap.size + 1) k B m d ys e2 w') := fun u hu => by
    have h := hu.2.2.2.2.2.2.out
    refine (sign_l s1 g A n c xs e1 u h.2.2.1 (by omega) hs1).mono ?_
    rintro e w' ⟨rfl, hb⟩
    exact ⟨rfl, (h.below hb).cells⟩
  have HS2 : Hid (∀ u, Cells2 w w.heap.size g A n c xs e1 (w.heap.size + 1) k B m d ys e2 u → Calls Tryd.prog 17 #[.agg #[.bool k, .slice B m d, .int .i64 e2]] u fun e w' => e = .returned (.int .i64 s2) ∧ Cells2 w w.heap.size g A n c xs e1 (w.heap.size + 1) k B m d ys e2 w') := fun u hu => by
    have h := hu.2.2.2.2.2.2.out
    refine (sign_l s2 k B m d ys e2 u h.2.2.2.1 (by omega) hs2).mono ?_
    rintro e w' ⟨rfl, hb⟩
    exact ⟨rfl, (h.below hb).cells⟩
  have hcase : (s1 ≠ s2 ∧ Hid (cmpI s1 s2 = v)) ∨ (s1 = s2 ∧ s1 = 0 ∧ v = 0) ∨ (s1 = s2 ∧ (s1 = 1 ∨ s1 = -1) ∧ ∃ z, -1 ≤ z ∧ z ≤ 1 ∧ val xs ≠ 0 ∧ val ys ≠ 0 ∧ Hid (cmpZ (sz (val xs) e1) (sz (val ys) e2) = z) ∧ s1 * z = v) := by
    have k1 := sgD_spec g (val xs) e1
    have k2 := sgD_spec k (val ys) e2
    rw [hs1] at k1
    rw [hs2] at k2
    by_cases h : s1 = s2
    · refine Or.inr ?_
      by_cases h0 : s1 = 0
      · refine Or.inl ⟨h, h0, ?_⟩
        rw [← hv.out, ← cmp_noughts (by rw [hs1, hs2, h]) (by rw [hs1, h0])]
      · refine Or.inr ⟨h, by omega, _, (cmpZ_bd _ _).1, (cmpZ_bd _ _).2, by omega, by omega, rfl, ?_⟩
        have := cmp_sizes (g := g) (k := k) (V := val xs) (U := val ys) (e := e1) (f := e2) (by rw [hs1, hs2, h]) (by rw [hs1]; exact h0)
        rw [hs1] at this
        rw [this, hv.out]
    · refine Or.inl ⟨h, ?_⟩
      have := cmp_signs (g := g) (k := k) (V := val xs) (U := val ys) (e := e1) (f := e2) (by rw [hs1, hs2]; exact h)
      rw [hs1, hs2] at this
      exact this.trans hv.out
  clear hA hB hT hs1 hs2 hv
  go_enter Tryd.func13, Tryd.ntmps13
  go_wp2_with fail
  go_region_held3 (fun w' => w'.cell? ⟨w.heap.size, 0, none⟩ = some (.bool g) ∧ w'.cell? ⟨w.heap.size, 1, none⟩ = some (.slice A n c) ∧ w'.cell? ⟨w.heap.size, 2, none⟩ = some (.int .i64 e1) ∧ w'.cell? ⟨w.heap.size + 1, 0, none⟩ = some (.bool k) ∧ w'.cell? ⟨w.heap.size + 1, 1, none⟩ = some (.slice B m d) ∧ w'.cell? ⟨w.heap.size + 1, 2, none⟩ = some (.int .i64 e2) ∧ Hid (Held2 w w.heap.size g A n c xs e1 (w.heap.size + 1) k B m d ys e2 w'))
    (first | exact H0.out.cells | assumption)
    (first | (go_at_call 17; refine (HS1.out _ (by assumption)).mono ?_; rintro e w1 ⟨rfl, hY⟩) | (go_at_call 17; refine (HS2.out _ (by assumption)).mono ?_; rintro e w2 ⟨rfl, hZ⟩))
  have HZ := hZ.2.2.2.2.2.2
  obtain ⟨x0, x1, x2, y0, y1, y2, _⟩ := hZ
  have HF := Lib.hid HZ.out.2.2.2.2.2
  clear hY HS1 HS2 H0
  rcases hcase with ⟨hne, hv⟩ | ⟨rfl, rfl, rfl⟩ | ⟨rfl, hs, z, hz1, hz2, hx, hy, hz, hv⟩
  · have h1 : decide (s1 = s2) = false := decide_eq_false hne
    go_wp2_with fail
    refine (compare_l s1 s2 v w2 hv).mono ?_
    rintro e w' ⟨rfl, rfl⟩
    go_wp2
    go_ret
    exact ⟨rfl, HF.out⟩
  · go_wp2_with fail
    go_ret
    exact ⟨rfl, HF.out⟩
  · have Hsz := Lib.hid (sizes_l z g A n c xs e1 k B m d ys e2 w2 HZ.out.2.2.1 HZ.out.2.2.2.1 hn hm HZ.out.2.2.2.2.1 hx hy hz)
    clear hz hx hy
    rcases hs with rfl | rfl
    · obtain rfl : z = v := by omega
      go_wp2_with fail
      refine Hsz.out.mono ?_
      rintro e w3 ⟨rfl, hB3⟩
      have Hfin := Lib.hid (HF.out.trans (hB3.mono HF.out.size))
      clear hB3 Hsz HZ HF x0 x1 x2 y0 y1 y2
      go_wp2
      go_ret
      exact ⟨ret_int (by omega), Hfin.out⟩
    · obtain rfl : -z = v := by omega
      go_wp2_with fail
      refine Hsz.out.mono ?_
      rintro e w3 ⟨rfl, hB3⟩
      have Hfin := Lib.hid (HF.out.trans (hB3.mono HF.out.size))
      clear hB3 Hsz HZ HF x0 x1 x2 y0 y1 y2
      go_wp2
      go_ret
      exact ⟨ret_int (by omega), Hfin.out⟩
end Go.Proofs.YtjdlnfmeciodnaaDoor

/- Masks; the walks of float.Neg, Finite, Kind, size; the document's Kind and Size. -/
namespace Go.Proofs.YtjdlnfmeciodnaaDoor
open Go.RowKit

theorem and_shift (x m s : Nat) : x &&& (m <<< s) = ((x >>> s) &&& m) <<< s := by
  apply Nat.eq_of_testBit_eq
  intro i
  simp only [Nat.testBit_and, Nat.testBit_shiftLeft, Nat.testBit_shiftRight]
  by_cases h : s ≤ i
  · simp [h]
  · simp [h]
theorem mask_ex (b : Nat) : b &&& 9218868437227405312 = fex b * 4503599627370496 := by
  rw [show (9218868437227405312 : Nat) = 2047 <<< 52 from by decide, and_shift, show (2047 : Nat) = 2 ^ 11 - 1 from by decide, Nat.and_two_pow_sub_one_eq_mod, Nat.shiftLeft_eq, Nat.shiftRight_eq_div_pow]
  rfl
theorem mask_fr (b : Nat) : b &&& 4503599627370495 = ffr b := by
  rw [show (4503599627370495 : Nat) = 2 ^ 52 - 1 from by decide, Nat.and_two_pow_sub_one_eq_mod]
  rfl
theorem mask_one (b s : Nat) : b &&& (2 ^ s) = b / 2 ^ s % 2 * 2 ^ s := by
  have h := and_shift b 1 s
  rw [Nat.and_one_is_mod, Nat.shiftLeft_eq, Nat.shiftLeft_eq, Nat.shiftRight_eq_div_pow, Nat.one_mul] at h
  exact h

theorem and_ex (b : Nat) (hb : b < 18446744073709551616) : bits BinOp.and IntKind.u64 (b : Int) 9218868437227405312 = ((fex b * 4503599627370496 : Nat) : Int) := by
  have h := bits_and_u64_nat b 9218868437227405312 hb (by decide)
  rw [mask_ex] at h
  exact h
theorem and_fr (b : Nat) (hb : b < 18446744073709551616) : bits BinOp.and IntKind.u64 (b : Int) 4503599627370495 = (ffr b : Int) := by
  have h := bits_and_u64_nat b 4503599627370495 hb (by decide)
  rw [mask_fr] at h
  exact h
theorem and_sign (b : Nat) (hb : b < 18446744073709551616) : bits BinOp.and IntKind.u64 (b : Int) 9223372036854775808 = ((b / 9223372036854775808 * 9223372036854775808 : Nat) : Int) := by
  have h := bits_and_u64_nat b 9223372036854775808 hb (by decide)
  have h2 := mask_one b 63
  rw [show (2 : Nat) ^ 63 = 9223372036854775808 from by decide, show b / 9223372036854775808 % 2 = b / 9223372036854775808 by omega] at h2
  rw [h2] at h
  exact h
theorem and_quiet (f : Nat) (hf : f < 4503599627370496) : bits BinOp.and IntKind.u64 (f : Int) 2251799813685248 = ((f / 2251799813685248 * 2251799813685248 : Nat) : Int) := by
  have h := bits_and_u64_nat f 2251799813685248 (by omega) (by decide)
  have h2 := mask_one f 51
  rw [show (2 : Nat) ^ 51 = 2251799813685248 from by decide, show f / 2251799813685248 % 2 = f / 2251799813685248 by omega] at h2
  rw [h2] at h
  exact h
theorem or_unit (f : Nat) (hf : f < 4503599627370496) : bits BinOp.or IntKind.u64 (f : Int) 4503599627370496 = ((f + 4503599627370496 : Nat) : Int) := by
  have h := bits_or_u64_nat f 4503599627370496 (by omega) (by decide)
  have h2 : f ||| 4503599627370496 = f + 4503599627370496 := by
    have := Nat.shiftLeft_add_eq_or_of_lt (i := 52) (b := f) (show f < 2 ^ 52 from hf) 1
    rw [Nat.or_comm, Nat.add_comm]
    exact this.symm
  rw [h2] at h
  exact h
theorem or_sign (X : Nat) (hX : X < 9223372036854775808) : bits BinOp.or IntKind.u64 9223372036854775808 (X : Int) = ((9223372036854775808 + X : Nat) : Int) := by
  have h := bits_or_u64_nat 9223372036854775808 X (by decide) (by omega)
  have h2 : 9223372036854775808 ||| X = 9223372036854775808 + X :=
    (Nat.shiftLeft_add_eq_or_of_lt (i := 63) (b := X) (show X < 2 ^ 63 from hX) 1).symm
  rw [h2] at h
  exact h

theorem bne_no {x y : Int} (h : x = y) : (x != y) = false := by rw [h]; simp
theorem bne_yes {x y : Int} (h : x ≠ y) : (x != y) = true := by simpa using h
theorem beq_no {x y : Int} (h : x ≠ y) : (x == y) = false := by simpa using h
theorem beq_yes {x y : Int} (h : x = y) : (x == y) = true := by simpa using h

theorem fneg_l (v : Bool) (b : Nat) (hb : b < 18446744073709551616) (w : World) (hv : Hid (fng b = v)) : Calls Tryd.prog 32 #[.int .u64 (b : Int)] w fun e w' => e = .returned (.bool v) ∧ w = w' := by
  have h1 := and_sign b hb
  obtain ⟨P, hP⟩ : ∃ P, b / 9223372036854775808 * 9223372036854775808 = P := ⟨_, rfl⟩
  rw [hP] at h1
  have Hv : Hid (((P : Int) != 0) = v) := by
    rw [← hv.out]
    show ((P : Int) != 0) = fng b
    unfold fng
    by_cases h : 9223372036854775808 ≤ b
    · rw [decide_eq_true h]; exact bne_yes (by omega)
    · rw [decide_eq_false h]; exact bne_no (by omega)
  clear hP hb hv
  go_enter Tryd.func32, Tryd.ntmps32
  go_wp2
  go_ret
  exact ⟨congrArg (fun v => Ending.returned (.bool v)) Hv.out, rfl⟩
theorem ffin_l (v : Bool) (b : Nat) (hb : b < 18446744073709551616) (w : World) (hv : Hid (decide (Fnt b) = v)) : Calls Tryd.prog 35 #[.int .u64 (b : Int)] w fun e w' => e = .returned (.bool v) ∧ w = w' := by
  have h1 := and_ex b hb
  obtain ⟨P, hP⟩ : ∃ P, fex b * 4503599627370496 = P := ⟨_, rfl⟩
  rw [hP] at h1
  have Hv : Hid (((P : Int) != 9218868437227405312) = v) := by
    rw [← hv.out]
    show ((P : Int) != 9218868437227405312) = decide (Fnt b)
    by_cases h : Fnt b
    · rw [decide_eq_true h]
      have h' : fex b ≠ 2047 := h
      exact bne_yes (by omega)
    · rw [decide_eq_false h]
      have h' : fex b = 2047 := Decidable.not_not.1 h
      exact bne_no (by omega)
  clear hP hb hv
  go_enter Tryd.func35, Tryd.ntmps35
  go_wp2
  go_ret
  exact ⟨congrArg (fun v => Ending.returned (.bool v)) Hv.out, rfl⟩




theorem fsize_l (M : Nat) (E : Int) (b : Nat) (hb : b < 18446744073709551616) (w : World) (hM : Hid (fm b = M)) (hE : Hid (fe b = E)) : Calls Tryd.prog 36 #[.int .u64 (b : Int)] w fun e w' => e = .returned (.tuple #[.int .u64 (M : Int), .int .i64 E]) ∧ w = w' := by
  have h1 := and_ex b hb
  have h2 := and_fr b hb
  have h3 := or_unit (ffr b) (ffr_lt b)
  have hx := fex_lt b
  have hM' := hM.out
  have hE' := hE.out
  unfold fm at hM'
  unfold fe fE at hE'
  generalize fex b = x at *
  generalize ffr b = y at *
  obtain ⟨P, hP⟩ : ∃ P, x * 4503599627370496 = P := ⟨_, rfl⟩
  rw [hP] at h1
  have h4 : (P : Int) / 4503599627370496 = (x : Int) := by omega
  have h5 : IntKind.i64.wrap (x : Int) = (x : Int) := by rw [IntKind.wrap_i64]; omega
  clear hb hM hE
  by_cases hx0 : x = 0
  · rw [if_pos hx0] at hM'
    subst hM'
    have c1 : ((x : Int) == 0) = true := beq_yes (by omega)
    obtain rfl : E = -1074 := by omega
    clear hx0 hP hE'
    go_enter Tryd.func36, Tryd.ntmps36
    go_wp2
    go_ret2
    exact ⟨rfl, rfl⟩
  · rw [if_neg hx0] at hM'
    rw [hM'] at h3
    have c1 : ((x : Int) == 0) = false := beq_no (by omega)
    have HE : Hid ((x : Int) - 1 + -1074 = E) := by show _ = _; omega
    clear hx0 hP hM' hE'
    go_enter Tryd.func36, Tryd.ntmps36
    go_wp2
    go_ret2
    exact ⟨by rw [← HE.out]; rfl, rfl⟩
end Go.Proofs.YtjdlnfmeciodnaaDoor

/- The walks of float.Parts, Whole, Dyad. -/
namespace Go.Proofs.YtjdlnfmeciodnaaDoor
open Go.RowKit

theorem fO_pos {b : Nat} (hf : Fnt b) (h0 : fm b ≠ 0) : (fO b).neg = fng b ∧ (fO b).V = fm b / 2 ^ low (fm b) ∧ (fO b).e = fe b + low (fm b) := by
  rw [fO, nO_pos _ _ h0]
  exact ⟨rfl, rfl, by show held (fe b) + _ = _; rw [fe_held hf]⟩
theorem tz_l (l x : Nat) (hx0 : 0 < x) (hx : x < 18446744073709551616) (w : World) (hT : Tab w) (hl : Hid (low x = l)) :
    Calls Tryd.prog 79 #[.int .u64 (x : Int)] w fun e w' => e = .returned (.int .i64 (l : Int)) ∧ w = w' := by
  obtain ⟨k, m, hk, hm, h⟩ := tz_any x hx0 hx w hT
  have : low x = k := low_eq hm
  rw [← hl.out, this]
  exact h



/-- What Whole tells. -/
def fwh (b : Nat) : Bool × Bool := if fm b = 0 then (true, false) else if Fnt b then (decide (0 ≤ (fO b).e), decide ((fO b).e = 0)) else (false, false)

/-- A dyad that is told with a true. -/
def FTold (w : World) (d : Dy) (L : Nat) (e : Ending) (w' : World) : Prop :=
  ∃ A m c zs, e = .returned (.tuple #[.agg #[.bool d.neg, .slice A m c, .int .i64 d.e], .bool true]) ∧ m ≤ L ∧ Lim w' A m c zs ∧ Bare zs ∧ val zs = d.V ∧ Below w.heap.size w w'

theorem fdyad_no (b : Nat) (hb : b < 18446744073709551616) (w : World) (hf : ¬ Fnt b) :
    Calls Tryd.prog 14 #[.int .u64 (b : Int)] w fun e w' => e = .returned (.tuple #[.agg #[.bool false, .slice none 0 0, .int .i64 0], .bool false]) ∧ Below w.heap.size w w' := by
  have Hf : Hid (decide (Fnt b) = false) := decide_eq_false hf
  have Hfin := Lib.hid (below1 w (.cells #[.bool false, .slice none 0 0, .int .i64 0] 35))
  clear hf
  go_enter Tryd.func14, Tryd.ntmps14
  go_wp2_with fail
  refine (ffin_l false b hb _ Hf).mono ?_
  rintro e w' ⟨rfl, rfl⟩
  go_wp2
  exact bodyPost_ret (v := .tuple #[.agg #[.bool false, .slice none 0 0, .int .i64 0], .bool false]) (by simp [results, Tryd.results14, go_sem]) rfl ⟨rfl, Hfin.out⟩

theorem fdyad_yes (b : Nat) (hb : b < 18446744073709551616) (w : World) (hT : Tab w) (hf : Fnt b) :
    Calls Tryd.prog 14 #[.int .u64 (b : Int)] w (FTold w (fO b) 1) := by
  have Hf : Hid (decide (Fnt b) = true) := decide_eq_true hf
  have hmk := mk_fin hf
  have hM := (f_parts b).2.1
  obtain ⟨M, hM1⟩ : ∃ M, fm b = M := ⟨_, rfl⟩
  obtain ⟨F, hF1⟩ : ∃ F, fe b = F := ⟨_, rfl⟩
  obtain ⟨s, hs1⟩ : ∃ s, fng b = s := ⟨_, rfl⟩
  rw [hM1, hF1, hs1] at hmk
  rw [hM1] at hM
  obtain ⟨⟨d0, d1, d2⟩, hd⟩ : ∃ d, fO b = d := ⟨_, rfl⟩
  rw [hd] at hmk ⊢
  have HM := Lib.hid hM1
  have HF := Lib.hid hF1
  have Hs := Lib.hid hs1
  have HK := Lib.hid hmk
  have a3 := below1 w (.cells #[.bool false, .slice none 0 0, .int .i64 0] 35)
  have HT := Lib.hid (hT.below a3)
  have Hb := Lib.hid (Bd.new w 35 false none 0 0 0)
  have HS := Lib.hid a3
  clear hf hM1 hF1 hs1 hmk hd a3 hT
  go_enter Tryd.func14, Tryd.ntmps14
  go_wp2_with fail
  refine (ffin_l true b hb _ Hf).mono ?_
  rintro e w' ⟨rfl, rfl⟩
  go_wp2_with fail
  refine (fsize_l M F b hb _ HM HF).mono ?_
  rintro e w' ⟨rfl, rfl⟩
  go_wp2_with fail
  refine (fneg_l s b hb _ Hs).mono ?_
  rintro e w' ⟨rfl, rfl⟩
  go_wp2_with fail
  refine (of_any M (by omega) _).mono ?_
  rintro e w1 ⟨A1, m1, c1, zs, rfl, hm1, hl1, hb1, hv1, hB1⟩
  have HM := Lib.hid (make_any s A1 m1 c1 zs F w1 hl1 (by omega) (HT.out.below hB1))
  rw [hv1, HK.out] at HM
  have Hb1 := Lib.hid (Hb.out.below hB1)
  have HS1 := Lib.hid (HS.out.trans (hB1.mono HS.out.size))
  clear hl1 hb1 hv1 hB1 HT Hb HS
  go_wp2_with fail
  refine HM.out.mono ?_
  rintro e w2 ⟨g2, A2, m2, c2, us, E2, r2, rfl, hm2, hl2, hb2, ⟨rfl, rfl, hz, rfl⟩, hB2⟩
  have k2 := Hb1.out.below hB2
  have Hfin : Hid (FTold w ⟨g2, d1, E2⟩ 1 (.returned (.tuple #[.agg #[.bool g2, .slice A2 m2 c2, .int .i64 E2], .bool true])) (World.put (w2.alloc (.cells #[.bool g2, .slice A2 m2 c2, .int .i64 E2] 35)) w.heap.size g2 A2 m2 c2 E2)) :=
    ⟨A2, m2, c2, us, rfl, by omega, (k2.alloc _).lim (hl2.alloc _) _ _ _ _ _, hb2, hz, below_put ((HS1.out.trans (hB2.mono HS1.out.size)).alloc (HS1.out.trans (hB2.mono HS1.out.size)).size _) (Nat.le_refl _) _ _ _ _ _⟩
  have y0 := fun o => (k2.alloc o).c0
  have y1 := fun o => (k2.alloc o).c1
  have y2 := fun o => (k2.alloc o).c2
  have yf := fun o => (k2.alloc o).fz
  clear k2 hB2 hl2 hb2 HM Hb1 HS1 hz HK
  go_wp2
  exact bodyPost_ret (v := .tuple #[.agg #[.bool g2, .slice A2 m2 c2, .int .i64 E2], .bool true]) (by simp [results, Tryd.results14, go_sem, y0, y1, y2]) rfl Hfin.out
end Go.Proofs.YtjdlnfmeciodnaaDoor

/- The walks of float.laid and Exact. -/
namespace Go.Proofs.YtjdlnfmeciodnaaDoor
open Go.RowKit

theorem top_zero (g : Bool) (A : Option Addr) (n c : Nat) (xs : List Nat) (e0 : Int) (w : World) (hA : Lim w A n c xs) (hn : n ≤ 4294967296) (h0 : val xs = 0) :
    Calls Tryd.prog 24 #[.agg #[.bool g, .slice A n c, .int .i64 e0]] w fun e w' => e = .returned (.tuple #[.int .i64 0, .bool false]) ∧ Below w.heap.size w w' := by
  have HA := Lib.hid (hA.alloc (.cells #[.bool g, .slice A n c, .int .i64 e0] 35))
  have H1 := Lib.hid (below1 w (.cells #[.bool g, .slice A n c, .int .i64 e0] 35))
  have Hb : Hid (blen (val xs) = 0) := by rw [h0]; rfl
  clear hA h0
  go_enter Tryd.func24, Tryd.ntmps24
  go_wp2_with fail
  refine (bits_l 0 A n c xs _ HA.out (by omega) Hb).mono ?_
  rintro e w' ⟨rfl, rfl⟩
  go_wp2
  go_ret2
  exact ⟨rfl, H1.out⟩

theorem laid_l (X V : Nat) (e0 top : Int) (hV : V ≠ 0) (htop : top = (blen V : Int) - 1 + e0) (h1 : top ≤ 1023) (h2 : -1074 ≤ e0) (h3 : (blen V : Int) - 1 ≤ 52) (w : World) (hX : Hid (layd V e0 top = X)) :
    Calls Tryd.prog 74 #[.int .u64 (V : Int), .int .i64 e0, .int .i64 top] w fun e w' => e = .returned (.int .u64 (X : Int)) ∧ w = w' := by
  obtain ⟨L, M, k, k1, k2, k3, _, k5, k6, k7⟩ := layd_spec hV htop h1 h2 h3
  have HX : Hid ((L : Int) * 4503599627370496 + (M : Int) = (X : Int)) := by
    have hX' := hX.out
    rw [k1] at hX'
    show _ = _
    omega
  have hB := blen_pos hV
  obtain ⟨lo, hlo⟩ : ∃ lo, max (top - 52) (-1074) = lo := ⟨_, rfl⟩
  rw [hlo] at k7
  have e1 : lo - -1074 = (L : Int) := by omega
  have e2 : e0 - lo = (k : Int) := by omega
  have e3 : (V : Int) * 2 ^ k = (M : Int) := by rw [k2]; simp
  have b1 : -2000 ≤ top := by omega
  have b2 : e0 ≤ 2000 := by omega
  have b3 : -1074 ≤ lo := by omega
  have b4 : lo ≤ 2000 := by omega
  have b5 : k < 64 := by
    rcases Nat.lt_or_ge k 53 with h | h
    · omega
    · have h6 : (2 : Nat) ^ 53 ≤ 2 ^ k := Nat.pow_le_pow_right (by decide) h
      have h7 : 1 * 2 ^ k ≤ V * 2 ^ k := Nat.mul_le_mul_right _ (Nat.pos_of_ne_zero hV)
      omega
  clear k1 k2 k6 k7 hX htop h3 hB hV
  go_enter Tryd.func74, Tryd.ntmps74
  go_wp2
  go_ret
  exact ⟨congrArg (fun v => Ending.returned (.int .u64 v)) HX.out, rfl⟩

theorem mk_is {g : Bool} {V : Nat} {e : Int} {d : Dy} (h : mk g V e = some d) : nO g V e = d := by
  rw [mk_nO] at h
  obtain ⟨h1, h2, h3⟩ := toldD_fine h
  by_cases h0 : V = 0
  · subst h0
    rw [nO_zero] at h ⊢
    exact Option.some.inj h
  · have h4 : (nO g V e).V ≠ 0 := by rw [nO_pos _ _ h0]; exact fun h => h0 (odd_part_zero.1 h)
    obtain ⟨h5, h6⟩ := h3 h4
    obtain ⟨a, b, c⟩ := d
    simp only at h2 h5 h6
    rw [h2, h5, h6]
theorem mk_none {g : Bool} {V : Nat} {e : Int} (h : mk g V e = none) : exD (nO g V e) = (0, false) := by
  rw [mk_nO] at h
  unfold toldD at h
  split at h
  · cases h
  · rename_i h0
    split at h
    · rename_i h1
      have hB := blen_pos h0
      rw [exD, if_neg h0, if_pos (by omega)]
    · cases h

set_option maxHeartbeats 1000000 in
theorem exact_l (X : Nat) (ok : Bool) (g : Bool) (A : Option Addr) (n c : Nat) (xs : List Nat) (e0 : Int) (w : World) (hA : Lim w A n c xs) (hn : n ≤ 4294967296) (hT : Tab w) (hv : Hid (exD (nO g (val xs) e0) = (X, ok))) :
    Calls Tryd.prog 52 #[.agg #[.bool g, .slice A n c, .int .i64 e0]] w fun e w' => e = .returned (.tuple #[.int .u64 (X : Int), .bool ok]) ∧ Below w.heap.size w w' := by
  have a3 := below1 w (.cells #[.bool g, .slice A n c, .int .i64 e0] 35)
  have H1 := Lib.hid (dbare_any g A n c xs e0 _ (hA.below a3) hn (hT.below a3))
  have HT := Lib.hid (hT.below a3)
  have Hb := Lib.hid (Bd.new w 35 g A n c e0)
  have HS := Lib.hid a3
  obtain ⟨o, ho⟩ : ∃ o, mk g (val xs) e0 = o := ⟨_, rfl⟩
  rw [ho] at H1
  clear a3 hA hT
  go_enter Tryd.func52, Tryd.ntmps52
  go_wp2_with fail
  refine H1.out.mono ?_
  rintro e w1 ⟨g1, A1, m1, c1, zs, E1, r1, rfl, hm1, hl1, hb1, his, hB1⟩
  have Hk1 := Lib.hid (Hb.out.below hB1)
  have HS1 := Lib.hid (below_put (HS.out.trans (hB1.mono HS.out.size)) (Nat.le_refl _) g1 A1 m1 c1 E1)
  have x0 := Hk1.out.c0
  have x1 := Hk1.out.c1
  have x2 := Hk1.out.c2
  have xf := Hk1.out.fz
  cases o with
  | none =>
    obtain ⟨rfl, rfl, hz, rfl⟩ := his
    have hv' := hv.out
    rw [mk_none ho] at hv'
    obtain ⟨rfl, rfl⟩ := Prod.mk.inj hv'
    clear hv hv' ho H1 HT Hb HS hl1 hb1 hz hB1 Hk1
    go_wp2
    go_ret2
    exact ⟨rfl, HS1.out⟩
  | some d =>
    obtain ⟨rfl, hg, hz, hE⟩ := his
    have hd := mk_is ho
    have hfine := (mk_fine ho).1
    have hv' := hv.out
    rw [hd] at hv'
    have Hl1 := Lib.hid (Hk1.out.lim hl1 g1 A1 m1 c1 E1)
    have Hk2 := Lib.hid (Hk1.out.put g1 A1 m1 c1 E1)
    have y0 := Hk2.out.c0
    have y1 := Hk2.out.c1
    have y2 := Hk2.out.c2
    clear hv ho H1 HT Hb HS hl1 hb1 hB1 Hk1 hd
    obtain ⟨dg, dV, dE⟩ := d
    simp only at hg hz hE
    subst hg hE
    have hfe1 := hfine.1
    have hfe2 := hfine.2.1
    simp only at hfe1 hfe2
    rcases exD_cases ⟨g1, dV, E1⟩ with ⟨h0, k1⟩ | ⟨h0, hbad, k1⟩ | ⟨h0, h1, h2, h3, k1⟩
    · rw [k1] at hv'
      obtain ⟨rfl, rfl⟩ := Prod.mk.inj hv'
      have H2 := Lib.hid (top_zero g1 A1 m1 c1 zs E1 _ Hl1.out (by omega) (hz.trans h0))
      clear hv' k1 h0 hz hfine Hl1
      go_wp2_with fail
      refine H2.out.mono ?_
      rintro e w2 ⟨rfl, hB2⟩
      have Hfin := Lib.hid (HS1.out.trans (hB2.mono HS1.out.size))
      clear hB2 H2 Hk2 HS1
      go_wp2
      go_ret2
      exact ⟨rfl, Hfin.out⟩
    · rw [k1] at hv'
      obtain ⟨rfl, rfl⟩ := Prod.mk.inj hv'
      simp only at h0 hbad
      obtain ⟨T, hT⟩ : ∃ T, (blen dV : Int) - 1 + E1 = T := ⟨_, rfl⟩
      have hB := blen_pos h0
      have hbl := Hl1.out.blen_le
      rw [hz] at hbl
      rw [hT] at hbad
      have H2 := Lib.hid (top_l T g1 A1 m1 c1 zs E1 _ Hl1.out (by omega) (by rw [hz]; exact h0) (by show topD _ _ = T; rw [hz, topD, held_id hfe1 hfe2]; exact hT))
      have hT1 : -1073741824 ≤ T := by omega
      have hT2 : T ≤ 1073741824 + 64 * 4294967296 := by omega
      have hTE : T - E1 = (blen dV : Int) - 1 := by omega
      rw [← hTE] at hbad
      clear hv' k1 h0 hz hfine Hl1 hT hB hbl hTE
      by_cases q1 : 1023 < T
      · have b1 : decide ((1023 : Int) < T) = true := decide_eq_true q1
        clear hbad
        go_wp2_with fail
        refine H2.out.mono ?_
        rintro e w2 ⟨rfl, hB2⟩
        have Hfin := Lib.hid (HS1.out.trans (hB2.mono HS1.out.size))
        have Hk3 := Hk2.out.below hB2
        have z2 := Hk3.c2
        clear hB2 H2 Hk2 HS1 Hk3
        go_wp2
        go_ret2
        exact ⟨rfl, Hfin.out⟩
      · have b1 : decide ((1023 : Int) < T) = false := decide_eq_false q1
        by_cases q2 : E1 < -1074
        · have b2 : decide (E1 < -1074) = true := decide_eq_true q2
          clear hbad
          go_wp2_with fail
          refine H2.out.mono ?_
          rintro e w2 ⟨rfl, hB2⟩
          have Hfin := Lib.hid (HS1.out.trans (hB2.mono HS1.out.size))
          have Hk3 := Hk2.out.below hB2
          have z2 := Hk3.c2
          clear hB2 H2 Hk2 HS1 Hk3
          go_wp2
          go_ret2
          exact ⟨rfl, Hfin.out⟩
        · have b2 : decide (E1 < -1074) = false := decide_eq_false q2
          have b3 : decide ((52 : Int) < T - E1) = true := decide_eq_true (by omega)
          clear hbad
          go_wp2_with fail
          refine H2.out.mono ?_
          rintro e w2 ⟨rfl, hB2⟩
          have Hfin := Lib.hid (HS1.out.trans (hB2.mono HS1.out.size))
          have Hk3 := Hk2.out.below hB2
          have z2 := Hk3.c2
          clear hB2 H2 Hk2 HS1 Hk3
          go_wp2
          go_ret2
          exact ⟨rfl, Hfin.out⟩
    · rw [k1] at hv'
      obtain ⟨hX, rfl⟩ := Prod.mk.inj hv'
      simp only at h0 h1 h2 h3 hX
      obtain ⟨T, hT⟩ : ∃ T, (blen dV : Int) - 1 + E1 = T := ⟨_, rfl⟩
      have hB := blen_pos h0
      rw [hT] at h1 hX
      have H2 := Lib.hid (top_l T g1 A1 m1 c1 zs E1 _ Hl1.out (by omega) (by rw [hz]; exact h0) (by show topD _ _ = T; rw [hz, topD, held_id hfe1 hfe2]; exact hT))
      obtain ⟨Y, hY⟩ : ∃ Y, layd dV E1 T = Y := ⟨_, rfl⟩
      have H3 : Hid (∀ w, Calls Tryd.prog 74 #[.int .u64 (dV : Int), .int .i64 E1, .int .i64 T] w fun e w' => e = .returned (.int .u64 (Y : Int)) ∧ w = w') := fun w => laid_l Y dV E1 T h0 hT.symm h1 h2 h3 w hY
      have hdV : dV < 18446744073709551616 := by
        have : blen dV ≤ 64 := by omega
        exact blen_le_iff.1 this
      have hYb : Y < 9223372036854775808 := by
        obtain ⟨L, M, k, i1, i2, i3, i4, i5, _⟩ := layd_spec h0 hT.symm h1 h2 h3
        rw [hY] at i1
        omega
      rw [hY] at hX
      have H4 : Hid (∀ w', Lim w' A1 m1 c1 zs → Calls Tryd.prog 73 #[.slice A1 m1 c1] w' fun e w'' => e = .returned (.tuple #[.int .u64 (dV : Int), .bool true]) ∧ w' = w'') := fun w' hw' => by
        have := small_yes A1 m1 c1 zs w' hw' (by omega) (by rw [hz]; exact hdV)
        rw [hz] at this
        exact this
      have b1 : decide ((1023 : Int) < T) = false := decide_eq_false (by omega)
      have b2 : decide (E1 < -1074) = false := decide_eq_false (by omega)
      have b3 : decide ((52 : Int) < T - E1) = false := decide_eq_false (by omega)
      have hT1 : -2000 ≤ T := by omega
      clear hv' k1 h0 hz hfine hT hB hY
      cases g1 with
      | false =>
        obtain rfl : Y = X := by rw [← hX]; exact (Nat.zero_add _).symm
        clear hX
        go_wp2_with fail
        refine H2.out.mono ?_
        rintro e w2 ⟨rfl, hB2⟩
        have Hfin := Lib.hid (HS1.out.trans (hB2.mono HS1.out.size))
        have Hk3 := Hk2.out.below hB2
        have z0 := Hk3.c0
        have z1 := Hk3.c1
        have z2 := Hk3.c2
        have HL := Lib.hid (Hl1.out.below hB2)
        clear hB2 H2 Hk2 HS1 Hk3 Hl1
        go_wp2_with fail
        refine (H4.out _ HL.out).mono ?_
        rintro e w' ⟨rfl, rfl⟩
        go_wp2_with fail
        refine (H3.out _).mono ?_
        rintro e w' ⟨rfl, rfl⟩
        go_wp2
        go_ret2
        exact ⟨rfl, Hfin.out⟩
      | true =>
        have hor := or_sign Y hYb
        have hX2 : 9223372036854775808 + Y = X := hX
        rw [hX2] at hor
        clear hX hX2
        go_wp2_with fail
        refine H2.out.mono ?_
        rintro e w2 ⟨rfl, hB2⟩
        have Hfin := Lib.hid (HS1.out.trans (hB2.mono HS1.out.size))
        have Hk3 := Hk2.out.below hB2
        have z0 := Hk3.c0
        have z1 := Hk3.c1
        have z2 := Hk3.c2
        have HL := Lib.hid (Hl1.out.below hB2)
        clear hB2 H2 Hk2 HS1 Hk3 Hl1
        go_wp2_with fail
        refine (H4.out _ HL.out).mono ?_
        rintro e w' ⟨rfl, rfl⟩
        go_wp2_with fail
        refine (H3.out _).mono ?_
        rintro e w' ⟨rfl, rfl⟩
        go_wp2
        go_ret2
        exact ⟨rfl, Hfin.out⟩
end Go.Proofs.YtjdlnfmeciodnaaDoor

/- The walks of planimeterref05.Same (of the same) and planimeterlaw06.alive. -/
namespace Go.Proofs.YtjdlnfmeciodnaaDoor
open Go.RowKit


theorem fO_half : fO 4609434218613702656 = ⟨false, 3, -1⟩ := by
  have h1 : fm 4609434218613702656 = 6755399441055744 := by decide
  have h2 : low 6755399441055744 = 51 := low_eq (m := 1) (by decide)
  have h3 : fe 4609434218613702656 = -52 := by decide
  have h4 : fng 4609434218613702656 = false := by decide
  rw [fO, h1, h3, h4, nO_pos _ _ (by decide), h2]
  rfl
theorem fin_half : Fnt 4609434218613702656 := by decide
theorem back_half : exD (nO false 3 (-1)) = (4609434218613702656, true) := by
  have h := exD_back (b := 4609434218613702656) (by decide) fin_half
  have h1 : fm 4609434218613702656 ≠ 0 := by decide
  rw [if_neg h1, fO_half] at h
  have h2 : nO false 3 (-1) = ⟨false, 3, -1⟩ := nO_self (d := ⟨false, 3, -1⟩) (Or.inl ⟨1, rfl⟩) (by decide) (by decide)
  rw [h2]; exact h
theorem kind_inf : fkd 9218868437227405312 = 3 := by decide


end Go.Proofs.YtjdlnfmeciodnaaDoor

/- The walk of planimeterref01.Sub. -/
namespace Go.Proofs.YtjdlnfmeciodnaaDoor
open Go.RowKit

section
variable {kd : IntKind} {t : TypeId} {w : World} {B n c : Nat} {A : Option Addr} {es : List Nat}
theorem Own.form (h : Own kd t w B (.slice A n c) es) (hl : es.length = n) (hn : 0 < n) : ∃ g, A = some ⟨g, 0, none⟩ ∧ B ≤ g := by
  obtain ⟨_, h | ⟨g, cap, cur, hv, hg, _⟩⟩ := h
  · obtain ⟨_, h⟩ := h; omega
  · injection hv with e1 e2 e3
    exact ⟨g, e1, hg⟩
theorem Own.cellAt {g : Nat} (h : Own kd t w B (.slice (some ⟨g, 0, none⟩) n c) es) (hl : es.length = n) {j : Nat} (hj : j < n) : w.cell? ⟨g, j, none⟩ = some (.int kd ((es.getD j 0 : Nat) : Int)) := by
  unfold Own at h
  rw [hl] at h
  rw [World.ownsRow.cellAt h j (by omega), List.getElem?_map, List.getD_eq_getElem?_getD, List.getElem?_eq_getElem (by omega)]
  rfl
theorem Own.frozenAt {g : Nat} (h : Own kd t w B (.slice (some ⟨g, 0, none⟩) n c) es) (hl : es.length = n) (j : Nat) : w.frozen? ⟨g, j, none⟩ = false := by
  unfold Own at h
  rw [hl] at h
  exact World.ownsRow.frozenAt h j
theorem Own.set {g : Nat} (h : Own kd t w B (.slice (some ⟨g, 0, none⟩) n c) es) (hl : es.length = n) (j z : Nat) : Own kd t (w.setCell ⟨g, j, none⟩ (.int kd (z : Int))) B (.slice (some ⟨g, 0, none⟩) n c) (es.set j z) := by
  unfold Own at h ⊢
  rw [hl] at h
  have := (World.ownsRow.stored h j (.int kd (z : Int))).1
  rw [List.length_set, hl, List.map_set]
  exact this
end

theorem dsub_step {x y bn s t k X Y Z : Nat} (hs : s + (bn + y) = x + 65536 * t) (h : Z + Y = X + D.pw k * bn) : Z + D.pw k * s + (Y + D.pw k * y) = X + D.pw k * x + D.pw (k + 1) * t := by
  have e : D.pw (k + 1) * t = D.pw k * (65536 * t) := by rw [D.pw_succ, Nat.mul_assoc, ← Nat.mul_assoc, ← Nat.mul_assoc, Nat.mul_comm (D.pw k)]
  have e2 : D.pw k * (s + (bn + y)) = D.pw k * (x + 65536 * t) := by rw [hs]
  rw [Nat.mul_add, Nat.mul_add, Nat.mul_add] at e2
  omega
theorem dsub_end {X Y Z bn k : Nat} (h : Z + Y = X + D.pw k * bn) (hb : bn ≤ 1) (hz : Z < D.pw k) (hle : Y ≤ X) : Z = X - Y := by
  have : bn = 0 ∨ bn = 1 := by omega
  rcases this with rfl | rfl
  · simp at h; omega
  · simp at h; omega
theorem set_take {es : List Nat} {k z : Nat} (hk : k < es.length) : D.val ((es.set k z).take (k + 1)) = D.val (es.take k) + D.pw k * z := by
  rw [D.val_take_succ _ k (by simpa using hk), List.take_set_of_le (Nat.le_refl _)]
  congr 2
  rw [List.getD_eq_getElem?_getD, List.getElem?_set_self hk]; rfl
theorem set_words {es : List Nat} {k z : Nat} (h : D.Words es) (hz : z < 65536) : D.Words (es.set k z) := by
  intro x hx
  rcases List.mem_or_eq_of_mem_set hx with h' | h'
  · exact h x h'
  · rw [h']; exact hz

set_option maxHeartbeats 4000000 in
theorem rsub_any (A : Option Addr) (n c : Nat) (us : List Nat) (B : Option Addr) (m d : Nat) (bs : List Nat) (w : World) (hA : Dig w A n c us) (hB : Dig w B m d bs) (bb : D.Bare bs) (hle : D.val bs ≤ D.val us) (hn : n ≤ 1000000) (hm : m ≤ 1000000) :
    Calls Tryd.prog 78 #[.slice A n c, .slice B m d] w (DTells w (D.val us - D.val bs) n) := by
  have hmn : m ≤ n := by
    have h1 := D.tl_le_of_val_le hA.words hle
    rw [bb, hB.len] at h1
    have := hA.tl_le
    omega
  have HA := Lib.hid hA
  have HB := Lib.hid hB
  have Hle := Lib.hid hle
  obtain ⟨A1, c1, w1, hrun, ho1, hb1⟩ := app_copy w A n c us hA.1 (by omega)
  have Hrun := Lib.hid hrun
  have Ho1 := Lib.hid ho1
  clear hA hB bb hle hrun ho1
  go_enter Tryd.func78, Tryd.ntmps78
  go_wp2_with (at_builtin; refine wpList_app (s := .tmp 9) (x := .tmp 10) (by rfl) rfl rfl rfl Hrun.out ?_)
  go_loopw [6, 7] (fun cy i wr => ∃ (k bn : Nat) (es : List Nat), k ≤ n ∧ bn ≤ 1 ∧ i = .int .i64 k ∧ cy = .int .u32 bn ∧ Hid (es.length = n) ∧ Hid (Own .u32 54 wr w.heap.size (.slice A1 n c1) es) ∧ Hid (D.Words es) ∧ Hid (∀ j, k ≤ j → es.getD j 0 = us.getD j 0) ∧ Hid (D.val (es.take k) + D.val (bs.take k) = D.val (us.take k) + D.pw k * bn) ∧ Below w.heap.size w wr) (fun _ i _ => n - (intOf i).toNat)
  case atStart => exact ⟨0, 0, us, Nat.zero_le _, Nat.zero_le _, rfl, rfl, HA.out.len, Ho1, HA.out.words, fun j _ => rfl, by simp [Hid, D.val], hb1⟩
  case round =>
    obtain ⟨k, bn, es, hk, hbn, rfl, rfl, Hl, Ho, Hw, Hr, HE, hb⟩ := hrel
    by_cases hlt : k < n
    · obtain ⟨g, rfl, hg⟩ := Ho.out.form Hl.out (by omega)
      have c2 := Ho.out.cellAt Hl.out hlt
      have c3 := Ho.out.frozenAt Hl.out k
      obtain ⟨x, hx⟩ : ∃ x, us.getD k 0 = x := ⟨_, rfl⟩
      obtain ⟨y, hy⟩ : ∃ y, bs.getD k 0 = y := ⟨_, rfl⟩
      have hxw := HA.out.words.getD k
      have hyw := HB.out.words.getD k
      rw [Hr.out k (Nat.le_refl _), hx] at c2
      rw [hx] at hxw
      rw [hy] at hyw
      have hlb := HB.out.len
      have key : ∀ s t, s + (bn + y) = x + 65536 * t → s < 65536 → Hid ((es.set k s).length = n) ∧ Hid (D.Words (es.set k s)) ∧ Hid (∀ j, k + 1 ≤ j → (es.set k s).getD j 0 = us.getD j 0) ∧ Hid (D.val ((es.set k s).take (k + 1)) + D.val (bs.take (k + 1)) = D.val (us.take (k + 1)) + D.pw (k + 1) * t) := by
        intro s t hst hs
        refine ⟨by have := Hl.out; simp [Hid]; exact this, set_words Hw.out hs, fun j hj => ?_, ?_⟩
        · rw [List.getD_eq_getElem?_getD, List.getElem?_set_ne (by omega), ← List.getD_eq_getElem?_getD]
          exact Hr.out j (by omega)
        · have h1 := dsub_step hst HE.out
          rw [← hx, ← hy, ← D.val_take_succ', ← D.val_take_succ'] at h1
          rw [set_take (by have := Hl.out; omega)]
          exact h1
      have Hkey := Lib.hid key
      have Hx := Lib.hid hx
      have Hy := Lib.hid hy
      clear key hx hy
      by_cases h1 : k < m
      · by_cases h2 : x < bn + y
        · obtain ⟨bb, ob, rfl, hbb, hcl⟩ := HB.out.at_ (by omega)
          have cb := (hb.cell (p := ⟨bb, ob + k, none⟩) hbb).trans (hcl k (by omega))
          rw [Hy.out] at cb
          have b1 : decide (k < m) = true := by simp; omega
          clear hcl
          obtain ⟨s, hs⟩ : ∃ s, s + (bn + y) = x + 65536 * 1 := ⟨x + 65536 - (bn + y), by omega⟩
          obtain ⟨k1, k2, k3, k4⟩ := Hkey.out s 1 hs (by omega)
          have e1 : (x : Int) + 65536 - ((bn : Int) + (y : Int)) = (s : Int) := by omega
          have b2 : decide ((x : Int) < (bn : Int) + (y : Int)) = true := by simp; omega
          have Hown := Lib.hid ((Ho.out.set Hl.out k (x + 65536)).set (by have := Hl.out; simp; exact this) k s)
          rw [List.set_set] at Hown
          have hbel := (hb.setCell (p := ⟨g, k, none⟩) hg (.int .u32 ((x + 65536 : Nat) : Int))).setCell (p := ⟨g, k, none⟩) hg (.int .u32 (s : Int))
          rw [show ((x + 65536 : Nat) : Int) = (x : Int) + 65536 from by omega] at hbel Hown
          clear hs
          go_wp2
          go_roundw
          case rel => exact ⟨k + 1, 1, es.set k s, by omega, by omega, by go_num, rfl, k1, Hown, k2, k3, k4, hbel⟩
          case measure => simp [intOf]; omega
        · obtain ⟨bb, ob, rfl, hbb, hcl⟩ := HB.out.at_ (by omega)
          have cb := (hb.cell (p := ⟨bb, ob + k, none⟩) hbb).trans (hcl k (by omega))
          rw [Hy.out] at cb
          have b1 : decide (k < m) = true := by simp; omega
          clear hcl
          obtain ⟨s, hs⟩ : ∃ s, s + (bn + y) = x + 65536 * 0 := ⟨x - (bn + y), by omega⟩
          obtain ⟨k1, k2, k3, k4⟩ := Hkey.out s 0 hs (by omega)
          have e1 : (x : Int) - ((bn : Int) + (y : Int)) = (s : Int) := by omega
          have b2 : decide ((x : Int) < (bn : Int) + (y : Int)) = false := by simp; omega
          have Hown := Lib.hid (Ho.out.set Hl.out k s)
          have hbel := hb.setCell (p := ⟨g, k, none⟩) hg (.int .u32 (s : Int))
          clear hs
          go_wp2
          go_roundw
          case rel => exact ⟨k + 1, 0, es.set k s, by omega, by omega, by go_num, rfl, k1, Hown, k2, k3, k4, hbel⟩
          case measure => simp [intOf]; omega
      · have hy00 : y = 0 := by rw [← Hy.out]; exact getD_past (by omega)
        by_cases h2 : x < bn
        · clear hy00
          have hy0 : y = 0 := by rw [← Hy.out]; exact getD_past (by omega)
          have b1 : decide (k < m) = false := by simp; omega
          obtain ⟨s, hs⟩ : ∃ s, s + (bn + y) = x + 65536 * 1 := ⟨x + 65536 - (bn + y), by omega⟩
          obtain ⟨k1, k2, k3, k4⟩ := Hkey.out s 1 hs (by omega)
          have e1 : (x : Int) + 65536 - ((bn : Int)) = (s : Int) := by omega
          have b2 : decide ((x : Int) < (bn : Int)) = true := by simp; omega
          have Hown := Lib.hid ((Ho.out.set Hl.out k (x + 65536)).set (by have := Hl.out; simp; exact this) k s)
          rw [List.set_set] at Hown
          have hbel := (hb.setCell (p := ⟨g, k, none⟩) hg (.int .u32 ((x + 65536 : Nat) : Int))).setCell (p := ⟨g, k, none⟩) hg (.int .u32 (s : Int))
          rw [show ((x + 65536 : Nat) : Int) = (x : Int) + 65536 from by omega] at hbel Hown
          clear hs hy0
          go_wp2
          go_roundw
          case rel => exact ⟨k + 1, 1, es.set k s, by omega, by omega, by go_num, rfl, k1, Hown, k2, k3, k4, hbel⟩
          case measure => simp [intOf]; omega
        · clear hy00
          have hy0 : y = 0 := by rw [← Hy.out]; exact getD_past (by omega)
          have b1 : decide (k < m) = false := by simp; omega
          obtain ⟨s, hs⟩ : ∃ s, s + (bn + y) = x + 65536 * 0 := ⟨x - (bn + y), by omega⟩
          obtain ⟨k1, k2, k3, k4⟩ := Hkey.out s 0 hs (by omega)
          have e1 : (x : Int) - ((bn : Int)) = (s : Int) := by omega
          have b2 : decide ((x : Int) < (bn : Int)) = false := by simp; omega
          have Hown := Lib.hid (Ho.out.set Hl.out k s)
          have hbel := hb.setCell (p := ⟨g, k, none⟩) hg (.int .u32 (s : Int))
          clear hs hy0
          go_wp2
          go_roundw
          case rel => exact ⟨k + 1, 0, es.set k s, by omega, by omega, by go_num, rfl, k1, Hown, k2, k3, k4, hbel⟩
          case measure => simp [intOf]; omega
    · obtain rfl : k = n := by omega
      have hV : D.val es = D.val us - D.val bs := by
        have e1 := HE.out
        rw [List.take_of_length_le (l := es) (by have := Hl.out; omega), List.take_of_length_le (l := bs) (by have := HB.out.len; omega), List.take_of_length_le (l := us) (by have := HA.out.len; omega)] at e1
        have e2 := D.val_lt Hw.out
        rw [Hl.out] at e2
        exact dsub_end e1 hbn e2 Hle.out
      have hN := (norm_any A1 k c1 es _ (Ho.out.dig Hl.out Hw.out) (by omega)).mono (R' := DTells w (D.val us - D.val bs) k) (fun e w' h => by
        obtain ⟨A', m', c', fs, h1, h2, h3, h4, h5, h6⟩ := h
        exact ⟨A', m', c', fs, h1, h2, h3, h4, h5.trans hV, hb.trans (h6.mono hb.size)⟩)
      have HN := Lib.hid hN
      clear hV hN
      go_wp2_with fail
      refine HN.out.mono ?_
      intro e w' hr
      obtain ⟨A', m', c', fs, rfl, h3⟩ := hr
      have H3 := Lib.hid h3
      clear h3
      go_wp2
      go_ret
      exact ⟨A', m', c', fs, rfl, H3.out⟩
end Go.Proofs.YtjdlnfmeciodnaaDoor

/- The walks of planimeterref01.Bits, Bit and Double. -/
namespace Go.Proofs.YtjdlnfmeciodnaaDoor
open Go.RowKit

theorem blen_top {lo x p : Nat} (hlo : lo < 2 ^ p) (hx : x ≠ 0) : blen (lo + 2 ^ p * x) = p + blen x := by
  have hx1 := blen_pos hx
  apply blen_eq
  · have h1 := blen_le hx
    have e : p + blen x - 1 = p + (blen x - 1) := by omega
    rw [e, Nat.pow_add]
    exact Nat.le_trans (Nat.mul_le_mul_left _ h1) (Nat.le_add_left _ _)
  · have h1 := lt_blen x
    rw [Nat.pow_add]
    have h2 : 2 ^ p * (x + 1) ≤ 2 ^ p * 2 ^ blen x := Nat.mul_le_mul_left _ h1
    rw [Nat.mul_add] at h2
    omega
  · omega
theorem blen_half {x : Nat} (hx : x ≠ 0) : blen x = blen (x / 2) + 1 := by
  have hx1 := blen_pos hx
  by_cases h1 : x = 1
  · subst h1; decide
  · have h2 : x / 2 ≠ 0 := by omega
    have h3 := blen_le hx
    have h4 := lt_blen x
    have h5 : 2 ≤ blen x := by
      rcases Nat.lt_or_ge (blen x) 2 with h | h
      · obtain h6 : blen x = 1 := by omega
        rw [h6] at h4; omega
      · exact h
    obtain ⟨j, hj⟩ : ∃ j, blen x = j + 2 := ⟨blen x - 2, by omega⟩
    rw [hj] at h3 h4
    rw [show j + 2 - 1 = j + 1 from rfl, Nat.pow_succ] at h3
    rw [Nat.pow_succ, Nat.pow_succ] at h4
    have := blen_eq (x := x / 2) (k := j + 1) (by rw [Nat.add_sub_cancel]; omega) (by rw [Nat.pow_succ]; omega) (by omega)
    omega

set_option maxHeartbeats 1000000 in
theorem rbits_any (A : Option Addr) (n c : Nat) (ds : List Nat) (w : World) (h : Dig w A n c ds) (hb : D.Bare ds) (hn : n ≤ 1000000) :
    Calls Tryd.prog 46 #[.slice A n c] w fun e w' => e = .returned (.int .i64 (blen (D.val ds) : Int)) ∧ w = w' := by
  cases n with
  | zero =>
    have HV : Hid (blen (D.val ds) = 0) := by
      have : ds = [] := List.eq_nil_of_length_eq_zero h.len
      subst this; rfl
    clear h hb
    go_enter Tryd.func46, Tryd.ntmps46
    go_wp2
    go_ret
    exact ⟨by rw [HV.out]; rfl, rfl⟩
  | succ j =>
    have hne := D.getD_tl_pred (xs := ds) (j := j) (by rw [hb, h.len])
    have hlo := D.val_lt (h.words.take j)
    rw [List.length_take, h.len, Nat.min_eq_left (by omega), D.pw_two] at hlo
    have hlast := D.val_take_succ ds j (by rw [h.len]; omega)
    rw [List.take_of_length_le (by rw [h.len]; exact Nat.le_refl _), D.pw_two] at hlast
    have hV : blen (D.val ds) = 16 * j + blen (ds.getD j 0) := by rw [hlast]; exact blen_top hlo hne
    obtain ⟨b, o, rfl, hbl, hcl⟩ := h.at_ (by omega)
    have c1 := hcl j (by omega)
    have hxw := h.words.getD j
    generalize ds.getD j 0 = x at c1 hV hxw hne
    have hxb := blen_le_iff.2 (show x < 2 ^ 16 from hxw)
    have b1 : (((j : Int) + 1) == 0) = false := beq_eq_false_iff_ne.2 (by omega)
    have HV := Lib.hid hV
    have Hxb := Lib.hid hxb
    clear hne hlo hlast hV hcl h hb hxb
    go_enter Tryd.func46, Tryd.ntmps46
    go_wp2
    clear b1 c1
    go_loop [3, 4] (fun i y => ∃ k z : Nat, k ≤ 16 ∧ z < 65536 ∧ i = .int .i64 (16 * (j : Int) + k) ∧ y = .int .u32 z ∧ Hid (k + blen z = blen x)) (fun _ y => (intOf y).toNat)
    case atStart => exact ⟨0, x, by omega, hxw, rfl, rfl, by show 0 + blen x = blen x; omega⟩
    case round =>
      obtain ⟨k, z, hk, hz, rfl, rfl, HE⟩ := hrel
      by_cases h0 : z = 0
      · subst h0
        have HF : Hid (blen (D.val ds) = 16 * j + k) := by
          rw [HV.out]
          have := HE.out
          rw [blen_zero] at this
          show _ = _
          omega
        go_wp2
        go_ret
        exact ⟨ret_int (a := 16 * (j : Int) + k) (by rw [HF.out]; omega), rfl⟩
      · have HE2 : Hid ((k + 1) + blen (z / 2) = blen x) := by
          have h1 := HE.out
          rw [blen_half h0] at h1
          show _ = _
          omega
        have hk2 : k + 1 ≤ 16 := by have h1 := HE2.out; have h2 := Hxb.out; omega
        have b2 : decide (0 < z) = true := by simp; omega
        have b3 : decide ((0 : Int) < (z : Int)) = true := by simp; omega
        go_wp2
        go_round
        case rel => exact ⟨k + 1, z / 2, hk2, by omega, by go_num, by go_num, HE2⟩
        case measure => simp [intOf]; omega

theorem bit_digit {lo d hi q r : Nat} (hlo : lo < 2 ^ (16 * q)) (hr : r < 16) : (lo + 2 ^ (16 * q) * (d + 65536 * hi)) / 2 ^ (16 * q + r) % 2 = d / 2 ^ r % 2 := by
  rw [Nat.pow_add, ← Nat.div_div_eq_div_mul, Nat.add_mul_div_left _ _ (Nat.pow_pos (by decide)), Nat.div_eq_of_lt hlo, Nat.zero_add]
  have e : 65536 * hi = 2 ^ r * (2 * (2 ^ (15 - r) * hi)) := by
    have : (65536 : Nat) = 2 ^ r * (2 * 2 ^ (15 - r)) := by
      rw [← Nat.pow_succ', ← Nat.pow_add, show r + (15 - r).succ = 16 from by omega]
    rw [this, Nat.mul_assoc, Nat.mul_assoc]
  rw [e, Nat.add_mul_div_left _ _ (Nat.pow_pos (by decide))]
  omega
theorem bit_past {ds : List Nat} {i : Nat} (hw : D.Words ds) (h : ds.length ≤ i / 16) : D.val ds / 2 ^ i % 2 = 0 := by
  have h1 := D.val_lt hw
  rw [D.pw_two] at h1
  have h2 : 2 ^ (16 * ds.length) ≤ 2 ^ i := Nat.pow_le_pow_right (by decide) (by omega)
  rw [Nat.div_eq_of_lt (by omega)]
theorem bit_at {ds : List Nat} {i : Nat} (hw : D.Words ds) (h : i / 16 < ds.length) : D.val ds / 2 ^ i % 2 = ds.getD (i / 16) 0 / 2 ^ (i % 16) % 2 := by
  have h1 := D.val_split ds (i / 16) (by omega)
  rw [D.drop_cons ds (i / 16) h, D.val] at h1
  have h2 := D.val_lt (hw.take (i / 16))
  rw [List.length_take, Nat.min_eq_left (by omega), D.pw_two] at h2
  rw [D.pw_two] at h1
  rw [h1]
  have := bit_digit (d := ds.getD (i / 16) 0) (hi := D.val (ds.drop (i / 16 + 1))) h2 (show i % 16 < 16 by omega)
  rw [show 16 * (i / 16) + i % 16 = i from by omega] at this
  exact this

set_option maxHeartbeats 1000000 in
theorem rbit_any (v : Nat) (A : Option Addr) (n c : Nat) (ds : List Nat) (i : Nat) (w : World) (h : Dig w A n c ds) (hn : n ≤ 1000000) (hi : i ≤ 1000000000) (hv : Hid (D.val ds / 2 ^ i % 2 = v)) :
    Calls Tryd.prog 20 #[.slice A n c, .int .i64 (i : Int)] w fun e w' => e = .returned (.int .u32 (v : Int)) ∧ w = w' := by
  obtain ⟨q, hq⟩ : ∃ q, i / 16 = q := ⟨_, rfl⟩
  obtain ⟨r, hr⟩ : ∃ r, i % 16 = r := ⟨_, rfl⟩
  have e1 : (i : Int) / 16 = (q : Int) := by omega
  have e2 : (i : Int) % 16 = (r : Int) := by omega
  have hr16 : r < 16 := by omega
  by_cases hlt : q < n
  · have HV := Lib.hid (hv.out.symm.trans (bit_at (i := i) h.words (by rw [h.len]; omega)))
    rw [hq, hr] at HV
    obtain ⟨b, o, rfl, hbl, hcl⟩ := h.at_ (by omega)
    have c1 := hcl q hlt
    have hxw := h.words.getD q
    generalize ds.getD q 0 = x at c1 HV hxw
    have b1 : decide (n ≤ q) = false := by simp; omega
    clear hcl h hq hr hv
    go_enter Tryd.func20, Tryd.ntmps20
    go_wp2
    clear c1 e1
    go_loop [5, 6] (fun y j => ∃ k z : Nat, k ≤ r ∧ z < 65536 ∧ j = .int .i64 k ∧ y = .int .u32 z ∧ Hid (z = x / 2 ^ k)) (fun _ j => r - (intOf j).toNat)
    case atStart => exact ⟨0, x, Nat.zero_le _, hxw, rfl, rfl, by simp [Hid]⟩
    case round =>
      obtain ⟨k, z, hk, hz, rfl, rfl, HE⟩ := hrel
      by_cases hkr : k < r
      · have HE2 : Hid (z / 2 = x / 2 ^ (k + 1)) := by rw [HE.out, Nat.div_div_eq_div_mul, Nat.pow_succ]; rfl
        go_wp2
        go_round
        case rel => exact ⟨k + 1, z / 2, by omega, by omega, by go_num, by go_num, HE2⟩
        case measure => simp [intOf]; omega
      · obtain rfl : k = r := by omega
        have HF : Hid (v = z % 2) := by rw [HV.out, HE.out]; rfl
        go_wp2
        go_ret
        exact ⟨ret_int (a := (z : Int) % 2) (by rw [HF.out]; omega), rfl⟩
  · have HV := Lib.hid (hv.out.symm.trans (bit_past (i := i) h.words (by rw [h.len]; omega)))
    have b1 : decide (n ≤ q) = true := by simp; omega
    clear h hq hr hv
    go_enter Tryd.func20, Tryd.ntmps20
    go_wp2
    go_ret
    exact ⟨by rw [HV.out]; rfl, rfl⟩

theorem ddbl_step {x cn s t k X Z mo : Nat} (hs : s + 65536 * t = cn + 2 * x) (h : Z + D.pw k * cn = 2 * X + mo) : Z + D.pw k * s + D.pw (k + 1) * t = 2 * (X + D.pw k * x) + mo := by
  have e : D.pw (k + 1) * t = D.pw k * (65536 * t) := by rw [D.pw_succ, Nat.mul_assoc, ← Nat.mul_assoc, ← Nat.mul_assoc, Nat.mul_comm (D.pw k)]
  have e2 : D.pw k * (s + 65536 * t) = D.pw k * (cn + 2 * x) := by rw [hs]
  have e3 : D.pw k * (2 * x) = 2 * (D.pw k * x) := by rw [← Nat.mul_assoc, Nat.mul_comm (D.pw k), Nat.mul_assoc]
  rw [Nat.mul_add, Nat.mul_add, e3] at e2
  omega

set_option maxHeartbeats 4000000 in
theorem rdouble_any (A : Option Addr) (n c : Nat) (us : List Nat) (mo : Nat) (w : World) (hA : Dig w A n c us) (ba : D.Bare us) (hmo : mo ≤ 1) (hn : n ≤ 1000000) :
    Calls Tryd.prog 47 #[.slice A n c, .int .u32 (mo : Int)] w (DTells w (2 * D.val us + mo) (n + 1)) := by
  have HA := Lib.hid hA
  have Hga := Lib.hid (dval_ge ba hA.len)
  clear hA ba
  go_enter Tryd.func47, Tryd.ntmps47
  go_wp2
  go_loopw [5, 6, 7] (fun v cy i wr => ∃ (k cn m1 c1 : Nat) (A1 : Option Addr) (es : List Nat), k ≤ n + 1 ∧ cn ≤ 1 ∧ m1 ≤ k ∧ k ≤ m1 ∧ i = .int .i64 k ∧ cy = .int .u32 cn ∧ v = .slice A1 m1 c1 ∧ Hid (es.length = m1) ∧ Hid (Own .u32 54 wr w.heap.size (.slice A1 m1 c1) es) ∧ Hid (D.Words es) ∧ Hid (D.val es + D.pw k * cn = 2 * D.val (us.take k) + mo) ∧ Hid (k ≤ n ∨ (cn = 0 ∧ D.pw n ≤ 2 * D.val us + mo)) ∧ Below w.heap.size w wr) (fun _ _ i _ => n + 1 - (intOf i).toNat)
  case atStart => exact ⟨0, mo, 0, 0, none, [], Nat.zero_le _, hmo, Nat.zero_le _, Nat.zero_le _, rfl, rfl, rfl, rfl, Own.nil _ _ _ _, D.Words.nil, by simp [Hid, D.val, D.pw_zero], Or.inl (Nat.zero_le _), Below.refl _ _⟩
  case round =>
    obtain ⟨k, cn, m1, c1, A1, es, hk, hcn, hm1, hm2, rfl, rfl, rfl, Hl, Ho, Hw, HE, HM, hb⟩ := hrel
    obtain ⟨x, hx⟩ : ∃ x, us.getD k 0 = x := ⟨_, rfl⟩
    have hxw := HA.out.words.getD k
    rw [hx] at hxw
    obtain ⟨s, t, hst, hs, ht⟩ : ∃ s t, s + 65536 * t = cn + 2 * x ∧ s < 65536 ∧ t ≤ 1 := ⟨(cn + 2 * x) % 65536, (cn + 2 * x) / 65536, by omega, by omega, by omega⟩
    have hm3 : m1 = k := by omega
    have HE' := Lib.hid (ddbl_step hst HE.out)
    rw [← hx, ← D.val_take_succ'] at HE'
    obtain ⟨A3, c3, w3, hrun, ho3, hb3⟩ := app_digit wr w.heap.size A1 m1 c1 es s s rfl Ho.out Hl.out hb.size (by omega)
    have Hrun := Lib.hid hrun
    have Ho3 := Lib.hid ho3
    have hb4 := hb.trans hb3
    have Hl3 : Hid ((es ++ [s]).length = m1 + 1) := by have := Hl.out; simp [Hid]; omega
    have Hw3 : Hid (D.Words (es ++ [s])) := Hw.out.append (D.Words.one hs)
    have HE3 : Hid (D.val (es ++ [s]) + D.pw (k + 1) * t = 2 * D.val (us.take (k + 1)) + mo) := by rw [D.val_snoc, Hl.out, hm3]; exact HE'.out
    have Hst := Lib.hid hst
    have Hx := Lib.hid hx
    have hla := HA.out.len
    clear hrun ho3 hb3 hx hst HE' hm3
    by_cases h1 : k < n
    · have HM3 : Hid (k + 1 ≤ n ∨ (t = 0 ∧ D.pw n ≤ 2 * D.val us + mo)) := Or.inl (by omega)
      obtain ⟨ba, oa, rfl, hba, hcl⟩ := HA.out.at_ (by omega)
      have ca := (hb.cell (p := ⟨ba, oa + k, none⟩) hba).trans (hcl k (by omega))
      rw [Hx.out] at ca
      clear hcl
      have e1 : ((cn : Int) + 2 * (x : Int)) % 65536 = (s : Int) := by have := Hst.out; omega
      have e2 : ((cn : Int) + 2 * (x : Int)) / 65536 = (t : Int) := by have := Hst.out; omega
      have b1 : decide (k < n) = true := by simp; omega
      clear hla
      go_wp2_with (at_builtin; refine wpList_app (s := .tmp 32) (x := .tmp 35) (by rfl) rfl rfl rfl Hrun.out ?_)
      go_roundw
      case rel => exact ⟨k + 1, t, m1 + 1, c3, A3, es ++ [s], by omega, ht, by omega, by omega, by go_num, by first | rfl | rw [e2], rfl, Hl3, Ho3, Hw3, HE3, HM3, hb4⟩
      case measure => simp [intOf]; omega
    · have hx0 : x = 0 := by rw [← Hx.out]; exact getD_past (by omega)
      have b1 : decide (k < n) = false := by simp; omega
      have hta : us.take k = us := List.take_of_length_le (by omega)
      have HEf : Hid (D.val es + D.pw k * cn = 2 * D.val us + mo) := by have := HE.out; rw [hta] at this; exact this
      by_cases h3 : cn = 1
      · have e1 : (cn : Int) % 65536 = (s : Int) := by have := Hst.out; omega
        have e2 : (cn : Int) / 65536 = (t : Int) := by have := Hst.out; omega
        have b3 : decide (0 < cn) = true := by simp; omega
        have hkM : k ≤ n := by
          rcases HM.out with h | ⟨h, _⟩
          · exact h
          · omega
        have HM3 : Hid (k + 1 ≤ n ∨ (t = 0 ∧ D.pw n ≤ 2 * D.val us + mo)) := Or.inr ⟨by have := Hst.out; omega, by
          have h4 := HEf.out
          rw [h3, Nat.mul_one, show k = n from by omega] at h4
          omega⟩
        clear hla hx0 hta h3
        go_wp2_with (at_builtin; refine wpList_app (s := .tmp 32) (x := .tmp 35) (by rfl) rfl rfl rfl Hrun.out ?_)
        go_roundw
        case rel => exact ⟨k + 1, t, m1 + 1, c3, A3, es ++ [s], by omega, ht, by omega, by omega, by go_num, by first | rfl | rw [e2], rfl, Hl3, Ho3, Hw3, HE3, HM3, hb4⟩
        case measure => simp [intOf]; omega
      · obtain rfl : cn = 0 := by omega
        have hV : D.val es = 2 * D.val us + mo := by have := HEf.out; rw [Nat.mul_zero, Nat.add_zero] at this; exact this
        have hbare : D.Bare es := dbare_of Hw.out Hl.out (by
          rw [hV]
          rcases HM.out with h | ⟨_, h⟩
          · obtain rfl : m1 = n := by omega
            rcases Hga.out with g | g
            · exact Or.inl g
            · exact Or.inr (by omega)
          · by_cases e : m1 ≤ n
            · obtain rfl : m1 = n := by omega
              have : D.pw (m1 - 1) ≤ D.pw m1 := D.pw_mono (by omega)
              exact Or.inr (by omega)
            · rw [show m1 - 1 = n from by omega]
              exact Or.inr h)
        have Hfin : Hid (DTells w (2 * D.val us + mo) (n + 1) (.returned (.slice A1 m1 c1)) wr) := ⟨A1, m1, c1, es, rfl, by omega, Ho.out.dig Hl.out Hw.out, hbare, hV, hb⟩
        clear hla hx0 hta h3 hV hbare
        go_wp2
        go_ret
        exact Hfin.out
end Go.Proofs.YtjdlnfmeciodnaaDoor
