/- The walk of planimeterref01.Add. -/
import Derived.Test.YtgacafdkhailmaaDoorWOf
namespace Go.Proofs.YtgacafdkhailmaaDoor
open Go.RowKit

theorem dadd_step {x y cn s t k X Y Z : Nat} (hs : s + 65536 * t = cn + x + y) (h : Z + D.pw k * cn = X + Y) : Z + D.pw k * s + D.pw (k + 1) * t = X + D.pw k * x + (Y + D.pw k * y) := by
  have e : D.pw (k + 1) * t = D.pw k * (65536 * t) := by rw [D.pw_succ, Nat.mul_assoc, ← Nat.mul_assoc, ← Nat.mul_assoc, Nat.mul_comm (D.pw k)]
  have e2 : D.pw k * (s + 65536 * t) = D.pw k * (cn + x + y) := by rw [hs]
  rw [Nat.mul_add, Nat.mul_add, Nat.mul_add] at e2
  omega
theorem dbare_of {es : List Nat} {k : Nat} (hw : D.Words es) (hl : es.length = k) (h : k = 0 ∨ D.pw (k - 1) ≤ D.val es) : D.Bare es := by
  show D.tl es = es.length
  have h1 := D.tl_le es
  rcases Nat.lt_or_ge (D.tl es) es.length with h2 | h2
  · exfalso
    have h3 := D.val_lt_tl hw
    have h4 : D.pw (D.tl es) ≤ D.pw (k - 1) := D.pw_mono (by omega)
    rcases h with h | h
    · omega
    · omega
  · omega
theorem dval_ge {ds : List Nat} {n : Nat} (hb : D.Bare ds) (hl : ds.length = n) : n = 0 ∨ D.pw (n - 1) ≤ D.val ds := by
  cases n with
  | zero => exact Or.inl rfl
  | succ j => exact Or.inr (D.val_pos_of_tl (by rw [hb, hl]; rfl))
theorem getD_past {ds : List Nat} {k : Nat} (h : ds.length ≤ k) : ds.getD k 0 = 0 := by
  rw [List.getD_eq_getElem?_getD, List.getElem?_eq_none h]; rfl

set_option maxHeartbeats 4000000 in
theorem radd_any (A : Option Addr) (n c : Nat) (us : List Nat) (B : Option Addr) (m d : Nat) (bs : List Nat) (w : World) (hA : Dig w A n c us) (hB : Dig w B m d bs) (ba : D.Bare us) (bb : D.Bare bs) (hn : n ≤ 1000000) (hm : m ≤ 1000000) :
    Calls Tryd.prog 78 #[.slice A n c, .slice B m d] w (DTells w (D.val us + D.val bs) (max n m + 1)) := by
  have HA := Lib.hid hA
  have HB := Lib.hid hB
  have Hga := Lib.hid (dval_ge ba hA.len)
  have Hgb := Lib.hid (dval_ge bb hB.len)
  clear hA hB ba bb
  go_enter Tryd.func78, Tryd.ntmps78
  go_wp2
  go_loopw [5, 6, 7] (fun v cy i wr => ∃ (k cn m1 c1 : Nat) (A1 : Option Addr) (es : List Nat), k ≤ max n m + 1 ∧ cn ≤ 1 ∧ m1 ≤ k ∧ k ≤ m1 ∧ i = .int .i64 k ∧ cy = .int .u32 cn ∧ v = .slice A1 m1 c1 ∧ Hid (es.length = m1) ∧ Hid (Own .u32 62 wr w.heap.size (.slice A1 m1 c1) es) ∧ Hid (D.Words es) ∧ Hid (D.val es + D.pw k * cn = D.val (us.take k) + D.val (bs.take k)) ∧ Hid (k ≤ max n m ∨ (cn = 0 ∧ D.pw (max n m) ≤ D.val us + D.val bs)) ∧ Below w.heap.size w wr) (fun _ _ i _ => max n m + 1 - (intOf i).toNat)
  case atStart => exact ⟨0, 0, 0, 0, none, [], Nat.zero_le _, Nat.zero_le _, Nat.zero_le _, Nat.zero_le _, rfl, rfl, rfl, rfl, Own.nil _ _ _ _, D.Words.nil, by simp [Hid, D.val], Or.inl (Nat.zero_le _), Below.refl _ _⟩
  case round =>
    obtain ⟨k, cn, m1, c1, A1, es, hk, hcn, hm1, hm2, rfl, rfl, rfl, Hl, Ho, Hw, HE, HM, hb⟩ := hrel
    obtain ⟨x, hx⟩ : ∃ x, us.getD k 0 = x := ⟨_, rfl⟩
    obtain ⟨y, hy⟩ : ∃ y, bs.getD k 0 = y := ⟨_, rfl⟩
    have hxw := HA.out.words.getD k
    have hyw := HB.out.words.getD k
    rw [hx] at hxw
    rw [hy] at hyw
    obtain ⟨s, t, hst, hs, ht⟩ : ∃ s t, s + 65536 * t = cn + x + y ∧ s < 65536 ∧ t ≤ 1 := ⟨(cn + x + y) % 65536, (cn + x + y) / 65536, by omega, by omega, by omega⟩
    have hm3 : m1 = k := by omega
    have HE' := Lib.hid (dadd_step hst HE.out)
    rw [← hx, ← hy, ← D.val_take_succ', ← D.val_take_succ'] at HE'
    obtain ⟨A3, c3, w3, hrun, ho3, hb3⟩ := app_digit wr w.heap.size A1 m1 c1 es s s rfl Ho.out Hl.out hb.size (by omega)
    have Hrun := Lib.hid hrun
    have Ho3 := Lib.hid ho3
    have hb4 := hb.trans hb3
    have Hl3 : Hid ((es ++ [s]).length = m1 + 1) := by have := Hl.out; simp [Hid]; omega
    have Hw3 : Hid (D.Words (es ++ [s])) := Hw.out.append (D.Words.one hs)
    have HE3 : Hid (D.val (es ++ [s]) + D.pw (k + 1) * t = D.val (us.take (k + 1)) + D.val (bs.take (k + 1))) := by rw [D.val_snoc, Hl.out, hm3]; exact HE'.out
    have Hst := Lib.hid hst
    have Hx := Lib.hid hx
    have Hy := Lib.hid hy
    have hla := HA.out.len
    have hlb := HB.out.len
    clear hrun ho3 hb3 hx hy hst HE' hm3
    by_cases h1 : k < n
    · have HM3 : Hid (k + 1 ≤ max n m ∨ (t = 0 ∧ D.pw (max n m) ≤ D.val us + D.val bs)) := Or.inl (by omega)
      by_cases h2 : k < m
      · obtain ⟨ba, oa, rfl, hba, hcl⟩ := HA.out.at_ (by omega)
        have ca := (hb.cell (p := ⟨ba, oa + k, none⟩) hba).trans (hcl k (by omega))
        rw [Hx.out] at ca
        clear hcl
        obtain ⟨bb, ob, rfl, hbb, hcl⟩ := HB.out.at_ (by omega)
        have cb := (hb.cell (p := ⟨bb, ob + k, none⟩) hbb).trans (hcl k (by omega))
        rw [Hy.out] at cb
        clear hcl
        have e1 : ((cn : Int) + (x : Int) + (y : Int)) % 65536 = (s : Int) := by have := Hst.out; omega
        have e2 : ((cn : Int) + (x : Int) + (y : Int)) / 65536 = (t : Int) := by have := Hst.out; omega
        have b1 : decide (k < n) = true := by simp; omega
        have b2 : decide (k < m) = true := by simp; omega
        clear hla hlb
        go_wp2_with (at_builtin; refine wpList_app (s := .tmp 46) (x := .tmp 49) (by rfl) rfl rfl rfl Hrun.out ?_)
        go_roundw
        case rel => exact ⟨k + 1, t, m1 + 1, c3, A3, es ++ [s], by omega, ht, by omega, by omega, by go_num, by first | rfl | rw [e2], rfl, Hl3, Ho3, Hw3, HE3, HM3, hb4⟩
        case measure => simp [intOf]; omega
      · obtain ⟨ba, oa, rfl, hba, hcl⟩ := HA.out.at_ (by omega)
        have ca := (hb.cell (p := ⟨ba, oa + k, none⟩) hba).trans (hcl k (by omega))
        rw [Hx.out] at ca
        clear hcl
        have hy0 : y = 0 := by rw [← Hy.out]; exact getD_past (by omega)
        have e1 : ((cn : Int) + (x : Int)) % 65536 = (s : Int) := by have := Hst.out; omega
        have e2 : ((cn : Int) + (x : Int)) / 65536 = (t : Int) := by have := Hst.out; omega
        have b1 : decide (k < n) = true := by simp; omega
        have b2 : decide (k < m) = false := by simp; omega
        clear hla hlb hy0
        go_wp2_with (at_builtin; refine wpList_app (s := .tmp 46) (x := .tmp 49) (by rfl) rfl rfl rfl Hrun.out ?_)
        go_roundw
        case rel => exact ⟨k + 1, t, m1 + 1, c3, A3, es ++ [s], by omega, ht, by omega, by omega, by go_num, by first | rfl | rw [e2], rfl, Hl3, Ho3, Hw3, HE3, HM3, hb4⟩
        case measure => simp [intOf]; omega
    · by_cases h2 : k < m
      · have HM3 : Hid (k + 1 ≤ max n m ∨ (t = 0 ∧ D.pw (max n m) ≤ D.val us + D.val bs)) := Or.inl (by omega)
        have hx0 : x = 0 := by rw [← Hx.out]; exact getD_past (by omega)
        obtain ⟨bb, ob, rfl, hbb, hcl⟩ := HB.out.at_ (by omega)
        have cb := (hb.cell (p := ⟨bb, ob + k, none⟩) hbb).trans (hcl k (by omega))
        rw [Hy.out] at cb
        clear hcl
        have e1 : ((cn : Int) + (y : Int)) % 65536 = (s : Int) := by have := Hst.out; omega
        have e2 : ((cn : Int) + (y : Int)) / 65536 = (t : Int) := by have := Hst.out; omega
        have b1 : decide (k < n) = false := by simp; omega
        have b2 : decide (k < m) = true := by simp; omega
        clear hla hlb hx0
        go_wp2_with (at_builtin; refine wpList_app (s := .tmp 46) (x := .tmp 49) (by rfl) rfl rfl rfl Hrun.out ?_)
        go_roundw
        case rel => exact ⟨k + 1, t, m1 + 1, c3, A3, es ++ [s], by omega, ht, by omega, by omega, by go_num, by first | rfl | rw [e2], rfl, Hl3, Ho3, Hw3, HE3, HM3, hb4⟩
        case measure => simp [intOf]; omega
      · have hx0 : x = 0 := by rw [← Hx.out]; exact getD_past (by omega)
        have hy0 : y = 0 := by rw [← Hy.out]; exact getD_past (by omega)
        have b1 : decide (k < n) = false := by simp; omega
        have b2 : decide (k < m) = false := by simp; omega
        have hta : us.take k = us := List.take_of_length_le (by omega)
        have htb : bs.take k = bs := List.take_of_length_le (by omega)
        have HEf : Hid (D.val es + D.pw k * cn = D.val us + D.val bs) := by have := HE.out; rw [hta, htb] at this; exact this
        by_cases h3 : cn = 1
        · have e1 : (cn : Int) % 65536 = (s : Int) := by have := Hst.out; omega
          have e2 : (cn : Int) / 65536 = (t : Int) := by have := Hst.out; omega
          have b3 : decide (0 < cn) = true := by simp; omega
          have hkM : k ≤ max n m := by
            rcases HM.out with h | ⟨h, _⟩
            · exact h
            · omega
          have HM3 : Hid (k + 1 ≤ max n m ∨ (t = 0 ∧ D.pw (max n m) ≤ D.val us + D.val bs)) := Or.inr ⟨by have := Hst.out; omega, by
            have h4 := HEf.out
            rw [h3, Nat.mul_one, show k = max n m from by omega] at h4
            omega⟩
          clear hla hlb hx0 hy0 hta htb h3
          go_wp2_with (at_builtin; refine wpList_app (s := .tmp 46) (x := .tmp 49) (by rfl) rfl rfl rfl Hrun.out ?_)
          go_roundw
          case rel => exact ⟨k + 1, t, m1 + 1, c3, A3, es ++ [s], by omega, ht, by omega, by omega, by go_num, by first | rfl | rw [e2], rfl, Hl3, Ho3, Hw3, HE3, HM3, hb4⟩
          case measure => simp [intOf]; omega
        · obtain rfl : cn = 0 := by omega
          have hV : D.val es = D.val us + D.val bs := by have := HEf.out; rw [Nat.mul_zero, Nat.add_zero] at this; exact this
          have hbare : D.Bare es := dbare_of Hw.out Hl.out (by
            rw [hV]
            rcases HM.out with h | ⟨_, h⟩
            · obtain rfl : m1 = max n m := by omega
              rcases Nat.le_total n m with hnm | hnm
              · rw [Nat.max_eq_right hnm]
                rcases Hgb.out with g | g
                · exact Or.inl g
                · exact Or.inr (by omega)
              · rw [Nat.max_eq_left hnm]
                rcases Hga.out with g | g
                · exact Or.inl g
                · exact Or.inr (by omega)
            · by_cases e : m1 ≤ max n m
              · obtain rfl : m1 = max n m := by omega
                have : D.pw (max n m - 1) ≤ D.pw (max n m) := D.pw_mono (by omega)
                exact Or.inr (by omega)
              · rw [show m1 - 1 = max n m from by omega]
                exact Or.inr h)
          have Hfin : Hid (DTells w (D.val us + D.val bs) (max n m + 1) (.returned (.slice A1 m1 c1)) wr) := ⟨A1, m1, c1, es, rfl, by omega, Ho.out.dig Hl.out Hw.out, hbare, hV, hb⟩
          clear hla hlb hx0 hy0 hta htb h3 hV hbare
          go_wp2
          go_ret
          exact Hfin.out
end Go.Proofs.YtgacafdkhailmaaDoor
