/- The walks of series.power and of an edge's over, halved and told. -/
import Derived.Test.YtngldpmnbdgkiaaDoorSrSeqX
import Derived.Test.YtngldpmnbdgkiaaDoorK1
namespace Go.Proofs.YtngldpmnbdgkiaaDoor
open Go.RowKit

/-- A bare list of few bits is short. -/
theorem bare_le {w : World} {A : Option Addr} {m c k : Nat} {zs : List Nat} (hl : Lim w A m c zs) (hb : Bare zs) (h : blen (val zs) ≤ 64 * k) : m ≤ k := by
  have h1 := bare_len hl.words hb
  rw [hl.len] at h1
  omega

set_option maxHeartbeats 1000000 in
theorem spower_l (k : Nat) (w : World) (hk : k ≤ 60000) : Calls Tryd.prog 39 #[.int .i64 (k : Int)] w (Tells w (2 ^ k) (k + 2)) := by
  have HO := Lib.hid (of_any 1 (by decide) w)
  go_enter Tryd.func39, Tryd.ntmps39
  go_wp2_with fail
  refine HO.out.mono ?_
  rintro e w1 ⟨A1, m1, c1, zs, rfl, hm1, hl1, hb1, hv1, hB1⟩
  have h2 := shl_all A1 m1 c1 zs w1 hl1 (by omega) k (Or.inl (by
    rw [hv1, show blen 1 = 1 from rfl]; omega))
  rw [hv1, Nat.one_mul] at h2
  have H2 := Lib.hid h2
  have HS := Lib.hid hB1
  clear h2 hl1 hb1 hv1 hB1 HO
  go_wp2_with fail
  refine H2.out.mono ?_
  rintro e w2 ⟨A2, m2, c2, us, rfl, hm2, hl2, hb2, hv2, hB2⟩
  have Hfin : Hid (Tells w (2 ^ k) (k + 2) (.returned (.slice A2 m2 c2)) w2) := ⟨A2, m2, c2, us, rfl, by omega, hl2, hb2, hv2, HS.out.trans (hB2.mono HS.out.size)⟩
  clear hl2 hb2 hv2 hB2 H2 HS
  go_wp2
  go_ret
  exact Hfin.out

set_option maxHeartbeats 1000000 in
theorem sover_l (g : Bool) (A : Option Addr) (n c : Nat) (xs : List Nat) (B : Option Addr) (m d : Nat) (ys : List Nat) (w : World) (hA : Lim w A n c xs) (hB : Lim w B m d ys) (hn : n ≤ 1000000) (hm : m ≤ 1000000) (h0 : val ys ≠ 0) (hT : Tab w) :
    Calls Tryd.prog 77 #[.bool g, .slice A n c, .slice B m d] w (Tells w (ov g (val xs) (val ys)) (n + 2)) := by
  cases g with
  | false =>
    have H1 := Lib.hid (div_any A n c xs B m d ys w hA hB hn hm h0 hT)
    clear hA hB hn hm h0 hT
    go_enter Tryd.func77, Tryd.ntmps77
    go_wp2_with fail
    refine H1.out.mono ?_
    rintro e w1 ⟨A1, m1, c1, zs, A2, m2, c2, us, rfl, hm1, hm2, hl1, hl2, hb1, hb2, hv1, hv2, hB1⟩
    have Hfin : Hid (Tells w (ov false (val xs) (val ys)) (n + 2) (.returned (.slice A1 m1 c1)) w1) := ⟨A1, m1, c1, zs, rfl, by omega, hl1, hb1, hv1, hB1⟩
    clear hl1 hl2 hb1 hb2 hv1 hv2 hB1 H1
    go_wp2
    go_ret
    exact Hfin.out
  | true =>
    have H1 := Lib.hid (up_any A n c xs B m d ys w hA hB hn hm h0 hT)
    clear hA hB hn hm h0 hT
    go_enter Tryd.func77, Tryd.ntmps77
    go_wp2_with fail
    refine H1.out.mono ?_
    rintro e w1 ⟨A1, m1, c1, zs, rfl, hm1, hl1, hb1, hv1, hB1⟩
    have Hfin : Hid (Tells w (ov true (val xs) (val ys)) (n + 2) (.returned (.slice A1 m1 c1)) w1) := ⟨A1, m1, c1, zs, rfl, hm1, hl1, hb1, hv1, hB1⟩
    clear hl1 hb1 hv1 hB1 H1
    go_wp2
    go_ret
    exact Hfin.out

set_option maxHeartbeats 1000000 in
theorem shalved_l (g : Bool) (k : Nat) (A : Option Addr) (n c : Nat) (xs : List Nat) (w : World) (hA : Lim w A n c xs) (hn : n ≤ 1000000) (hk : k ≤ 1000000) (hT : Tab w) :
    Calls Tryd.prog 76 #[.bool g, .slice A n c, .int .i64 (k : Int)] w (Tells w (ov g (val xs) (2 ^ k)) (n + 2)) := by
  obtain ⟨bb, hbb⟩ : ∃ bb, decide (val xs % 2 ^ k ≠ 0) = bb := ⟨_, rfl⟩
  have H1 := Lib.hid (shr_l k A n c xs w hA (by omega) hT (by omega) bb hbb)
  have hv : ov g (val xs) (2 ^ k) = val xs / 2 ^ k + (if g && bb then 1 else 0) := by
    cases g
    · rfl
    · show upq _ _ = _
      unfold upq
      cases bb
      · rw [if_pos (Classical.not_not.1 (of_decide_eq_false hbb))]; rfl
      · rw [if_neg (of_decide_eq_true hbb)]; rfl
  rw [hv]
  clear hA hT hbb hv hk
  obtain ⟨V, hV⟩ : ∃ V, val xs / 2 ^ k = V := ⟨_, rfl⟩
  rw [hV] at H1 ⊢
  clear hV
  cases g with
  | false =>
    go_enter Tryd.func76, Tryd.ntmps76
    go_wp2_with fail
    refine H1.out.mono ?_
    rintro e w1 ⟨A1, m1, c1, zs, rfl, hm1, hl1, hb1, hv1, hB1⟩
    have Hfin : Hid (Tells w (V + (if false && bb then 1 else 0)) (n + 2) (.returned (.slice A1 m1 c1)) w1) := ⟨A1, m1, c1, zs, rfl, by omega, hl1, hb1, hv1, hB1⟩
    clear hl1 hb1 hv1 hB1 H1
    go_wp2
    go_ret
    exact Hfin.out
  | true =>
    cases bb with
    | false =>
      go_enter Tryd.func76, Tryd.ntmps76
      go_wp2_with fail
      refine H1.out.mono ?_
      rintro e w1 ⟨A1, m1, c1, zs, rfl, hm1, hl1, hb1, hv1, hB1⟩
      have Hfin : Hid (Tells w (V + (if true && false then 1 else 0)) (n + 2) (.returned (.slice A1 m1 c1)) w1) := ⟨A1, m1, c1, zs, rfl, by omega, hl1, hb1, hv1, hB1⟩
      clear hl1 hb1 hv1 hB1 H1
      go_wp2
      go_ret
      exact Hfin.out
    | true =>
      go_enter Tryd.func76, Tryd.ntmps76
      go_wp2_with fail
      refine H1.out.mono ?_
      rintro e w1 ⟨A1, m1, c1, zs, rfl, hm1, hl1, hb1, hv1, hB1⟩
      have HO := Lib.hid (of_any 1 (by decide) w1)
      have HA1 := Lib.hid hl1
      have HV1 := Lib.hid hv1
      have HS := Lib.hid hB1
      clear hl1 hb1 hv1 hB1 H1
      go_wp2_with fail
      refine HO.out.mono ?_
      rintro e w2 ⟨A2, m2, c2, us, rfl, hm2, hl2, hb2, hv2, hB2⟩
      have h3 := add_any A1 m1 c1 zs A2 m2 c2 us w2 (HA1.out.below hB2) hl2 (by omega) (by omega)
      rw [HV1.out, hv2] at h3
      have H3 := Lib.hid h3
      replace HS := Lib.hid (HS.out.trans (hB2.mono HS.out.size))
      clear h3 hl2 hb2 hv2 hB2 HO HA1 HV1
      go_wp2_with fail
      refine H3.out.mono ?_
      rintro e w3 ⟨A3, m3, c3, ts, rfl, hm3, hl3, hb3, hv3, hB3⟩
      have Hfin : Hid (Tells w (V + (if true && true then 1 else 0)) (n + 2) (.returned (.slice A3 m3 c3)) w3) := ⟨A3, m3, c3, ts, rfl, by omega, hl3, hb3, hv3, HS.out.trans (hB3.mono HS.out.size)⟩
      clear hl3 hb3 hv3 hB3 H3 HS
      go_wp2
      go_ret
      exact Hfin.out

/-- Sum of a list of three that the caller has just laid: one, and twice another. -/
theorem sum3_any (V1 V2 : Nat) (A : Option Addr) (n c : Nat) (xs : List Nat) (B : Option Addr) (m d : Nat) (ys : List Nat) (w : World) (hA : Lim w A n c xs) (hB : Lim w B m d ys) (hn : n ≤ 2000) (hm : m ≤ 2000) (h1 : val xs = V1) (h2 : val ys = V2) :
    Calls Tryd.prog 75 #[.slice (some ⟨w.heap.size, 0, none⟩) 3 3] (w.alloc (.cells #[.slice A n c, .slice B m d, .slice B m d] 22)) (Tells w (V1 + (V2 + V2)) 2001) := by
  have hb : Below w.heap.size w (w.alloc (.cells #[.slice A n c, .slice B m d, .slice B m d] 22)) := (Below.refl _ _).alloc (Nat.le_refl _) _
  have hL : Lims (w.alloc (.cells #[.slice A n c, .slice B m d, .slice B m d] 22)) w.heap.size 3 (fun j => if j = 0 then A else B) (fun j => if j = 0 then n else m) (fun j => if j = 0 then c else d) (fun j => if j = 0 then xs else ys) := by
    refine ⟨by simp, fun j hj => ?_⟩
    have h3 : j = 0 ∨ j = 1 ∨ j = 2 := by omega
    rcases h3 with rfl | rfl | rfl
    · exact ⟨by simp [World.cell?_alloc_new], hA.below hb, by show n ≤ _; omega⟩
    · exact ⟨by simp [World.cell?_alloc_new], hB.below hb, by show m ≤ _; omega⟩
    · exact ⟨by simp [World.cell?_alloc_new], hB.below hb, by show m ≤ _; omega⟩
  refine (sum_any w.heap.size 3 3 _ _ _ _ _ hL (by decide) 2000 (fun j _ => by split <;> omega)).mono ?_
  rintro e w' ⟨A1, m1, c1, ts, k1, k2, k3, k4, k5, k6⟩
  refine ⟨A1, m1, c1, ts, k1, k2, k3, k4, ?_, hb.trans (k6.mono hb.size)⟩
  rw [k5, ← h1, ← h2]
  simp [tot]
  omega

set_option maxHeartbeats 1000000 in
theorem stold_l (g : Bool) (S L : Nat) (A : Option Addr) (n c : Nat) (xs : List Nat) (B : Option Addr) (m d : Nat) (ys : List Nat) (w : World) (hA : Lim w A n c xs) (hB : Lim w B m d ys) (hn : n ≤ 2000) (hm : m ≤ 2000) (hT : Tab w) (hS : val xs = S) (hL : val ys = L) :
    Calls Tryd.prog 57 #[.bool g, .slice A n c, .slice B m d] w (Tells w (tolN g S L) 2100) := by
  cases g with
  | false =>
    have h1 := shalved_l false 64 A n c xs w hA (by omega) (by omega) hT
    rw [hS] at h1
    have H1 := Lib.hid h1
    clear h1 hA hB hm hT hS hL
    go_enter Tryd.func57, Tryd.ntmps57
    go_wp2_with fail
    refine H1.out.mono ?_
    rintro e w1 ⟨A1, m1, c1, zs, rfl, hm1, hl1, hb1, hv1, hB1⟩
    have Hfin : Hid (Tells w (tolN false S L) 2100 (.returned (.slice A1 m1 c1)) w1) := ⟨A1, m1, c1, zs, rfl, by omega, hl1, hb1, hv1, hB1⟩
    clear hl1 hb1 hv1 hB1 H1
    go_wp2
    go_ret
    exact Hfin.out
  | true =>
    have H1 := Lib.hid (sum3_any S L A n c xs B m d ys w hA hB hn hm hS hL)
    have HT := Lib.hid hT
    clear hA hB hm hT hS hL hn
    go_enter Tryd.func57, Tryd.ntmps57
    go_wp2_with fail
    refine H1.out.mono ?_
    rintro e w1 ⟨A1, m1, c1, zs, rfl, hm1, hl1, hb1, hv1, hB1⟩
    have h2 := shalved_l true 64 A1 m1 c1 zs w1 hl1 (by omega) (by omega) (HT.out.below hB1)
    rw [hv1] at h2
    have H2 := Lib.hid h2
    have HS := Lib.hid hB1
    clear h2 hl1 hb1 hv1 hB1 H1 HT
    go_wp2_with fail
    refine H2.out.mono ?_
    rintro e w2 ⟨A2, m2, c2, us, rfl, hm2, hl2, hb2, hv2, hB2⟩
    have Hfin : Hid (Tells w (tolN true S L) 2100 (.returned (.slice A2 m2 c2)) w2) := ⟨A2, m2, c2, us, rfl, by omega, hl2, hb2, hv2, HS.out.trans (hB2.mono HS.out.size)⟩
    clear hl2 hb2 hv2 hB2 H2 HS
    go_wp2
    go_ret
    exact Hfin.out
end Go.Proofs.YtngldpmnbdgkiaaDoor
