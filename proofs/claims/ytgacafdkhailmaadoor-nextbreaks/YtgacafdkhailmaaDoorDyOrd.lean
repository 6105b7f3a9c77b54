/- The walk of dyad.Cmp. -/
import Derived.Test.YtgacafdkhailmaaDoorDyCmp
namespace Go.Proofs.YtgacafdkhailmaaDoor
open Go.RowKit

/-- What is held while the two signs are asked for. -/
def Held2 (w0 : World) (b1 : Nat) (g : Bool) (A : Option Addr) (n c : Nat) (xs : List Nat) (e1 : Int) (b2 : Nat) (k : Bool) (B : Option Addr) (m d : Nat) (ys : List Nat) (e2 : Int) (w : World) : Prop :=
  Bd w b1 28 g A n c e1 ∧ Bd w b2 28 k B m d e2 ∧ Lim w A n c xs ∧ Lim w B m d ys ∧ Tab w ∧ Below w0.heap.size w0 w
theorem Held2.below {w0 : World} {b1 : Nat} {g : Bool} {A : Option Addr} {n c : Nat} {xs : List Nat} {e1 : Int} {b2 : Nat} {k : Bool} {B : Option Addr} {m d : Nat} {ys : List Nat} {e2 : Int} {w w' : World}
    (h : Held2 w0 b1 g A n c xs e1 b2 k B m d ys e2 w) (hb : Below w.heap.size w w') : Held2 w0 b1 g A n c xs e1 b2 k B m d ys e2 w' := by
  obtain ⟨h1, h2, h3, h4, h5, h6⟩ := h
  exact ⟨h1.below hb, h2.below hb, h3.below hb, h4.below hb, h5.below hb, h6.trans (hb.mono h6.size)⟩

/-- .. with the cells spelt out. -/
abbrev Cells2 (w0 : World) (b1 : Nat) (g : Bool) (A : Option Addr) (n c : Nat) (xs : List Nat) (e1 : Int) (b2 : Nat) (k : Bool) (B : Option Addr) (m d : Nat) (ys : List Nat) (e2 : Int) (w' : World) : Prop :=
  w'.cell? ⟨b1, 0, none⟩ = some (.bool g) ∧ w'.cell? ⟨b1, 1, none⟩ = some (.slice A n c) ∧ w'.cell? ⟨b1, 2, none⟩ = some (.int .i64 e1) ∧ w'.cell? ⟨b2, 0, none⟩ = some (.bool k) ∧ w'.cell? ⟨b2, 1, none⟩ = some (.slice B m d) ∧ w'.cell? ⟨b2, 2, none⟩ = some (.int .i64 e2) ∧ Hid (Held2 w0 b1 g A n c xs e1 b2 k B m d ys e2 w')
theorem Held2.cells {w0 : World} {b1 : Nat} {g : Bool} {A : Option Addr} {n c : Nat} {xs : List Nat} {e1 : Int} {b2 : Nat} {k : Bool} {B : Option Addr} {m d : Nat} {ys : List Nat} {e2 : Int} {w : World}
    (h : Held2 w0 b1 g A n c xs e1 b2 k B m d ys e2 w) : Cells2 w0 b1 g A n c xs e1 b2 k B m d ys e2 w := ⟨h.1.c0, h.1.c1, h.1.c2, h.2.1.c0, h.2.1.c1, h.2.1.c2, h⟩
theorem Held2.start (w : World) (g : Bool) (A : Option Addr) (n c : Nat) (xs : List Nat) (e1 : Int) (k : Bool) (B : Option Addr) (m d : Nat) (ys : List Nat) (e2 : Int) (hA : Lim w A n c xs) (hB : Lim w B m d ys) (hT : Tab w) :
    Held2 w w.heap.size g A n c xs e1 (w.heap.size + 1) k B m d ys e2 ((w.alloc (.cells #[.bool g, .slice A n c, .int .i64 e1] 28)).alloc (.cells #[.bool k, .slice B m d, .int .i64 e2] 28)) := by
  have a3 : Below w.heap.size w ((w.alloc (.cells #[.bool g, .slice A n c, .int .i64 e1] 28)).alloc (.cells #[.bool k, .slice B m d, .int .i64 e2] 28)) := ((Below.refl _ _).alloc (Nat.le_refl _) _).alloc (by simp) _
  have b1 := (Bd.new w 28 g A n c e1).alloc (.cells #[.bool k, .slice B m d, .int .i64 e2] 28)
  have b2 := Bd.new (w.alloc (.cells #[.bool g, .slice A n c, .int .i64 e1] 28)) 28 k B m d e2
  rw [World.size_alloc] at b2
  exact ⟨b1, b2, hA.below a3, hB.below a3, hT.below a3, a3⟩
theorem below_drew (w : World) : Below w.heap.size w w.drew := (Below.refl _ _).drew

set_option maxHeartbeats 2000000 in
theorem dcmp_l (v : Int) (g : Bool) (A : Option Addr) (n c : Nat) (xs : List Nat) (e1 : Int) (k : Bool) (B : Option Addr) (m d : Nat) (ys : List Nat) (e2 : Int) (w : World) (hA : Lim w A n c xs) (hB : Lim w B m d ys) (hn : n ≤ 4294967296) (hm : m ≤ 4294967296) (hT : Tab w) (hv : Hid (cmpI (dw g (val xs) e1) (dw k (val ys) e2) = v)) :
    Calls Tryd.prog 27 #[.agg #[.bool g, .slice A n c, .int .i64 e1], .agg #[.bool k, .slice B m d, .int .i64 e2]] w fun e w' => e = .returned (.int .i64 v) ∧ Below w.heap.size w w' := by
  obtain ⟨s1, hs1⟩ : ∃ s, sgD g (val xs) = s := ⟨_, rfl⟩
  obtain ⟨s2, hs2⟩ : ∃ s, sgD k (val ys) = s := ⟨_, rfl⟩
  have H0 := Lib.hid ((Held2.start w g A n c xs e1 k B m d ys e2 hA hB hT).below (below_drew _))
  have HS1 : Hid (∀ u, Cells2 w w.heap.size g A n c xs e1 (w.heap.size + 1) k B m d ys e2 u → Calls Tryd.prog 47 #[.agg #[.bool g, .slice A n c, .int .i64 e1]] u fun e w' => e = .returned (.int .i64 s1) ∧ Cells2 w w.heap.size g A n c xs e1 (w.heap.size + 1) k B m d ys e2 w') := fun u hu => by
    have h := hu.2.2.2.2.2.2.out
    refine (sign_l s1 g A n c xs e1 u h.2.2.1 (by omega) hs1).mono ?_
    rintro e w' ⟨rfl, hb⟩
    exact ⟨rfl, (h.below hb).cells⟩
  have HS2 : Hid (∀ u, Cells2 w w.heap.size g A n c xs e1 (w.heap.size + 1) k B m d ys e2 u → Calls Tryd.prog 47 #[.agg #[.bool k, .slice B m d, .int .i64 e2]] u fun e w' => e = .returned (.int .i64 s2) ∧ Cells2 w w.heap.size g A n c xs e1 (w.heap.size + 1) k B m d ys e2 w') := fun u hu => by
    have h := hu.2.2.2.2.2.2.out
    refine (sign_l s2 k B m d ys e2 u h.2.2.2.1 (by omega) hs2).mono ?_
    rintro e w' ⟨rfl, hb⟩
    exact ⟨rfl, (h.below hb).cells⟩
  have hcase : (s1 ≠ s2 ∧ Hid (cmpI s1 s2 = v)) ∨ (s1 = s2 ∧ s1 = 0 ∧ v = 0) ∨ (s1 = s2 ∧ (s1 = 1 ∨ s1 = -1) ∧ ∃ z, -1 ≤ z ∧ z ≤ 1 ∧ val xs ≠ 0 ∧ val ys ≠ 0 ∧ Hid (cmpZ (sz (val xs) e1) (sz (val ys) e2) = z) ∧ s1 * z = v) := by
    have k1 := sgD_spec g (val xs) e1
    have k2 := sgD_spec k (val ys) e2
    rw [hs1] at k1
    rw [hs2] at k2
    by_cases h : s1 = s2
    · refine Or.inr ?_
      by_cases h0 : s1 = 0
      · refine Or.inl ⟨h, h0, ?_⟩
        rw [← hv.out, ← cmp_noughts (by rw [hs1, hs2, h]) (by rw [hs1, h0])]
      · refine Or.inr ⟨h, by omega, _, (cmpZ_bd _ _).1, (cmpZ_bd _ _).2, by omega, by omega, rfl, ?_⟩
        have := cmp_sizes (g := g) (k := k) (V := val xs) (U := val ys) (e := e1) (f := e2) (by rw [hs1, hs2, h]) (by rw [hs1]; exact h0)
        rw [hs1] at this
        rw [this, hv.out]
    · refine Or.inl ⟨h, ?_⟩
      have := cmp_signs (g := g) (k := k) (V := val xs) (U := val ys) (e := e1) (f := e2) (by rw [hs1, hs2]; exact h)
      rw [hs1, hs2] at this
      exact this.trans hv.out
  clear hA hB hT hs1 hs2 hv
  go_enter Tryd.func27, Tryd.ntmps27
  go_wp2_with fail
  go_region_held3 (fun w' => w'.cell? ⟨w.heap.size, 0, none⟩ = some (.bool g) ∧ w'.cell? ⟨w.heap.size, 1, none⟩ = some (.slice A n c) ∧ w'.cell? ⟨w.heap.size, 2, none⟩ = some (.int .i64 e1) ∧ w'.cell? ⟨w.heap.size + 1, 0, none⟩ = some (.bool k) ∧ w'.cell? ⟨w.heap.size + 1, 1, none⟩ = some (.slice B m d) ∧ w'.cell? ⟨w.heap.size + 1, 2, none⟩ = some (.int .i64 e2) ∧ Hid (Held2 w w.heap.size g A n c xs e1 (w.heap.size + 1) k B m d ys e2 w'))
    (first | exact H0.out.cells | assumption)
    (first | (go_at_call 47; refine (HS1.out _ (by assumption)).mono ?_; rintro e w1 ⟨rfl, hY⟩) | (go_at_call 47; refine (HS2.out _ (by assumption)).mono ?_; rintro e w2 ⟨rfl, hZ⟩))
  have HZ := hZ.2.2.2.2.2.2
  obtain ⟨x0, x1, x2, y0, y1, y2, _⟩ := hZ
  have HF := Lib.hid HZ.out.2.2.2.2.2
  clear hY HS1 HS2 H0
  rcases hcase with ⟨hne, hv⟩ | ⟨rfl, rfl, rfl⟩ | ⟨rfl, hs, z, hz1, hz2, hx, hy, hz, hv⟩
  · have h1 : decide (s1 = s2) = false := decide_eq_false hne
    go_wp2_with fail
    refine (compare_l s1 s2 v w2 hv).mono ?_
    rintro e w' ⟨rfl, rfl⟩
    go_wp2
    go_ret
    exact ⟨rfl, HF.out⟩
  · go_wp2_with fail
    go_ret
    exact ⟨rfl, HF.out⟩
  · have Hsz := Lib.hid (sizes_l z g A n c xs e1 k B m d ys e2 w2 HZ.out.2.2.1 HZ.out.2.2.2.1 hn hm HZ.out.2.2.2.2.1 hx hy hz)
    clear hz hx hy
    rcases hs with rfl | rfl
    · obtain rfl : z = v := by omega
      go_wp2_with fail
      refine Hsz.out.mono ?_
      rintro e w3 ⟨rfl, hB3⟩
      have Hfin := Lib.hid (HF.out.trans (hB3.mono HF.out.size))
      clear hB3 Hsz HZ HF x0 x1 x2 y0 y1 y2
      go_wp2
      go_ret
      exact ⟨ret_int (by omega), Hfin.out⟩
    · obtain rfl : -z = v := by omega
      go_wp2_with fail
      refine Hsz.out.mono ?_
      rintro e w3 ⟨rfl, hB3⟩
      have Hfin := Lib.hid (HF.out.trans (hB3.mono HF.out.size))
      clear hB3 Hsz HZ HF x0 x1 x2 y0 y1 y2
      go_wp2
      go_ret
      exact ⟨ret_int (by omega), Hfin.out⟩
end Go.Proofs.YtgacafdkhailmaaDoor
