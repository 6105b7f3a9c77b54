/- The walk of series.Within. -/
import Derived.Test.YtngldpmnbdgkiaaDoorSrScalM
import Derived.Test.YtngldpmnbdgkiaaDoorK2
namespace Go.Proofs.YtngldpmnbdgkiaaDoor
open Go.RowKit

/-- An interval laid into block b. -/
abbrev World.put6 (w : World) (b : Nat) (g1 : Bool) (A1 : Option Addr) (n1 c1 : Nat) (e1 : Int) (g2 : Bool) (A2 : Option Addr) (n2 c2 : Nat) (e2 : Int) : World :=
  (((((w.setCell ⟨b, 0, none⟩ (.bool g1)).setCell ⟨b, 1, none⟩ (.slice A1 n1 c1)).setCell ⟨b, 2, none⟩ (.int .i64 e1)).setCell ⟨b, 3, none⟩ (.bool g2)).setCell ⟨b, 4, none⟩ (.slice A2 n2 c2)).setCell ⟨b, 5, none⟩ (.int .i64 e2)
theorem put6_heap (w : World) (b : Nat) (g1 : Bool) (A1 : Option Addr) (n1 c1 : Nat) (e1 : Int) (g2 : Bool) (A2 : Option Addr) (n2 c2 : Nat) (e2 : Int) (k : Nat) (hk : k ≠ b) : (World.put6 w b g1 A1 n1 c1 e1 g2 A2 n2 c2 e2).heap[k]? = w.heap[k]? := by
  unfold World.put6
  rw [Below.heap_setCell _ _ _ _ hk, Below.heap_setCell _ _ _ _ hk, Below.heap_setCell _ _ _ _ hk, Below.heap_setCell _ _ _ _ hk, Below.heap_setCell _ _ _ _ hk, Below.heap_setCell _ _ _ _ hk]
theorem put6_size (w : World) (b : Nat) (g1 : Bool) (A1 : Option Addr) (n1 c1 : Nat) (e1 : Int) (g2 : Bool) (A2 : Option Addr) (n2 c2 : Nat) (e2 : Int) : (World.put6 w b g1 A1 n1 c1 e1 g2 A2 n2 c2 e2).heap.size = w.heap.size := by
  simp [World.put6, World.setCell]
theorem put6_cell (w : World) (b : Nat) (g1 : Bool) (A1 : Option Addr) (n1 c1 : Nat) (e1 : Int) (g2 : Bool) (A2 : Option Addr) (n2 c2 : Nat) (e2 : Int) (p : Addr) (hp : p.block ≠ b) : (World.put6 w b g1 A1 n1 c1 e1 g2 A2 n2 c2 e2).cell? p = w.cell? p :=
  World.cell?_of_block (w := w) (put6_heap w b g1 A1 n1 c1 e1 g2 A2 n2 c2 e2 p.block hp)
theorem below_put6 {B : Nat} {a w : World} (h : Below B a w) {b : Nat} (hb : B ≤ b) (g1 : Bool) (A1 : Option Addr) (n1 c1 : Nat) (e1 : Int) (g2 : Bool) (A2 : Option Addr) (n2 c2 : Nat) (e2 : Int) : Below B a (World.put6 w b g1 A1 n1 c1 e1 g2 A2 n2 c2 e2) :=
  (((((h.setCell (p := ⟨b, 0, none⟩) hb _).setCell (p := ⟨b, 1, none⟩) hb _).setCell (p := ⟨b, 2, none⟩) hb _).setCell (p := ⟨b, 3, none⟩) hb _).setCell (p := ⟨b, 4, none⟩) hb _).setCell (p := ⟨b, 5, none⟩) hb _
section
variable {w : World} {b : Nat} {g1 : Bool} {A1 : Option Addr} {n1 c1 : Nat} {e1 : Int} {g2 : Bool} {A2 : Option Addr} {n2 c2 : Nat} {e2 : Int}
theorem Ib.fz (h : Ib w b g1 A1 n1 c1 e1 g2 A2 n2 c2 e2) (o : Nat) : w.frozen? ⟨b, o, none⟩ = false := by simp [World.frozen?, show w.heap[b]? = _ from h]
theorem Ib.not (h : Ib w b g1 A1 n1 c1 e1 g2 A2 n2 c2 e2) {o : Nat} {k : IntKind} {z : Int} (hc : w.cell? ⟨b, o, none⟩ = some (.int k z)) : k = .i64 := by
  simp only [World.cell?, show w.heap[b]? = _ from h] at hc
  rcases o with _ | _ | _ | _ | _ | _ | o
  · simp at hc
  · simp at hc
  · simp at hc; exact hc.1.symm
  · simp at hc
  · simp at hc
  · simp at hc; exact hc.1.symm
  · simp at hc
theorem Ib.put (h : Ib w b g1 A1 n1 c1 e1 g2 A2 n2 c2 e2) (g1' : Bool) (A1' : Option Addr) (n1' c1' : Nat) (e1' : Int) (g2' : Bool) (A2' : Option Addr) (n2' c2' : Nat) (e2' : Int) : Ib (World.put6 w b g1' A1' n1' c1' e1' g2' A2' n2' c2' e2') b g1' A1' n1' c1' e1' g2' A2' n2' c2' e2' := by
  unfold Ib at h ⊢
  unfold World.put6
  simp [World.setCell, Array.getElem?_modify, h]
/-- A list isn't in such a block. -/
theorem Ib.lim (h : Ib w b g1 A1 n1 c1 e1 g2 A2 n2 c2 e2) {A : Option Addr} {n c : Nat} {xs : List Nat} (hA : Lim w A n c xs) (g1' : Bool) (A1' : Option Addr) (n1' c1' : Nat) (e1' : Int) (g2' : Bool) (A2' : Option Addr) (n2' c2' : Nat) (e2' : Int) : Lim (World.put6 w b g1' A1' n1' c1' e1' g2' A2' n2' c2' e2') A n c xs :=
  ⟨hA.1, hA.2.1, hA.2.2.1, fun hn => by
    obtain ⟨k, o, ek, hk, hc⟩ := hA.at_ hn
    have hne : k ≠ b := by
      rintro rfl
      have := h.not (hc 0 hn)
      cases this
    exact ⟨k, o, ek, by rw [put6_size]; exact hk, fun j hj => by rw [put6_cell _ _ _ _ _ _ _ _ _ _ _ _ _ hne]; exact hc j hj⟩⟩
/-- Another block is a dyad's. -/
theorem Ib.other (h : Ib w b g1 A1 n1 c1 e1 g2 A2 n2 c2 e2) {b' : Nat} (hb : b ≠ b') (g' : Bool) (A' : Option Addr) (n' c' : Nat) (e' : Int) : Ib (World.put w b' g' A' n' c' e') b g1 A1 n1 c1 e1 g2 A2 n2 c2 e2 := by
  unfold Ib; rw [put_heap _ _ _ _ _ _ _ _ hb]; exact h
end

/-- So short a number, so near to 0, is a dyad. -/
theorem mk_near {g : Bool} {V : Nat} {e : Int} (h : blen V ≤ 20000) (h1 : -9000 ≤ e) (h2 : e ≤ 0) : ∃ d, mk g V e = some d := by
  unfold mk toldD
  rw [held_id (by omega) (by omega)]
  have := low_le_blen V
  split
  · exact ⟨_, rfl⟩
  · rw [if_neg (by omega)]
    exact ⟨_, rfl⟩

/-- The result's block, both dyads in blocks of their own, their lists. -/
def HoldB2 (w : World) (p1 : Nat) (g1 : Bool) (A1 : Option Addr) (m1 c1 : Nat) (zs : List Nat) (E1 : Int) (p2 : Nat) (g2 : Bool) (A2 : Option Addr) (m2 c2 : Nat) (us : List Nat) (E2 : Int) (u : World) : Prop :=
  Ib u w.heap.size false none 0 0 0 false none 0 0 0 ∧ Bd u p1 46 g1 A1 m1 c1 E1 ∧ Bd u p2 46 g2 A2 m2 c2 E2 ∧ Lim u A1 m1 c1 zs ∧ Lim u A2 m2 c2 us ∧ Tab u ∧ Below w.heap.size w u ∧ w.heap.size < p1 ∧ p1 < p2
section
variable {w : World} {p1 : Nat} {g1 : Bool} {A1 : Option Addr} {m1 c1 : Nat} {zs : List Nat} {E1 : Int} {p2 : Nat} {g2 : Bool} {A2 : Option Addr} {m2 c2 : Nat} {us : List Nat} {E2 : Int} {u u' : World}
theorem HoldB2.below (h : HoldB2 w p1 g1 A1 m1 c1 zs E1 p2 g2 A2 m2 c2 us E2 u) (hb : Below u.heap.size u u') : HoldB2 w p1 g1 A1 m1 c1 zs E1 p2 g2 A2 m2 c2 us E2 u' :=
  ⟨h.1.below hb, h.2.1.below hb, h.2.2.1.below hb, h.2.2.2.1.below hb, h.2.2.2.2.1.below hb, h.2.2.2.2.2.1.below hb, h.2.2.2.2.2.2.1.trans (hb.mono h.2.2.2.2.2.2.1.size), h.2.2.2.2.2.2.2⟩
theorem HoldB2.swap (h : HoldB2 w p1 g1 A1 m1 c1 zs E1 p2 g2 A2 m2 c2 us E2 u) : HoldB2 w p1 g2 A2 m2 c2 us E2 p2 g1 A1 m1 c1 zs E1 (World.put (World.put u p1 g2 A2 m2 c2 E2) p2 g1 A1 m1 c1 E1) := by
  obtain ⟨k1, k2, k3, k4, k5, k6, k7, k8, k9⟩ := h
  have j3 := k3.other (Nat.ne_of_gt k9) g2 A2 m2 c2 E2
  refine ⟨(k1.other (Nat.ne_of_lt k8) _ _ _ _ _).other (by omega) _ _ _ _ _, (k2.put _ _ _ _ _).other (Nat.ne_of_lt k9) _ _ _ _ _, j3.put _ _ _ _ _, j3.lim (k2.lim k5 _ _ _ _ _) _ _ _ _ _, j3.lim (k2.lim k4 _ _ _ _ _) _ _ _ _ _, j3.tab (k2.tab k6 _ _ _ _ _) _ _ _ _ _, ?_, k8, k9⟩
  exact below_put (below_put k7 (by omega) _ _ _ _ _) (by omega) _ _ _ _ _
end

/-- What Within tells, as it is handed back. -/
theorem with_out {w u : World} {p1 : Nat} {g1 : Bool} {A1 : Option Addr} {m1 c1 : Nat} {zs : List Nat} {E1 : Int} {p2 : Nat} {g2 : Bool} {A2 : Option Addr} {m2 c2 : Nat} {us : List Nat} {E2 : Int} {g : Bool} {V U : Nat} {s : Int}
    (h : HoldB2 w p1 g1 A1 m1 c1 zs E1 p2 g2 A2 m2 c2 us E2 u) (hm1 : m1 ≤ 300) (hm2 : m2 ≤ 300) (hb1 : Bare zs) (hb2 : Bare us) (h1 : mk g V (-s) = some ⟨g1, val zs, E1⟩) (h2 : mk g U (-s) = some ⟨g2, val us, E2⟩) :
    WithTold w g V U s (.returned (.agg #[.bool g1, .slice A1 m1 c1, .int .i64 E1, .bool g2, .slice A2 m2 c2, .int .i64 E2])) (World.put6 u w.heap.size g1 A1 m1 c1 E1 g2 A2 m2 c2 E2) :=
  ⟨g1, A1, m1, c1, zs, E1, g2, A2, m2, c2, us, E2, rfl, hm1, hm2, h.1.lim h.2.2.2.1 _ _ _ _ _ _ _ _ _ _, h.1.lim h.2.2.2.2.1 _ _ _ _ _ _ _ _ _ _, hb1, hb2, below_put6 h.2.2.2.2.2.2.1 (Nat.le_refl _) _ _ _ _ _ _ _ _ _ _, h1, h2⟩

/-- Both dyads in order, as the laws want them. -/
def SortedB (w : World) (p1 p2 : Nat) (g : Bool) (V U : Nat) (s : Int) (u : World) : Prop :=
  ∃ g1 A1 m1 c1 zs E1 g2 A2 m2 c2 us E2, HoldB2 w p1 g1 A1 m1 c1 zs E1 p2 g2 A2 m2 c2 us E2 u ∧ m1 ≤ 300 ∧ m2 ≤ 300 ∧ Bare zs ∧ Bare us ∧ mk g V (-s) = some ⟨g1, val zs, E1⟩ ∧ mk g U (-s) = some ⟨g2, val us, E2⟩

/-- Of two in order, both below 0, and told to be in order: they are one. -/
theorem with_same {X Y : Nat} {e : Int} {d1 d2 : Dy} (h1 : mk true X e = some d1) (h2 : mk true Y e = some d2) (hXY : X ≤ Y) (h : cmpI (dw d1.neg d1.V d1.e) (dw d2.neg d2.V d2.e) ≤ 0) : X = Y := by
  rw [(mk_fine h1).2.1, (mk_fine h2).2.1] at h
  rcases Nat.lt_or_eq_of_le hXY with hlt | he
  · exfalso
    have h3 : sz X e < sz Y e := Nat.mul_lt_mul_of_pos_right hlt (Nat.two_pow_pos _)
    have h4 : dw true Y e < dw true X e := by
      show -(sz Y e : Int) < -(sz X e : Int)
      omega
    rw [cmpI_gt h4] at h
    exact absurd h (by decide)
  · exact he

set_option maxHeartbeats 1000000 in
set_option maxRecDepth 20000 in
theorem within_meets : WithinMeets := by
  intro A n c xs B m d ys s g w hA hB hn hm hT hs1 hs2 hle
  have a1 := below1 w (.cells #[.bool false, .slice none 0 0, .int .i64 0, .bool false, .slice none 0 0, .int .i64 0] 48)
  have i1 := Ib.new w false none 0 0 0 false none 0 0 0
  have hbx := hA.blen_le
  have hby := hB.blen_le
  obtain ⟨d1, hd1⟩ := mk_near (g := g) (V := val xs) (e := -s) (by omega) (by omega) (by omega)
  obtain ⟨d2, hd2⟩ := mk_near (g := g) (V := val ys) (e := -s) (by omega) (by omega) (by omega)
  have h1 := make_any g A n c xs (-s) _ (hA.below a1) (by omega) (hT.below a1)
  rw [hd1] at h1
  have H1 := Lib.hid h1
  have HI := Lib.hid i1
  have HS := Lib.hid a1
  have H2 : Hid (∀ u, Below w.heap.size w u → Calls Tryd.prog 46 #[.bool g, .slice B m d, .int .i64 (-s)] u (Told u (some d2) m)) := fun u hu => by
    have h := make_any g B m d ys (-s) u (hB.below hu) (by omega) (hT.below hu)
    rw [hd2] at h
    exact h
  have HT := Lib.hid hT
  have HD : Hid (mk g (val xs) (-s) = some d1 ∧ mk g (val ys) (-s) = some d2 ∧ val xs ≤ val ys) := ⟨hd1, hd2, hle⟩
  have e1 : max s (-2147483648) = s := by omega
  obtain ⟨V, hVV⟩ : ∃ V, val (if g = true then ys else xs) = V := ⟨_, rfl⟩
  obtain ⟨U, hUU⟩ : ∃ U, val (if g = true then xs else ys) = U := ⟨_, rfl⟩
  rw [hVV, hUU]
  have HVU : Hid (val (if g = true then ys else xs) = V ∧ val (if g = true then xs else ys) = U) := ⟨hVV, hUU⟩
  clear hVV hUU
  clear a1 i1 h1 hA hB hT hd1 hd2 hle hbx hby
  go_enter Tryd.func26, Tryd.ntmps26
  go_wp2_with fail
  refine H1.out.mono ?_
  rintro e w1 ⟨g1, A1, m1, c1, zs, E1, r1, rfl, hm1, hl1, hb1, his1, hB1⟩
  obtain ⟨rfl, hg1, hV1, hE1⟩ := his1
  have hs1' := HS.out.trans (hB1.mono HS.out.size)
  have a2 := below1 w1 (.cells #[.bool g1, .slice A1 m1 c1, .int .i64 E1] 46)
  have HB1 : Hid (Bd (w1.alloc (.cells #[.bool g1, .slice A1 m1 c1, .int .i64 E1] 46)) w1.heap.size 46 g1 A1 m1 c1 E1) := Bd.new _ _ _ _ _ _ _
  have hlt1 : w.heap.size < w1.heap.size := (HI.out.below hB1).lt
  have HL1 := Lib.hid (hl1.below a2)
  have HE1 : Hid (Bare zs ∧ d1 = ⟨g1, val zs, E1⟩) := ⟨hb1, by rw [hg1, hV1, hE1]⟩
  replace HI := Lib.hid ((HI.out.below hB1).below a2)
  replace HS := Lib.hid (hs1'.trans (a2.mono hs1'.size))
  have H3 := Lib.hid (H2.out _ HS.out)
  have Hlt1 := Lib.hid hlt1
  clear hl1 hb1 hg1 hV1 hE1 hB1 H1 H2 hs1' a2 hlt1
  go_wp2_with fail
  refine H3.out.mono ?_
  rintro e w2 ⟨g2, A2, m2, c2, us, E2, r2, rfl, hm2, hl2, hb2, his2, hB2⟩
  obtain ⟨rfl, hg2, hV2, hE2⟩ := his2
  have a3 := below1 w2 (.cells #[.bool g2, .slice A2 m2 c2, .int .i64 E2] 46)
  have hs2' := HS.out.trans (hB2.mono HS.out.size)
  have hs3' := hs2'.trans (a3.mono hs2'.size)
  have k0 : HoldB2 w w1.heap.size g1 A1 m1 c1 zs E1 w2.heap.size g2 A2 m2 c2 us E2 (w2.alloc (.cells #[.bool g2, .slice A2 m2 c2, .int .i64 E2] 46)) :=
    ⟨(HI.out.below hB2).below a3, (HB1.out.below hB2).below a3, Bd.new _ _ _ _ _ _ _, (HL1.out.below hB2).below a3, hl2.below a3, HT.out.below hs3', hs3', Hlt1.out, (HB1.out.below hB2).lt⟩
  have K0 := Lib.hid k0
  have HE2 : Hid (Bare us ∧ d2 = ⟨g2, val us, E2⟩) := ⟨hb2, by rw [hg2, hV2, hE2]⟩
  obtain ⟨v, hv⟩ : ∃ v, cmpI (dw g1 (val zs) E1) (dw g2 (val us) E2) = v := ⟨_, rfl⟩
  have H4 : Hid (∀ u, HoldB2 w w1.heap.size g1 A1 m1 c1 zs E1 w2.heap.size g2 A2 m2 c2 us E2 u → Calls Tryd.prog 29 #[.agg #[.bool g1, .slice A1 m1 c1, .int .i64 E1], .agg #[.bool g2, .slice A2 m2 c2, .int .i64 E2]] u fun e w' => e = .returned (.int .i64 v) ∧ Below u.heap.size u w') := fun u hu =>
    dcmp_l v g1 A1 m1 c1 zs E1 g2 A2 m2 c2 us E2 u hu.2.2.2.1 hu.2.2.2.2.1 (by omega) (by omega) hu.2.2.2.2.2.1 hv
  have HV := Lib.hid hv
  have x0 := k0.2.1.c0
  have x1 := k0.2.1.c1
  have x2 := k0.2.1.c2
  have y0 := k0.2.2.1.c0
  have y1 := k0.2.2.1.c1
  have y2 := k0.2.2.1.c2
  clear hl2 hb2 hg2 hV2 hE2 hB2 H3 hs2' hs3' a3 HS HI HB1 HL1 HT k0 hv Hlt1
  go_wp2_with fail
  refine (H4.out _ K0.out).mono ?_
  rintro e w3 ⟨rfl, hB3⟩
  have k1 := K0.out.below hB3
  obtain ⟨bv, hbv⟩ : ∃ bv, decide ((0 : Int) < v) = bv := ⟨_, rfl⟩
  have H5 : Hid (SortedB w w1.heap.size w2.heap.size g V U s (if bv = true then World.put (World.put w3 w1.heap.size g2 A2 m2 c2 E2) w2.heap.size g1 A1 m1 c1 E1 else w3)) := by
    show SortedB _ _ _ _ _ _ _ _
    rw [← HVU.out.1, ← HVU.out.2]
    cases bv with
    | true =>
      have hv0 : 0 < v := of_decide_eq_true hbv
      rw [if_pos rfl]
      refine ⟨g2, A2, m2, c2, us, E2, g1, A1, m1, c1, zs, E1, k1.swap, by omega, by omega, HE2.out.1, HE1.out.1, ?_⟩
      cases g with
      | true => exact ⟨by rw [← HE2.out.2]; exact HD.out.2.1, by rw [← HE1.out.2]; exact HD.out.1⟩
      | false =>
        exfalso
        have h := within_ord (g := false) (a := val xs) (b := val ys) (E := -s) HD.out.2.2 HD.out.1 HD.out.2.1
        rw [HE1.out.2, HE2.out.2] at h
        have h' : cmpI (dw g1 (val zs) E1) (dw g2 (val us) E2) ≤ 0 := h
        rw [HV.out] at h'
        omega
    | false =>
      have hv0 : ¬ 0 < v := of_decide_eq_false hbv
      change SortedB w w1.heap.size w2.heap.size g _ _ s w3
      refine ⟨g1, A1, m1, c1, zs, E1, g2, A2, m2, c2, us, E2, k1, by omega, by omega, HE1.out.1, HE2.out.1, ?_⟩
      cases g with
      | false => exact ⟨by rw [← HE1.out.2]; exact HD.out.1, by rw [← HE2.out.2]; exact HD.out.2.1⟩
      | true =>
        have h := with_same HD.out.1 HD.out.2.1 HD.out.2.2 (by
          rw [HE1.out.2, HE2.out.2]
          show cmpI (dw g1 (val zs) E1) (dw g2 (val us) E2) ≤ 0
          rw [HV.out]; omega)
        have j1 := HD.out.1
        have j2 := HD.out.2.1
        rw [HE1.out.2] at j1
        rw [HE2.out.2] at j2
        constructor
        · show mk true (val ys) (-s) = _
          rw [← h]; exact j1
        · show mk true (val xs) (-s) = _
          rw [h]; exact j2
  have K1 := Lib.hid k1
  clear x0 x1 x2 y0 y1 y2 hB3 K0 H4 k1 HV HD HE1 HE2 HVU
  go_upto_if 39 with fail
  go_cut [11] from 40 (fun _ wx => Hid (SortedB w w1.heap.size w2.heap.size g V U s wx))
  case first =>
    cases bv with
    | true =>
      rw [if_pos rfl] at H5
      have x0 := K1.out.2.1.c0
      have x1 := K1.out.2.1.c1
      have x2 := K1.out.2.1.c2
      have y0 := K1.out.2.2.1.c0
      have y1 := K1.out.2.2.1.c1
      have y2 := K1.out.2.2.1.c2
      have xf := K1.out.2.1.fz
      have hne : w2.heap.size ≠ w1.heap.size := Nat.ne_of_gt K1.out.2.2.2.2.2.2.2.2
      have j := K1.out.2.2.1.other hne g2 A2 m2 c2 E2
      have z0 := j.c0
      have z1 := j.c1
      have z2 := j.c2
      have yf := j.fz
      clear hne j K1
      go_wp2_with fail
      go_meet
      exact H5
    | false =>
      rw [if_neg (by decide)] at H5
      clear K1
      go_wp2_with fail
      go_meet
      exact H5
  case rest =>
    obtain ⟨wA, rfl⟩ : ∃ wA, wA = wc := ⟨_, rfl⟩
    obtain ⟨h1, B1, n1, d1, ts, f1, h2, B2, n2, d2, vs, f2, k2, hn1, hn2, hbt, hbv_, hk1, hk2⟩ := hcut
    have x0 := k2.2.1.c0
    have x1 := k2.2.1.c1
    have x2 := k2.2.1.c2
    have y0 := k2.2.2.1.c0
    have y1 := k2.2.2.1.c1
    have y2 := k2.2.2.1.c2
    have zf := k2.1.fz
    have u0 := k2.1.x0
    have u1 := k2.1.x1
    have u2 := k2.1.x2
    have u3 := k2.1.x3
    have u4 := k2.1.x4
    have u5 := k2.1.x5
    have Hfin := Lib.hid (with_out k2 hn1 hn2 hbt hbv_ hk1 hk2)
    clear H5 K1 k2 hbt hbv_ hk1 hk2
    go_wp2_with fail
    exact bodyPost_ret (v := .agg #[.bool h1, .slice B1 n1 d1, .int .i64 f1, .bool h2, .slice B2 n2 d2, .int .i64 f2]) (by simp [results, Tryd.results26, go_sem, u0, u1, u2, u3, u4, u5]) rfl Hfin.out
end Go.Proofs.YtngldpmnbdgkiaaDoor
