/- The walk of iv.Mul of two that are right, its four products there (written by law_iv3.py). -/
import Derived.Test.YtafgooiakmmfkaaDoorIvSortF
import Derived.Test.YtafgooiakmmfkaaDoorIvAdd
namespace Go.Proofs.YtafgooiakmmfkaaDoor
open Go.RowKit

def q4 (a b c d : Ce) : Nat → Ce := fun k => if k = 0 then a else if k = 1 then b else if k = 2 then c else d
def zCe : Ce := ⟨false, none, 0, 0, [], 0⟩
theorem lim4_q {u : World} {a b c d : Ce} (ha : Lim u a.A a.n a.c a.xs ∧ a.n ≤ 100000) (hb : Lim u b.A b.n b.c b.xs ∧ b.n ≤ 100000) (hc : Lim u c.A c.n c.c c.xs ∧ c.n ≤ 100000) (hd : Lim u d.A d.n d.c d.xs ∧ d.n ≤ 100000) : Lim4 u (q4 a b c d) := fun k hk => by
  have h : k = 0 ∨ k = 1 ∨ k = 2 ∨ k = 3 := by omega
  rcases h with rfl | rfl | rfl | rfl
  · exact ha
  · exact hb
  · exact hc
  · exact hd
/-- Both intervals in their boxes, the result's, the four, their lists. -/
def HoldMI (w : World) (g1 : Bool) (A1 : Option Addr) (n1 c1 : Nat) (xs1 : List Nat) (e1 : Int) (g2 : Bool) (A2 : Option Addr) (n2 c2 : Nat) (xs2 : List Nat) (e2 : Int) (g3 : Bool) (A3 : Option Addr) (n3 c3 : Nat) (xs3 : List Nat) (e3 : Int) (g4 : Bool) (A4 : Option Addr) (n4 c4 : Nat) (xs4 : List Nat) (e4 : Int) (R : Nat) (p : Nat → Ce) (u : World) : Prop :=
  Ib u w.heap.size g1 A1 n1 c1 e1 g2 A2 n2 c2 e2 ∧ Ib u (w.heap.size + 1) g3 A3 n3 c3 e3 g4 A4 n4 c4 e4 ∧ Ib u (w.heap.size + 1 + 1) false none 0 0 0 false none 0 0 0 ∧ (Row4 u R 75 p ∧ w.heap.size + 1 + 1 + 1 ≤ R) ∧ Lim4 u p ∧ (Lim u A1 n1 c1 xs1 ∧ Lim u A2 n2 c2 xs2 ∧ Lim u A3 n3 c3 xs3 ∧ Lim u A4 n4 c4 xs4) ∧ Tab u ∧ Below w.heap.size w u
section
variable {w u u' : World} {g1 : Bool} {A1 : Option Addr} {n1 c1 : Nat} {xs1 : List Nat} {e1 : Int} {g2 : Bool} {A2 : Option Addr} {n2 c2 : Nat} {xs2 : List Nat} {e2 : Int} {g3 : Bool} {A3 : Option Addr} {n3 c3 : Nat} {xs3 : List Nat} {e3 : Int} {g4 : Bool} {A4 : Option Addr} {n4 c4 : Nat} {xs4 : List Nat} {e4 : Int} {p : Nat → Ce} {R : Nat}
theorem HoldMI.below (h : HoldMI w g1 A1 n1 c1 xs1 e1 g2 A2 n2 c2 xs2 e2 g3 A3 n3 c3 xs3 e3 g4 A4 n4 c4 xs4 e4 R p u) (hb : Below u.heap.size u u') : HoldMI w g1 A1 n1 c1 xs1 e1 g2 A2 n2 c2 xs2 e2 g3 A3 n3 c3 xs3 e3 g4 A4 n4 c4 xs4 e4 R p u' :=
  ⟨h.1.below hb, h.2.1.below hb, h.2.2.1.below hb, ⟨h.2.2.2.1.1.below hb, h.2.2.2.1.2⟩, fun k hk => ⟨(h.2.2.2.2.1 k hk).1.below hb, (h.2.2.2.2.1 k hk).2⟩, ⟨h.2.2.2.2.2.1.1.below hb, h.2.2.2.2.2.1.2.1.below hb, h.2.2.2.2.2.1.2.2.1.below hb, h.2.2.2.2.2.1.2.2.2.below hb⟩, h.2.2.2.2.2.2.1.below hb, h.2.2.2.2.2.2.2.trans (hb.mono h.2.2.2.2.2.2.2.size)⟩
theorem HoldMI.row (h : HoldMI w g1 A1 n1 c1 xs1 e1 g2 A2 n2 c2 xs2 e2 g3 A3 n3 c3 xs3 e3 g4 A4 n4 c4 xs4 e4 R p u) : Row4 u R 75 p := h.2.2.2.1.1
theorem HoldMI.ge (h : HoldMI w g1 A1 n1 c1 xs1 e1 g2 A2 n2 c2 xs2 e2 g3 A3 n3 c3 xs3 e3 g4 A4 n4 c4 xs4 e4 R p u) : w.heap.size + 1 + 1 + 1 ≤ R := h.2.2.2.1.2
theorem HoldMI.lims (h : HoldMI w g1 A1 n1 c1 xs1 e1 g2 A2 n2 c2 xs2 e2 g3 A3 n3 c3 xs3 e3 g4 A4 n4 c4 xs4 e4 R p u) : Lim u A1 n1 c1 xs1 ∧ Lim u A2 n2 c2 xs2 ∧ Lim u A3 n3 c3 xs3 ∧ Lim u A4 n4 c4 xs4 := h.2.2.2.2.2.1
theorem HoldMI.tab (h : HoldMI w g1 A1 n1 c1 xs1 e1 g2 A2 n2 c2 xs2 e2 g3 A3 n3 c3 xs3 e3 g4 A4 n4 c4 xs4 e4 R p u) : Tab u := h.2.2.2.2.2.2.1
theorem HoldMI.all (h : HoldMI w g1 A1 n1 c1 xs1 e1 g2 A2 n2 c2 xs2 e2 g3 A3 n3 c3 xs3 e3 g4 A4 n4 c4 xs4 e4 R p u) : Below w.heap.size w u := h.2.2.2.2.2.2.2
theorem Ib.onl {b k : Nat} (h : Ib u k g1 A1 n1 c1 e1 g2 A2 n2 c2 e2) (ho : ∀ k, k ≠ b → u'.heap[k]? = u.heap[k]?) (hk : k ≠ b) : Ib u' k g1 A1 n1 c1 e1 g2 A2 n2 c2 e2 := by
  unfold Ib; rw [ho k hk]; exact h
theorem HoldMI.turn (h : HoldMI w g1 A1 n1 c1 xs1 e1 g2 A2 n2 c2 xs2 e2 g3 A3 n3 c3 xs3 e3 g4 A4 n4 c4 xs4 e4 R p u) (hs : u'.heap.size = u.heap.size) (ho : ∀ k, k ≠ R → u'.heap[k]? = u.heap[k]?) (hb : Below R u u') {p' : Nat → Ce} (hr : Row4 u' R 75 p') (hl : Lim4 u p') : HoldMI w g1 A1 n1 c1 xs1 e1 g2 A2 n2 c2 xs2 e2 g3 A3 n3 c3 xs3 e3 g4 A4 n4 c4 xs4 e4 R p' u' :=
  have g := h.ge
  ⟨h.1.onl ho (by omega), h.2.1.onl ho (by omega), h.2.2.1.onl ho (by omega), ⟨hr, g⟩, fun k hk => ⟨h.row.lim hs ho (hl k hk).1, (hl k hk).2⟩, ⟨h.row.lim hs ho h.lims.1, h.row.lim hs ho h.lims.2.1, h.row.lim hs ho h.lims.2.2.1, h.row.lim hs ho h.lims.2.2.2⟩, h.row.tab ho h.tab, h.all.trans (hb.mono (by omega))⟩
variable {a b c d x : Ce}
theorem HoldMI.put0 (h : HoldMI w g1 A1 n1 c1 xs1 e1 g2 A2 n2 c2 xs2 e2 g3 A3 n3 c3 xs3 e3 g4 A4 n4 c4 xs4 e4 R (q4 a b c d) u) (hx : Lim u x.A x.n x.c x.xs ∧ x.n ≤ 100000) : HoldMI w g1 A1 n1 c1 xs1 e1 g2 A2 n2 c2 xs2 e2 g3 A3 n3 c3 xs3 e3 g4 A4 n4 c4 xs4 e4 R (q4 x b c d) (((u.setCell ⟨R, 0, none⟩ (.bool x.g)).setCell ⟨R, 1, none⟩ (.slice x.A x.n x.c)).setCell ⟨R, 2, none⟩ (.int .i64 x.e)) := by
  show HoldMI w g1 A1 n1 c1 xs1 e1 g2 A2 n2 c2 xs2 e2 g3 A3 n3 c3 xs3 e3 g4 A4 n4 c4 xs4 e4 R (q4 x b c d) (World.put3 u R 0 x)
  have l := h.2.2.2.2.1
  refine h.turn (put3_size _ _ _ _) (fun k hk => put3_heap _ _ _ _ _ hk) (below_put3 (Below.refl _ _) (Nat.le_refl _) _ _) ?_ (lim4_q hx (l 1 (by omega)) (l 2 (by omega)) (l 3 (by omega)))
  have e := h.row
  unfold Row4 at e ⊢
  simp [World.setCell, Array.getElem?_modify, e, q4]
theorem HoldMI.put1 (h : HoldMI w g1 A1 n1 c1 xs1 e1 g2 A2 n2 c2 xs2 e2 g3 A3 n3 c3 xs3 e3 g4 A4 n4 c4 xs4 e4 R (q4 a b c d) u) (hx : Lim u x.A x.n x.c x.xs ∧ x.n ≤ 100000) : HoldMI w g1 A1 n1 c1 xs1 e1 g2 A2 n2 c2 xs2 e2 g3 A3 n3 c3 xs3 e3 g4 A4 n4 c4 xs4 e4 R (q4 a x c d) (((u.setCell ⟨R, 3, none⟩ (.bool x.g)).setCell ⟨R, 4, none⟩ (.slice x.A x.n x.c)).setCell ⟨R, 5, none⟩ (.int .i64 x.e)) := by
  show HoldMI w g1 A1 n1 c1 xs1 e1 g2 A2 n2 c2 xs2 e2 g3 A3 n3 c3 xs3 e3 g4 A4 n4 c4 xs4 e4 R (q4 a x c d) (World.put3 u R 3 x)
  have l := h.2.2.2.2.1
  refine h.turn (put3_size _ _ _ _) (fun k hk => put3_heap _ _ _ _ _ hk) (below_put3 (Below.refl _ _) (Nat.le_refl _) _ _) ?_ (lim4_q (l 0 (by omega)) hx (l 2 (by omega)) (l 3 (by omega)))
  have e := h.row
  unfold Row4 at e ⊢
  simp [World.setCell, Array.getElem?_modify, e, q4]
theorem HoldMI.put2 (h : HoldMI w g1 A1 n1 c1 xs1 e1 g2 A2 n2 c2 xs2 e2 g3 A3 n3 c3 xs3 e3 g4 A4 n4 c4 xs4 e4 R (q4 a b c d) u) (hx : Lim u x.A x.n x.c x.xs ∧ x.n ≤ 100000) : HoldMI w g1 A1 n1 c1 xs1 e1 g2 A2 n2 c2 xs2 e2 g3 A3 n3 c3 xs3 e3 g4 A4 n4 c4 xs4 e4 R (q4 a b x d) (((u.setCell ⟨R, 6, none⟩ (.bool x.g)).setCell ⟨R, 7, none⟩ (.slice x.A x.n x.c)).setCell ⟨R, 8, none⟩ (.int .i64 x.e)) := by
  show HoldMI w g1 A1 n1 c1 xs1 e1 g2 A2 n2 c2 xs2 e2 g3 A3 n3 c3 xs3 e3 g4 A4 n4 c4 xs4 e4 R (q4 a b x d) (World.put3 u R 6 x)
  have l := h.2.2.2.2.1
  refine h.turn (put3_size _ _ _ _) (fun k hk => put3_heap _ _ _ _ _ hk) (below_put3 (Below.refl _ _) (Nat.le_refl _) _ _) ?_ (lim4_q (l 0 (by omega)) (l 1 (by omega)) hx (l 3 (by omega)))
  have e := h.row
  unfold Row4 at e ⊢
  simp [World.setCell, Array.getElem?_modify, e, q4]
theorem HoldMI.put3 (h : HoldMI w g1 A1 n1 c1 xs1 e1 g2 A2 n2 c2 xs2 e2 g3 A3 n3 c3 xs3 e3 g4 A4 n4 c4 xs4 e4 R (q4 a b c d) u) (hx : Lim u x.A x.n x.c x.xs ∧ x.n ≤ 100000) : HoldMI w g1 A1 n1 c1 xs1 e1 g2 A2 n2 c2 xs2 e2 g3 A3 n3 c3 xs3 e3 g4 A4 n4 c4 xs4 e4 R (q4 a b c x) (((u.setCell ⟨R, 9, none⟩ (.bool x.g)).setCell ⟨R, 10, none⟩ (.slice x.A x.n x.c)).setCell ⟨R, 11, none⟩ (.int .i64 x.e)) := by
  show HoldMI w g1 A1 n1 c1 xs1 e1 g2 A2 n2 c2 xs2 e2 g3 A3 n3 c3 xs3 e3 g4 A4 n4 c4 xs4 e4 R (q4 a b c x) (World.put3 u R 9 x)
  have l := h.2.2.2.2.1
  refine h.turn (put3_size _ _ _ _) (fun k hk => put3_heap _ _ _ _ _ hk) (below_put3 (Below.refl _ _) (Nat.le_refl _) _ _) ?_ (lim4_q (l 0 (by omega)) (l 1 (by omega)) (l 2 (by omega)) hx)
  have e := h.row
  unfold Row4 at e ⊢
  simp [World.setCell, Array.getElem?_modify, e, q4]
end
theorem ix4_0 (v0 v1 v2 v3 v4 v5 v6 v7 v8 v9 v10 v11 v12 v13 v14 v15 v16 v17 v18 v19 v20 v21 v22 v23 : Value) (u : World) : (Instr.index 77 (.agg #[v0, v1, v2, v3, v4, v5, v6, v7, v8, v9, v10, v11, v12, v13, v14, v15, v16, v17, v18, v19, v20, v21, v22, v23]) (.int .i64 0)).run Tryd.prog u = .ok (.agg #[v0, v1, v2, v3, v4, v5]) u := by
  simp [Instr.index, run_underlying Tryd.underlying77, asIntOf, Tryd.sizeOf76, Tryd.isAgg76, go_sem]
theorem ix4_1 (v0 v1 v2 v3 v4 v5 v6 v7 v8 v9 v10 v11 v12 v13 v14 v15 v16 v17 v18 v19 v20 v21 v22 v23 : Value) (u : World) : (Instr.index 77 (.agg #[v0, v1, v2, v3, v4, v5, v6, v7, v8, v9, v10, v11, v12, v13, v14, v15, v16, v17, v18, v19, v20, v21, v22, v23]) (.int .i64 1)).run Tryd.prog u = .ok (.agg #[v6, v7, v8, v9, v10, v11]) u := by
  simp [Instr.index, run_underlying Tryd.underlying77, asIntOf, Tryd.sizeOf76, Tryd.isAgg76, go_sem]
theorem ix4_2 (v0 v1 v2 v3 v4 v5 v6 v7 v8 v9 v10 v11 v12 v13 v14 v15 v16 v17 v18 v19 v20 v21 v22 v23 : Value) (u : World) : (Instr.index 77 (.agg #[v0, v1, v2, v3, v4, v5, v6, v7, v8, v9, v10, v11, v12, v13, v14, v15, v16, v17, v18, v19, v20, v21, v22, v23]) (.int .i64 2)).run Tryd.prog u = .ok (.agg #[v12, v13, v14, v15, v16, v17]) u := by
  simp [Instr.index, run_underlying Tryd.underlying77, asIntOf, Tryd.sizeOf76, Tryd.isAgg76, go_sem]
theorem ix4_3 (v0 v1 v2 v3 v4 v5 v6 v7 v8 v9 v10 v11 v12 v13 v14 v15 v16 v17 v18 v19 v20 v21 v22 v23 : Value) (u : World) : (Instr.index 77 (.agg #[v0, v1, v2, v3, v4, v5, v6, v7, v8, v9, v10, v11, v12, v13, v14, v15, v16, v17, v18, v19, v20, v21, v22, v23]) (.int .i64 3)).run Tryd.prog u = .ok (.agg #[v18, v19, v20, v21, v22, v23]) u := by
  simp [Instr.index, run_underlying Tryd.underlying77, asIntOf, Tryd.sizeOf76, Tryd.isAgg76, go_sem]
def dwD (d : Dy) : Int := dw d.neg d.V d.e
/-- What Mul makes of the four products. -/
def MulV (m0 m1 m2 m3 X Y : Dy) : Prop := (X = m0 ∨ X = m1 ∨ X = m2 ∨ X = m3) ∧ (Y = m0 ∨ Y = m1 ∨ Y = m2 ∨ Y = m3) ∧ dwD X = min (min (dwD m0) (dwD m1)) (min (dwD m2) (dwD m3)) ∧ dwD Y = max (max (dwD m0) (dwD m1)) (max (dwD m2) (dwD m3))
def Ce.d (x : Ce) : Dy := ⟨x.g, val x.xs, x.e⟩
theorem mulv_of {a b c d : Ce} {p : Nat → Ce} (hs : Same4 (q4 a b c d) p) (hu : Up 4 p) : MulV a.d b.d c.d d.d (p 0).d (p 3).d := by
  have mem : ∀ k, k < 4 → (p k).d = a.d ∨ (p k).d = b.d ∨ (p k).d = c.d ∨ (p k).d = d.d := fun k hk => by
    obtain ⟨m, hm, e⟩ := hs.1 k hk
    have h : m = 0 ∨ m = 1 ∨ m = 2 ∨ m = 3 := by omega
    rcases h with rfl | rfl | rfl | rfl
    · exact Or.inl (congrArg Ce.d e)
    · exact Or.inr (Or.inl (congrArg Ce.d e))
    · exact Or.inr (Or.inr (Or.inl (congrArg Ce.d e)))
    · exact Or.inr (Or.inr (Or.inr (congrArg Ce.d e)))
  have lo : ∀ m, m < 4 → (p 0).w ≤ (q4 a b c d m).w ∧ (q4 a b c d m).w ≤ (p 3).w := fun m hm => by
    obtain ⟨k, hk, e⟩ := hs.2 m hm
    rw [← e]
    constructor
    · by_cases h : k = 0
      · rw [h]; exact Int.le_refl _
      · exact hu 0 k (by omega) hk
    · by_cases h : k = 3
      · rw [h]; exact Int.le_refl _
      · exact hu k 3 (by omega) (by omega)
  have ew : ∀ x : Ce, dwD x.d = x.w := fun _ => rfl
  have h0 := lo 0 (by omega)
  have h1 := lo 1 (by omega)
  have h2 := lo 2 (by omega)
  have h3 := lo 3 (by omega)
  have e0 : (q4 a b c d 0) = a := rfl
  have e1 : (q4 a b c d 1) = b := rfl
  have e2 : (q4 a b c d 2) = c := rfl
  have e3 : (q4 a b c d 3) = d := rfl
  rw [e0] at h0
  rw [e1] at h1
  rw [e2] at h2
  rw [e3] at h3
  have m0 := mem 0 (by omega)
  have m3 := mem 3 (by omega)
  refine ⟨m0, m3, ?_, ?_⟩
  · have f : (p 0).w = a.w ∨ (p 0).w = b.w ∨ (p 0).w = c.w ∨ (p 0).w = d.w := by
      rcases m0 with h | h | h | h
      · exact Or.inl (congrArg dwD h)
      · exact Or.inr (Or.inl (congrArg dwD h))
      · exact Or.inr (Or.inr (Or.inl (congrArg dwD h)))
      · exact Or.inr (Or.inr (Or.inr (congrArg dwD h)))
    rw [ew, ew, ew, ew, ew]; omega
  · have f : (p 3).w = a.w ∨ (p 3).w = b.w ∨ (p 3).w = c.w ∨ (p 3).w = d.w := by
      rcases m3 with h | h | h | h
      · exact Or.inl (congrArg dwD h)
      · exact Or.inr (Or.inl (congrArg dwD h))
      · exact Or.inr (Or.inr (Or.inl (congrArg dwD h)))
      · exact Or.inr (Or.inr (Or.inr (congrArg dwD h)))
    rw [ew, ew, ew, ew, ew]; omega
theorem same4_bare {q p : Nat → Ce} (hs : Same4 q p) (h : ∀ k, k < 4 → Bare (q k).xs) (k : Nat) (hk : k < 4) : Bare (p k).xs := by
  obtain ⟨m, hm, e⟩ := hs.1 k hk
  rw [e]; exact h m hm

set_option maxHeartbeats 4000000 in
set_option maxRecDepth 20000 in
theorem ivmul_yes (m0 m1 m2 m3 d1 d2 d3 d4 : Dy) (g1 : Bool) (A1 : Option Addr) (n1 c1 : Nat) (xs1 : List Nat) (e1 : Int) (g2 : Bool) (A2 : Option Addr) (n2 c2 : Nat) (xs2 : List Nat) (e2 : Int) (g3 : Bool) (A3 : Option Addr) (n3 c3 : Nat) (xs3 : List Nat) (e3 : Int) (g4 : Bool) (A4 : Option Addr) (n4 c4 : Nat) (xs4 : List Nat) (e4 : Int) (w : World) (l1 : Lim w A1 n1 c1 xs1) (b1 : n1 ≤ 30000) (l2 : Lim w A2 n2 c2 xs2) (b2 : n2 ≤ 30000) (l3 : Lim w A3 n3 c3 xs3) (b3 : n3 ≤ 30000) (l4 : Lim w A4 n4 c4 xs4) (b4 : n4 ≤ 30000) (hT : Tab w) (h1 : Hid (mk g1 (val xs1) e1 = some d1)) (h2 : Hid (mk g2 (val xs2) e2 = some d2)) (h3 : Hid (mk g3 (val xs3) e3 = some d3)) (h4 : Hid (mk g4 (val xs4) e4 = some d4))
    (q1 : Hid (decide ((dw g1 (val xs1) e1) ≤ (dw g2 (val xs2) e2)) = true)) (q2 : Hid (decide ((dw g3 (val xs3) e3) ≤ (dw g4 (val xs4) e4)) = true)) (o0 : Hid (mulO (mk g1 (val xs1) e1) (mk g3 (val xs3) e3) = some m0)) (o1 : Hid (mulO (mk g1 (val xs1) e1) (mk g4 (val xs4) e4) = some m1)) (o2 : Hid (mulO (mk g2 (val xs2) e2) (mk g3 (val xs3) e3) = some m2)) (o3 : Hid (mulO (mk g2 (val xs2) e2) (mk g4 (val xs4) e4) = some m3)) :
    Calls Tryd.prog 13 #[.agg #[.bool g1, .slice A1 n1 c1, .int .i64 e1, .bool g2, .slice A2 n2 c2, .int .i64 e2], .agg #[.bool g3, .slice A3 n3 c3, .int .i64 e3, .bool g4, .slice A4 n4 c4, .int .i64 e4]] w (VTold w (fun X Y r _ _ => r = 0 ∧ MulV m0 m1 m2 m3 X Y)) := by
  obtain ⟨P0, hP0⟩ : ∃ P0 : Dy → Dy → Int → Nat → Nat → Prop, P0 = (fun X Y r _ _ => r = 0 ∧ MulV m0 m1 m2 m3 X Y) := ⟨_, rfl⟩
  rw [← hP0]
  have HP0 : Hid (∀ X Y m n, MulV m0 m1 m2 m3 X Y → P0 X Y 0 m n) := fun _ _ _ _ h => by rw [hP0]; exact ⟨rfl, h⟩
  clear hP0
  have HT := Lib.hid hT
  have HS := Lib.hid (Below.refl w.heap.size w)
  have H1 : Hid (Lim w A1 n1 c1 xs1) := l1
  have H2 : Hid (Lim w A2 n2 c2 xs2) := l2
  have H3 : Hid (Lim w A3 n3 c3 xs3) := l3
  have H4 : Hid (Lim w A4 n4 c4 xs4) := l4
  clear l1 l2 l3 l4 hT
  have ba := below1 w (.cells #[.bool g1, .slice A1 n1 c1, .int .i64 e1, .bool g2, .slice A2 n2 c2, .int .i64 e2] 38)
  replace HT : Hid (Tab (w.alloc (.cells #[.bool g1, .slice A1 n1 c1, .int .i64 e1, .bool g2, .slice A2 n2 c2, .int .i64 e2] 38))) := HT.out.below ba
  replace H1 : Hid (Lim (w.alloc (.cells #[.bool g1, .slice A1 n1 c1, .int .i64 e1, .bool g2, .slice A2 n2 c2, .int .i64 e2] 38)) A1 n1 c1 xs1) := H1.out.below ba
  replace H2 : Hid (Lim (w.alloc (.cells #[.bool g1, .slice A1 n1 c1, .int .i64 e1, .bool g2, .slice A2 n2 c2, .int .i64 e2] 38)) A2 n2 c2 xs2) := H2.out.below ba
  replace H3 : Hid (Lim (w.alloc (.cells #[.bool g1, .slice A1 n1 c1, .int .i64 e1, .bool g2, .slice A2 n2 c2, .int .i64 e2] 38)) A3 n3 c3 xs3) := H3.out.below ba
  replace H4 : Hid (Lim (w.alloc (.cells #[.bool g1, .slice A1 n1 c1, .int .i64 e1, .bool g2, .slice A2 n2 c2, .int .i64 e2] 38)) A4 n4 c4 xs4) := H4.out.below ba
  replace HS := Lib.hid (HS.out.trans (ba.mono HS.out.size))
  clear ba
  have HI : Hid (Ib (w.alloc (.cells #[.bool g1, .slice A1 n1 c1, .int .i64 e1, .bool g2, .slice A2 n2 c2, .int .i64 e2] 38)) w.heap.size g1 A1 n1 c1 e1 g2 A2 n2 c2 e2) := Ib.new w g1 A1 n1 c1 e1 g2 A2 n2 c2 e2
  have ba := below1 (w.alloc (.cells #[.bool g1, .slice A1 n1 c1, .int .i64 e1, .bool g2, .slice A2 n2 c2, .int .i64 e2] 38)) (.cells #[.bool g3, .slice A3 n3 c3, .int .i64 e3, .bool g4, .slice A4 n4 c4, .int .i64 e4] 38)
  replace HT : Hid (Tab ((w.alloc (.cells #[.bool g1, .slice A1 n1 c1, .int .i64 e1, .bool g2, .slice A2 n2 c2, .int .i64 e2] 38)).alloc (.cells #[.bool g3, .slice A3 n3 c3, .int .i64 e3, .bool g4, .slice A4 n4 c4, .int .i64 e4] 38))) := HT.out.below ba
  replace H1 : Hid (Lim ((w.alloc (.cells #[.bool g1, .slice A1 n1 c1, .int .i64 e1, .bool g2, .slice A2 n2 c2, .int .i64 e2] 38)).alloc (.cells #[.bool g3, .slice A3 n3 c3, .int .i64 e3, .bool g4, .slice A4 n4 c4, .int .i64 e4] 38)) A1 n1 c1 xs1) := H1.out.below ba
  replace H2 : Hid (Lim ((w.alloc (.cells #[.bool g1, .slice A1 n1 c1, .int .i64 e1, .bool g2, .slice A2 n2 c2, .int .i64 e2] 38)).alloc (.cells #[.bool g3, .slice A3 n3 c3, .int .i64 e3, .bool g4, .slice A4 n4 c4, .int .i64 e4] 38)) A2 n2 c2 xs2) := H2.out.below ba
  replace H3 : Hid (Lim ((w.alloc (.cells #[.bool g1, .slice A1 n1 c1, .int .i64 e1, .bool g2, .slice A2 n2 c2, .int .i64 e2] 38)).alloc (.cells #[.bool g3, .slice A3 n3 c3, .int .i64 e3, .bool g4, .slice A4 n4 c4, .int .i64 e4] 38)) A3 n3 c3 xs3) := H3.out.below ba
  replace H4 : Hid (Lim ((w.alloc (.cells #[.bool g1, .slice A1 n1 c1, .int .i64 e1, .bool g2, .slice A2 n2 c2, .int .i64 e2] 38)).alloc (.cells #[.bool g3, .slice A3 n3 c3, .int .i64 e3, .bool g4, .slice A4 n4 c4, .int .i64 e4] 38)) A4 n4 c4 xs4) := H4.out.below ba
  replace HI : Hid (Ib ((w.alloc (.cells #[.bool g1, .slice A1 n1 c1, .int .i64 e1, .bool g2, .slice A2 n2 c2, .int .i64 e2] 38)).alloc (.cells #[.bool g3, .slice A3 n3 c3, .int .i64 e3, .bool g4, .slice A4 n4 c4, .int .i64 e4] 38)) w.heap.size g1 A1 n1 c1 e1 g2 A2 n2 c2 e2) := HI.out.below ba
  replace HS := Lib.hid (HS.out.trans (ba.mono HS.out.size))
  clear ba
  have HK : Hid (Ib ((w.alloc (.cells #[.bool g1, .slice A1 n1 c1, .int .i64 e1, .bool g2, .slice A2 n2 c2, .int .i64 e2] 38)).alloc (.cells #[.bool g3, .slice A3 n3 c3, .int .i64 e3, .bool g4, .slice A4 n4 c4, .int .i64 e4] 38)) (w.heap.size + 1) g3 A3 n3 c3 e3 g4 A4 n4 c4 e4) := (by have h := Ib.new (w.alloc (.cells #[.bool g1, .slice A1 n1 c1, .int .i64 e1, .bool g2, .slice A2 n2 c2, .int .i64 e2] 38)) g3 A3 n3 c3 e3 g4 A4 n4 c4 e4; rw [World.size_alloc] at h; exact h)
  have ba := below1 ((w.alloc (.cells #[.bool g1, .slice A1 n1 c1, .int .i64 e1, .bool g2, .slice A2 n2 c2, .int .i64 e2] 38)).alloc (.cells #[.bool g3, .slice A3 n3 c3, .int .i64 e3, .bool g4, .slice A4 n4 c4, .int .i64 e4] 38)) (.cells #[.bool false, .slice none 0 0, .int .i64 0, .bool false, .slice none 0 0, .int .i64 0] 38)
  replace HT : Hid (Tab (((w.alloc (.cells #[.bool g1, .slice A1 n1 c1, .int .i64 e1, .bool g2, .slice A2 n2 c2, .int .i64 e2] 38)).alloc (.cells #[.bool g3, .slice A3 n3 c3, .int .i64 e3, .bool g4, .slice A4 n4 c4, .int .i64 e4] 38)).alloc (.cells #[.bool false, .slice none 0 0, .int .i64 0, .bool false, .slice none 0 0, .int .i64 0] 38))) := HT.out.below ba
  replace H1 : Hid (Lim (((w.alloc (.cells #[.bool g1, .slice A1 n1 c1, .int .i64 e1, .bool g2, .slice A2 n2 c2, .int .i64 e2] 38)).alloc (.cells #[.bool g3, .slice A3 n3 c3, .int .i64 e3, .bool g4, .slice A4 n4 c4, .int .i64 e4] 38)).alloc (.cells #[.bool false, .slice none 0 0, .int .i64 0, .bool false, .slice none 0 0, .int .i64 0] 38)) A1 n1 c1 xs1) := H1.out.below ba
  replace H2 : Hid (Lim (((w.alloc (.cells #[.bool g1, .slice A1 n1 c1, .int .i64 e1, .bool g2, .slice A2 n2 c2, .int .i64 e2] 38)).alloc (.cells #[.bool g3, .slice A3 n3 c3, .int .i64 e3, .bool g4, .slice A4 n4 c4, .int .i64 e4] 38)).alloc (.cells #[.bool false, .slice none 0 0, .int .i64 0, .bool false, .slice none 0 0, .int .i64 0] 38)) A2 n2 c2 xs2) := H2.out.below ba
  replace H3 : Hid (Lim (((w.alloc (.cells #[.bool g1, .slice A1 n1 c1, .int .i64 e1, .bool g2, .slice A2 n2 c2, .int .i64 e2] 38)).alloc (.cells #[.bool g3, .slice A3 n3 c3, .int .i64 e3, .bool g4, .slice A4 n4 c4, .int .i64 e4] 38)).alloc (.cells #[.bool false, .slice none 0 0, .int .i64 0, .bool false, .slice none 0 0, .int .i64 0] 38)) A3 n3 c3 xs3) := H3.out.below ba
  replace H4 : Hid (Lim (((w.alloc (.cells #[.bool g1, .slice A1 n1 c1, .int .i64 e1, .bool g2, .slice A2 n2 c2, .int .i64 e2] 38)).alloc (.cells #[.bool g3, .slice A3 n3 c3, .int .i64 e3, .bool g4, .slice A4 n4 c4, .int .i64 e4] 38)).alloc (.cells #[.bool false, .slice none 0 0, .int .i64 0, .bool false, .slice none 0 0, .int .i64 0] 38)) A4 n4 c4 xs4) := H4.out.below ba
  replace HI : Hid (Ib (((w.alloc (.cells #[.bool g1, .slice A1 n1 c1, .int .i64 e1, .bool g2, .slice A2 n2 c2, .int .i64 e2] 38)).alloc (.cells #[.bool g3, .slice A3 n3 c3, .int .i64 e3, .bool g4, .slice A4 n4 c4, .int .i64 e4] 38)).alloc (.cells #[.bool false, .slice none 0 0, .int .i64 0, .bool false, .slice none 0 0, .int .i64 0] 38)) w.heap.size g1 A1 n1 c1 e1 g2 A2 n2 c2 e2) := HI.out.below ba
  replace HK : Hid (Ib (((w.alloc (.cells #[.bool g1, .slice A1 n1 c1, .int .i64 e1, .bool g2, .slice A2 n2 c2, .int .i64 e2] 38)).alloc (.cells #[.bool g3, .slice A3 n3 c3, .int .i64 e3, .bool g4, .slice A4 n4 c4, .int .i64 e4] 38)).alloc (.cells #[.bool false, .slice none 0 0, .int .i64 0, .bool false, .slice none 0 0, .int .i64 0] 38)) (w.heap.size + 1) g3 A3 n3 c3 e3 g4 A4 n4 c4 e4) := HK.out.below ba
  replace HS := Lib.hid (HS.out.trans (ba.mono HS.out.size))
  clear ba
  have HR : Hid (Ib (((w.alloc (.cells #[.bool g1, .slice A1 n1 c1, .int .i64 e1, .bool g2, .slice A2 n2 c2, .int .i64 e2] 38)).alloc (.cells #[.bool g3, .slice A3 n3 c3, .int .i64 e3, .bool g4, .slice A4 n4 c4, .int .i64 e4] 38)).alloc (.cells #[.bool false, .slice none 0 0, .int .i64 0, .bool false, .slice none 0 0, .int .i64 0] 38)) (w.heap.size + 1 + 1) false none 0 0 0 false none 0 0 0) := (by have h := Ib.new ((w.alloc (.cells #[.bool g1, .slice A1 n1 c1, .int .i64 e1, .bool g2, .slice A2 n2 c2, .int .i64 e2] 38)).alloc (.cells #[.bool g3, .slice A3 n3 c3, .int .i64 e3, .bool g4, .slice A4 n4 c4, .int .i64 e4] 38)) false none 0 0 0 false none 0 0 0; rw [World.size_alloc, World.size_alloc] at h; exact h)
  have HI_0 := HI.out.x0
  have HI_1 := HI.out.x1
  have HI_2 := HI.out.x2
  have HI_3 := HI.out.x3
  have HI_4 := HI.out.x4
  have HI_5 := HI.out.x5
  have HK_0 := HK.out.x0
  have HK_1 := HK.out.x1
  have HK_2 := HK.out.x2
  have HK_3 := HK.out.x3
  have HK_4 := HK.out.x4
  have HK_5 := HK.out.x5
  have K1 := Lib.hid (iright_l true d1 d2 g1 A1 n1 c1 xs1 e1 g2 A2 n2 c2 xs2 e2 (((w.alloc (.cells #[.bool g1, .slice A1 n1 c1, .int .i64 e1, .bool g2, .slice A2 n2 c2, .int .i64 e2] 38)).alloc (.cells #[.bool g3, .slice A3 n3 c3, .int .i64 e3, .bool g4, .slice A4 n4 c4, .int .i64 e4] 38)).alloc (.cells #[.bool false, .slice none 0 0, .int .i64 0, .bool false, .slice none 0 0, .int .i64 0] 38)) H1.out (by omega) H2.out (by omega) HT.out h1 h2 q1)
  go_enter Tryd.func13, Tryd.ntmps13
  go_wp2_with fail
  refine K1.out.mono ?_
  rintro e w1 ⟨rfl, hB⟩
  clear HI_0 HI_1 HI_2 HI_3 HI_4 HI_5 HK_0 HK_1 HK_2 HK_3 HK_4 HK_5
  replace HT : Hid (Tab w1) := HT.out.below hB
  replace H1 : Hid (Lim w1 A1 n1 c1 xs1) := H1.out.below hB
  replace H2 : Hid (Lim w1 A2 n2 c2 xs2) := H2.out.below hB
  replace H3 : Hid (Lim w1 A3 n3 c3 xs3) := H3.out.below hB
  replace H4 : Hid (Lim w1 A4 n4 c4 xs4) := H4.out.below hB
  replace HI : Hid (Ib w1 w.heap.size g1 A1 n1 c1 e1 g2 A2 n2 c2 e2) := HI.out.below hB
  replace HK : Hid (Ib w1 (w.heap.size + 1) g3 A3 n3 c3 e3 g4 A4 n4 c4 e4) := HK.out.below hB
  replace HR : Hid (Ib w1 (w.heap.size + 1 + 1) false none 0 0 0 false none 0 0 0) := HR.out.below hB
  replace HS := Lib.hid (HS.out.trans (hB.mono HS.out.size))
  clear hB K1
  have HI_0 := HI.out.x0
  have HI_1 := HI.out.x1
  have HI_2 := HI.out.x2
  have HI_3 := HI.out.x3
  have HI_4 := HI.out.x4
  have HI_5 := HI.out.x5
  have HK_0 := HK.out.x0
  have HK_1 := HK.out.x1
  have HK_2 := HK.out.x2
  have HK_3 := HK.out.x3
  have HK_4 := HK.out.x4
  have HK_5 := HK.out.x5
  have K2 := Lib.hid (iright_l true d3 d4 g3 A3 n3 c3 xs3 e3 g4 A4 n4 c4 xs4 e4 w1 H3.out (by omega) H4.out (by omega) HT.out h3 h4 q2)
  go_wp2_with fail
  refine K2.out.mono ?_
  rintro e w2 ⟨rfl, hB⟩
  clear HI_0 HI_1 HI_2 HI_3 HI_4 HI_5 HK_0 HK_1 HK_2 HK_3 HK_4 HK_5
  replace HT : Hid (Tab w2) := HT.out.below hB
  replace H1 : Hid (Lim w2 A1 n1 c1 xs1) := H1.out.below hB
  replace H2 : Hid (Lim w2 A2 n2 c2 xs2) := H2.out.below hB
  replace H3 : Hid (Lim w2 A3 n3 c3 xs3) := H3.out.below hB
  replace H4 : Hid (Lim w2 A4 n4 c4 xs4) := H4.out.below hB
  replace HI : Hid (Ib w2 w.heap.size g1 A1 n1 c1 e1 g2 A2 n2 c2 e2) := HI.out.below hB
  replace HK : Hid (Ib w2 (w.heap.size + 1) g3 A3 n3 c3 e3 g4 A4 n4 c4 e4) := HK.out.below hB
  replace HR : Hid (Ib w2 (w.heap.size + 1 + 1) false none 0 0 0 false none 0 0 0) := HR.out.below hB
  replace HS := Lib.hid (HS.out.trans (hB.mono HS.out.size))
  clear hB K2
  have ba := below1 w2 (.cells #[.bool false, .slice none 0 0, .int .i64 0, .bool false, .slice none 0 0, .int .i64 0, .bool false, .slice none 0 0, .int .i64 0, .bool false, .slice none 0 0, .int .i64 0] 75)
  have hR : w.heap.size + 1 + 1 + 1 ≤ w2.heap.size := HR.out.lt
  have hrow : Row4 (w2.alloc (.cells #[.bool false, .slice none 0 0, .int .i64 0, .bool false, .slice none 0 0, .int .i64 0, .bool false, .slice none 0 0, .int .i64 0, .bool false, .slice none 0 0, .int .i64 0] 75)) w2.heap.size 75 (q4 zCe zCe zCe zCe) := by show (w2.heap.push _)[w2.heap.size]? = _; simp [q4, zCe]
  have hz : Lim (w2.alloc (.cells #[.bool false, .slice none 0 0, .int .i64 0, .bool false, .slice none 0 0, .int .i64 0, .bool false, .slice none 0 0, .int .i64 0, .bool false, .slice none 0 0, .int .i64 0] 75)) zCe.A zCe.n zCe.c zCe.xs ∧ zCe.n ≤ 100000 := ⟨Lim.nil _ _ _, by decide⟩
  have K0 : Hid (HoldMI w g1 A1 n1 c1 xs1 e1 g2 A2 n2 c2 xs2 e2 g3 A3 n3 c3 xs3 e3 g4 A4 n4 c4 xs4 e4 w2.heap.size (q4 zCe zCe zCe zCe) (w2.alloc (.cells #[.bool false, .slice none 0 0, .int .i64 0, .bool false, .slice none 0 0, .int .i64 0, .bool false, .slice none 0 0, .int .i64 0, .bool false, .slice none 0 0, .int .i64 0] 75))) := ⟨HI.out.below ba, HK.out.below ba, HR.out.below ba, ⟨hrow, hR⟩, lim4_q hz hz hz hz, ⟨H1.out.below ba, H2.out.below ba, H3.out.below ba, H4.out.below ba⟩, HT.out.below ba, HS.out.trans (ba.mono HS.out.size)⟩
  have HR3 := Lib.hid hR
  clear ba hR hrow hz HI HK HR H1 H2 H3 H4 HT HS h1 h2 h3 h4 q1 q2
  have i0 := K0.out.1.x0
  have i1 := K0.out.1.x1
  have i2 := K0.out.1.x2
  have i3 := K0.out.1.x3
  have i4 := K0.out.1.x4
  have i5 := K0.out.1.x5
  have k0 := K0.out.2.1.x0
  have k1 := K0.out.2.1.x1
  have k2 := K0.out.2.1.x2
  have k3 := K0.out.2.1.x3
  have k4 := K0.out.2.1.x4
  have k5 := K0.out.2.1.x5
  go_wp2
  refine wp_loop_rounds 5 ?_
  clear i0 k0 i1 k1 i2 k2 i3 k3 i4 k4 i5 k5
  have ix := fun u => ix4_0 (.bool g1) (.slice A1 n1 c1) (.int .i64 e1) (.bool g3) (.slice A3 n3 c3) (.int .i64 e3) (.bool g1) (.slice A1 n1 c1) (.int .i64 e1) (.bool g4) (.slice A4 n4 c4) (.int .i64 e4) (.bool g2) (.slice A2 n2 c2) (.int .i64 e2) (.bool g3) (.slice A3 n3 c3) (.int .i64 e3) (.bool g2) (.slice A2 n2 c2) (.int .i64 e2) (.bool g4) (.slice A4 n4 c4) (.int .i64 e4) u
  rw [rounds_succ]
  replace K0 := Lib.hid (K0.out.below (below1 (w2.alloc (.cells #[.bool false, .slice none 0 0, .int .i64 0, .bool false, .slice none 0 0, .int .i64 0, .bool false, .slice none 0 0, .int .i64 0, .bool false, .slice none 0 0, .int .i64 0] 75)) (.cells #[.bool g1, .slice A1 n1 c1, .int .i64 e1, .bool g3, .slice A3 n3 c3, .int .i64 e3] 76)))
  have M0 := Lib.hid (dmul_any _ g1 A1 n1 c1 xs1 e1 g3 A3 n3 c3 xs3 e3 ((w2.alloc (.cells #[.bool false, .slice none 0 0, .int .i64 0, .bool false, .slice none 0 0, .int .i64 0, .bool false, .slice none 0 0, .int .i64 0, .bool false, .slice none 0 0, .int .i64 0] 75)).alloc (.cells #[.bool g1, .slice A1 n1 c1, .int .i64 e1, .bool g3, .slice A3 n3 c3, .int .i64 e3] 76)) K0.out.lims.1 K0.out.lims.2.2.1 (by omega) (by omega) K0.out.tab o0)
  go_wp2_with fail
  refine M0.out.mono ?_
  rintro e u0 ⟨G0, A0t, m0t, c0t, s0t, E0, r0, rfl, hm0, hl0, hb0, ⟨rfl, rfl, hz0, rfl⟩, hB⟩
  have bp := below1 u0 (.cells #[.bool m0.neg, .slice A0t m0t c0t, .int .i64 m0.e] 36)
  replace K0 := Lib.hid ((K0.out.below hB).below bp)
  have L0 : Hid ((Lim (u0.alloc (.cells #[.bool m0.neg, .slice A0t m0t c0t, .int .i64 m0.e] 36)) A0t m0t c0t s0t ∧ m0t ≤ 100000) ∧ Bare s0t ∧ val s0t = m0.V) := ⟨⟨hl0.below bp, by omega⟩, hb0, hz0⟩
  clear bp hB hl0 hb0 hz0 M0 o0
  obtain ⟨y0, y1, y2⟩ := K0.out.row.c0
  have yf := K0.out.row.fz
  go_wp2
  have K1 : Hid (HoldMI w g1 A1 n1 c1 xs1 e1 g2 A2 n2 c2 xs2 e2 g3 A3 n3 c3 xs3 e3 g4 A4 n4 c4 xs4 e4 w2.heap.size (q4 ⟨m0.neg, A0t, m0t, c0t, s0t, m0.e⟩ zCe zCe zCe) ((((u0.alloc (.cells #[.bool m0.neg, .slice A0t m0t c0t, .int .i64 m0.e] 36)).setCell ⟨w2.heap.size, 0, none⟩ (.bool m0.neg)).setCell ⟨w2.heap.size, 1, none⟩ (.slice A0t m0t c0t)).setCell ⟨w2.heap.size, 2, none⟩ (.int .i64 m0.e))) := K0.out.put0 (x := ⟨m0.neg, A0t, m0t, c0t, s0t, m0.e⟩) L0.out.1
  replace K0 := K1
  clear K1 y0 y1 y2 yf ix
  have ix := fun u => ix4_1 (.bool g1) (.slice A1 n1 c1) (.int .i64 e1) (.bool g3) (.slice A3 n3 c3) (.int .i64 e3) (.bool g1) (.slice A1 n1 c1) (.int .i64 e1) (.bool g4) (.slice A4 n4 c4) (.int .i64 e4) (.bool g2) (.slice A2 n2 c2) (.int .i64 e2) (.bool g3) (.slice A3 n3 c3) (.int .i64 e3) (.bool g2) (.slice A2 n2 c2) (.int .i64 e2) (.bool g4) (.slice A4 n4 c4) (.int .i64 e4) u
  rw [rounds_succ]
  replace K0 := Lib.hid (K0.out.below (below1 ((((u0.alloc (.cells #[.bool m0.neg, .slice A0t m0t c0t, .int .i64 m0.e] 36)).setCell ⟨w2.heap.size, 0, none⟩ (.bool m0.neg)).setCell ⟨w2.heap.size, 1, none⟩ (.slice A0t m0t c0t)).setCell ⟨w2.heap.size, 2, none⟩ (.int .i64 m0.e)) (.cells #[.bool g1, .slice A1 n1 c1, .int .i64 e1, .bool g4, .slice A4 n4 c4, .int .i64 e4] 76)))
  have M1 := Lib.hid (dmul_any _ g1 A1 n1 c1 xs1 e1 g4 A4 n4 c4 xs4 e4 (((((u0.alloc (.cells #[.bool m0.neg, .slice A0t m0t c0t, .int .i64 m0.e] 36)).setCell ⟨w2.heap.size, 0, none⟩ (.bool m0.neg)).setCell ⟨w2.heap.size, 1, none⟩ (.slice A0t m0t c0t)).setCell ⟨w2.heap.size, 2, none⟩ (.int .i64 m0.e)).alloc (.cells #[.bool g1, .slice A1 n1 c1, .int .i64 e1, .bool g4, .slice A4 n4 c4, .int .i64 e4] 76)) K0.out.lims.1 K0.out.lims.2.2.2 (by omega) (by omega) K0.out.tab o1)
  go_wp2_with fail
  refine M1.out.mono ?_
  rintro e u1 ⟨G1, A1t, m1t, c1t, s1t, E1, r1, rfl, hm1, hl1, hb1, ⟨rfl, rfl, hz1, rfl⟩, hB⟩
  have bp := below1 u1 (.cells #[.bool m1.neg, .slice A1t m1t c1t, .int .i64 m1.e] 36)
  replace K0 := Lib.hid ((K0.out.below hB).below bp)
  have L1 : Hid ((Lim (u1.alloc (.cells #[.bool m1.neg, .slice A1t m1t c1t, .int .i64 m1.e] 36)) A1t m1t c1t s1t ∧ m1t ≤ 100000) ∧ Bare s1t ∧ val s1t = m1.V) := ⟨⟨hl1.below bp, by omega⟩, hb1, hz1⟩
  clear bp hB hl1 hb1 hz1 M1 o1
  obtain ⟨y0, y1, y2⟩ := K0.out.row.c1
  have yf := K0.out.row.fz
  go_wp2
  have K1 : Hid (HoldMI w g1 A1 n1 c1 xs1 e1 g2 A2 n2 c2 xs2 e2 g3 A3 n3 c3 xs3 e3 g4 A4 n4 c4 xs4 e4 w2.heap.size (q4 ⟨m0.neg, A0t, m0t, c0t, s0t, m0.e⟩ ⟨m1.neg, A1t, m1t, c1t, s1t, m1.e⟩ zCe zCe) ((((u1.alloc (.cells #[.bool m1.neg, .slice A1t m1t c1t, .int .i64 m1.e] 36)).setCell ⟨w2.heap.size, 3, none⟩ (.bool m1.neg)).setCell ⟨w2.heap.size, 4, none⟩ (.slice A1t m1t c1t)).setCell ⟨w2.heap.size, 5, none⟩ (.int .i64 m1.e))) := K0.out.put1 (x := ⟨m1.neg, A1t, m1t, c1t, s1t, m1.e⟩) L1.out.1
  replace K0 := K1
  clear K1 y0 y1 y2 yf ix
  have ix := fun u => ix4_2 (.bool g1) (.slice A1 n1 c1) (.int .i64 e1) (.bool g3) (.slice A3 n3 c3) (.int .i64 e3) (.bool g1) (.slice A1 n1 c1) (.int .i64 e1) (.bool g4) (.slice A4 n4 c4) (.int .i64 e4) (.bool g2) (.slice A2 n2 c2) (.int .i64 e2) (.bool g3) (.slice A3 n3 c3) (.int .i64 e3) (.bool g2) (.slice A2 n2 c2) (.int .i64 e2) (.bool g4) (.slice A4 n4 c4) (.int .i64 e4) u
  rw [rounds_succ]
  replace K0 := Lib.hid (K0.out.below (below1 ((((u1.alloc (.cells #[.bool m1.neg, .slice A1t m1t c1t, .int .i64 m1.e] 36)).setCell ⟨w2.heap.size, 3, none⟩ (.bool m1.neg)).setCell ⟨w2.heap.size, 4, none⟩ (.slice A1t m1t c1t)).setCell ⟨w2.heap.size, 5, none⟩ (.int .i64 m1.e)) (.cells #[.bool g2, .slice A2 n2 c2, .int .i64 e2, .bool g3, .slice A3 n3 c3, .int .i64 e3] 76)))
  have M2 := Lib.hid (dmul_any _ g2 A2 n2 c2 xs2 e2 g3 A3 n3 c3 xs3 e3 (((((u1.alloc (.cells #[.bool m1.neg, .slice A1t m1t c1t, .int .i64 m1.e] 36)).setCell ⟨w2.heap.size, 3, none⟩ (.bool m1.neg)).setCell ⟨w2.heap.size, 4, none⟩ (.slice A1t m1t c1t)).setCell ⟨w2.heap.size, 5, none⟩ (.int .i64 m1.e)).alloc (.cells #[.bool g2, .slice A2 n2 c2, .int .i64 e2, .bool g3, .slice A3 n3 c3, .int .i64 e3] 76)) K0.out.lims.2.1 K0.out.lims.2.2.1 (by omega) (by omega) K0.out.tab o2)
  go_wp2_with fail
  refine M2.out.mono ?_
  rintro e u2 ⟨G2, A2t, m2t, c2t, s2t, E2, r2, rfl, hm2, hl2, hb2, ⟨rfl, rfl, hz2, rfl⟩, hB⟩
  have bp := below1 u2 (.cells #[.bool m2.neg, .slice A2t m2t c2t, .int .i64 m2.e] 36)
  replace K0 := Lib.hid ((K0.out.below hB).below bp)
  have L2 : Hid ((Lim (u2.alloc (.cells #[.bool m2.neg, .slice A2t m2t c2t, .int .i64 m2.e] 36)) A2t m2t c2t s2t ∧ m2t ≤ 100000) ∧ Bare s2t ∧ val s2t = m2.V) := ⟨⟨hl2.below bp, by omega⟩, hb2, hz2⟩
  clear bp hB hl2 hb2 hz2 M2 o2
  obtain ⟨y0, y1, y2⟩ := K0.out.row.c2
  have yf := K0.out.row.fz
  go_wp2
  have K1 : Hid (HoldMI w g1 A1 n1 c1 xs1 e1 g2 A2 n2 c2 xs2 e2 g3 A3 n3 c3 xs3 e3 g4 A4 n4 c4 xs4 e4 w2.heap.size (q4 ⟨m0.neg, A0t, m0t, c0t, s0t, m0.e⟩ ⟨m1.neg, A1t, m1t, c1t, s1t, m1.e⟩ ⟨m2.neg, A2t, m2t, c2t, s2t, m2.e⟩ zCe) ((((u2.alloc (.cells #[.bool m2.neg, .slice A2t m2t c2t, .int .i64 m2.e] 36)).setCell ⟨w2.heap.size, 6, none⟩ (.bool m2.neg)).setCell ⟨w2.heap.size, 7, none⟩ (.slice A2t m2t c2t)).setCell ⟨w2.heap.size, 8, none⟩ (.int .i64 m2.e))) := K0.out.put2 (x := ⟨m2.neg, A2t, m2t, c2t, s2t, m2.e⟩) L2.out.1
  replace K0 := K1
  clear K1 y0 y1 y2 yf ix
  have ix := fun u => ix4_3 (.bool g1) (.slice A1 n1 c1) (.int .i64 e1) (.bool g3) (.slice A3 n3 c3) (.int .i64 e3) (.bool g1) (.slice A1 n1 c1) (.int .i64 e1) (.bool g4) (.slice A4 n4 c4) (.int .i64 e4) (.bool g2) (.slice A2 n2 c2) (.int .i64 e2) (.bool g3) (.slice A3 n3 c3) (.int .i64 e3) (.bool g2) (.slice A2 n2 c2) (.int .i64 e2) (.bool g4) (.slice A4 n4 c4) (.int .i64 e4) u
  rw [rounds_succ]
  replace K0 := Lib.hid (K0.out.below (below1 ((((u2.alloc (.cells #[.bool m2.neg, .slice A2t m2t c2t, .int .i64 m2.e] 36)).setCell ⟨w2.heap.size, 6, none⟩ (.bool m2.neg)).setCell ⟨w2.heap.size, 7, none⟩ (.slice A2t m2t c2t)).setCell ⟨w2.heap.size, 8, none⟩ (.int .i64 m2.e)) (.cells #[.bool g2, .slice A2 n2 c2, .int .i64 e2, .bool g4, .slice A4 n4 c4, .int .i64 e4] 76)))
  have M3 := Lib.hid (dmul_any _ g2 A2 n2 c2 xs2 e2 g4 A4 n4 c4 xs4 e4 (((((u2.alloc (.cells #[.bool m2.neg, .slice A2t m2t c2t, .int .i64 m2.e] 36)).setCell ⟨w2.heap.size, 6, none⟩ (.bool m2.neg)).setCell ⟨w2.heap.size, 7, none⟩ (.slice A2t m2t c2t)).setCell ⟨w2.heap.size, 8, none⟩ (.int .i64 m2.e)).alloc (.cells #[.bool g2, .slice A2 n2 c2, .int .i64 e2, .bool g4, .slice A4 n4 c4, .int .i64 e4] 76)) K0.out.lims.2.1 K0.out.lims.2.2.2 (by omega) (by omega) K0.out.tab o3)
  go_wp2_with fail
  refine M3.out.mono ?_
  rintro e u3 ⟨G3, A3t, m3t, c3t, s3t, E3, r3, rfl, hm3, hl3, hb3, ⟨rfl, rfl, hz3, rfl⟩, hB⟩
  have bp := below1 u3 (.cells #[.bool m3.neg, .slice A3t m3t c3t, .int .i64 m3.e] 36)
  replace K0 := Lib.hid ((K0.out.below hB).below bp)
  have L3 : Hid ((Lim (u3.alloc (.cells #[.bool m3.neg, .slice A3t m3t c3t, .int .i64 m3.e] 36)) A3t m3t c3t s3t ∧ m3t ≤ 100000) ∧ Bare s3t ∧ val s3t = m3.V) := ⟨⟨hl3.below bp, by omega⟩, hb3, hz3⟩
  clear bp hB hl3 hb3 hz3 M3 o3
  obtain ⟨y0, y1, y2⟩ := K0.out.row.c3
  have yf := K0.out.row.fz
  go_wp2
  have K1 : Hid (HoldMI w g1 A1 n1 c1 xs1 e1 g2 A2 n2 c2 xs2 e2 g3 A3 n3 c3 xs3 e3 g4 A4 n4 c4 xs4 e4 w2.heap.size (q4 ⟨m0.neg, A0t, m0t, c0t, s0t, m0.e⟩ ⟨m1.neg, A1t, m1t, c1t, s1t, m1.e⟩ ⟨m2.neg, A2t, m2t, c2t, s2t, m2.e⟩ ⟨m3.neg, A3t, m3t, c3t, s3t, m3.e⟩) ((((u3.alloc (.cells #[.bool m3.neg, .slice A3t m3t c3t, .int .i64 m3.e] 36)).setCell ⟨w2.heap.size, 9, none⟩ (.bool m3.neg)).setCell ⟨w2.heap.size, 10, none⟩ (.slice A3t m3t c3t)).setCell ⟨w2.heap.size, 11, none⟩ (.int .i64 m3.e))) := K0.out.put3 (x := ⟨m3.neg, A3t, m3t, c3t, s3t, m3.e⟩) L3.out.1
  replace K0 := K1
  clear K1 y0 y1 y2 yf ix
  rw [rounds_succ]
  have MS := Lib.hid (sort4_l (q4 ⟨m0.neg, A0t, m0t, c0t, s0t, m0.e⟩ ⟨m1.neg, A1t, m1t, c1t, s1t, m1.e⟩ ⟨m2.neg, A2t, m2t, c2t, s2t, m2.e⟩ ⟨m3.neg, A3t, m3t, c3t, s3t, m3.e⟩) w2.heap.size 75 ((((u3.alloc (.cells #[.bool m3.neg, .slice A3t m3t c3t, .int .i64 m3.e] 36)).setCell ⟨w2.heap.size, 9, none⟩ (.bool m3.neg)).setCell ⟨w2.heap.size, 10, none⟩ (.slice A3t m3t c3t)).setCell ⟨w2.heap.size, 11, none⟩ (.int .i64 m3.e)) K0.out.row K0.out.2.2.2.2.1 K0.out.tab)
  go_wp2_with fail
  refine MS.out.mono ?_
  rintro e u9 ⟨rfl, p, hs, hu, h9⟩
  have HSRT : Hid (Same4 (q4 ⟨m0.neg, A0t, m0t, c0t, s0t, m0.e⟩ ⟨m1.neg, A1t, m1t, c1t, s1t, m1.e⟩ ⟨m2.neg, A2t, m2t, c2t, s2t, m2.e⟩ ⟨m3.neg, A3t, m3t, c3t, s3t, m3.e⟩) p ∧ Up 4 p) := ⟨hs, hu⟩
  have hr9 : Ib u9 (w.heap.size + 1 + 1) false none 0 0 0 false none 0 0 0 := by have h := K0.out.2.2.1; unfold Ib at h ⊢; rw [h9.2.2.2.block _ (by have := K0.out.ge; omega)]; exact h
  have ha9 : Below w.heap.size w u9 := K0.out.all.trans (h9.2.2.2.mono (by have := K0.out.ge; omega))
  have l9 := lim4_of h9.2.1 hs
  have bb9 : ∀ k, k < 4 → Bare ((q4 ⟨m0.neg, A0t, m0t, c0t, s0t, m0.e⟩ ⟨m1.neg, A1t, m1t, c1t, s1t, m1.e⟩ ⟨m2.neg, A2t, m2t, c2t, s2t, m2.e⟩ ⟨m3.neg, A3t, m3t, c3t, s3t, m3.e⟩) k).xs := fun k hk => by
    have h : k = 0 ∨ k = 1 ∨ k = 2 ∨ k = 3 := by omega
    rcases h with rfl | rfl | rfl | rfl
    · exact L0.out.2.1
    · exact L1.out.2.1
    · exact L2.out.2.1
    · exact L3.out.2.1
  have bp := same4_bare hs bb9
  have mv := mulv_of hs hu
  have ed0 : Ce.d ⟨m0.neg, A0t, m0t, c0t, s0t, m0.e⟩ = m0 := by show Dy.mk m0.neg (val s0t) m0.e = m0; rw [L0.out.2.2]
  have ed1 : Ce.d ⟨m1.neg, A1t, m1t, c1t, s1t, m1.e⟩ = m1 := by show Dy.mk m1.neg (val s1t) m1.e = m1; rw [L1.out.2.2]
  have ed2 : Ce.d ⟨m2.neg, A2t, m2t, c2t, s2t, m2.e⟩ = m2 := by show Dy.mk m2.neg (val s2t) m2.e = m2; rw [L2.out.2.2]
  have ed3 : Ce.d ⟨m3.neg, A3t, m3t, c3t, s3t, m3.e⟩ = m3 := by show Dy.mk m3.neg (val s3t) m3.e = m3; rw [L3.out.2.2]
  rw [ed0, ed1, ed2, ed3] at mv
  have Hfin : Hid (VTold w P0 (.returned (.tuple #[.agg #[.bool (p 0).g, .slice (p 0).A (p 0).n (p 0).c, .int .i64 (p 0).e, .bool (p 3).g, .slice (p 3).A (p 3).n (p 3).c, .int .i64 (p 3).e], .int .i64 0])) (World.put6 u9 (w.heap.size + 1 + 1) (p 0).g (p 0).A (p 0).n (p 0).c (p 0).e (p 3).g (p 3).A (p 3).n (p 3).c (p 3).e)) := ⟨(p 0).g, (p 0).A, (p 0).n, (p 0).c, (p 0).xs, (p 0).e, (p 3).g, (p 3).A, (p 3).n, (p 3).c, (p 3).xs, (p 3).e, 0, rfl, (l9 0 (by omega)).2, (l9 3 (by omega)).2, hr9.lim (l9 0 (by omega)).1 _ _ _ _ _ _ _ _ _ _, hr9.lim (l9 3 (by omega)).1 _ _ _ _ _ _ _ _ _ _, bp 0 (by omega), bp 3 (by omega), below_put6 ha9 (by omega) _ _ _ _ _ _ _ _ _ _, HP0.out _ _ _ _ mv⟩
  obtain ⟨y0, y1, y2⟩ := h9.1.c0
  obtain ⟨z0, z1, z2⟩ := h9.1.c3
  have u0x := hr9.x0
  have u1x := hr9.x1
  have u2x := hr9.x2
  have u3x := hr9.x3
  have u4x := hr9.x4
  have u5x := hr9.x5
  have uf := hr9.fz
  clear hr9 ha9 l9 bb9 bp mv ed0 ed1 ed2 ed3 K0 HSRT h9 hs hu MS HP0 L0 L1 L2 L3 HR3
  go_wp2
  exact bodyPost_ret (v := .tuple #[.agg #[.bool (p 0).g, .slice (p 0).A (p 0).n (p 0).c, .int .i64 (p 0).e, .bool (p 3).g, .slice (p 3).A (p 3).n (p 3).c, .int .i64 (p 3).e], .int .i64 0]) (by simp [results, Tryd.results13, go_sem, u0x, u1x, u2x, u3x, u4x, u5x]) rfl Hfin.out
end Go.Proofs.YtafgooiakmmfkaaDoor
