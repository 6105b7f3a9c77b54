/- The walk of planimeterref15.Ends: the least and the greatest of four products (written by law_iends.py). -/
import Derived.Test.YtafgooiakmmfkaaDoorIvMul
import Derived.Test.YtafgooiakmmfkaaDoorK5
namespace Go.Proofs.YtafgooiakmmfkaaDoor
open Go.RowKit

/-- Two numbers in one block of six cells. -/
def Sb (w : World) (b t : Nat) (g1 : Bool) (A1 : Option Addr) (m1 c1 : Nat) (e1 : Int) (g2 : Bool) (A2 : Option Addr) (m2 c2 : Nat) (e2 : Int) : Prop :=
  w.heap[b]? = some (.cells #[.bool g1, .slice A1 m1 c1, .int .i64 e1, .bool g2, .slice A2 m2 c2, .int .i64 e2] t)
/-- The upper one laid into such a block. -/
abbrev World.putE (w : World) (b : Nat) (g : Bool) (A : Option Addr) (n c : Nat) (e : Int) : World :=
  ((w.setCell ⟨b, 3, none⟩ (.bool g)).setCell ⟨b, 4, none⟩ (.slice A n c)).setCell ⟨b, 5, none⟩ (.int .i64 e)
theorem putE_heap (w : World) (b : Nat) (g : Bool) (A : Option Addr) (n c : Nat) (e : Int) (k : Nat) (hk : k ≠ b) : (World.putE w b g A n c e).heap[k]? = w.heap[k]? := by
  unfold World.putE
  rw [Below.heap_setCell _ _ _ _ hk, Below.heap_setCell _ _ _ _ hk, Below.heap_setCell _ _ _ _ hk]
theorem putE_size (w : World) (b : Nat) (g : Bool) (A : Option Addr) (n c : Nat) (e : Int) : (World.putE w b g A n c e).heap.size = w.heap.size := by
  simp [World.putE, World.setCell]
theorem putE_cell (w : World) (b : Nat) (g : Bool) (A : Option Addr) (n c : Nat) (e : Int) (p : Addr) (hp : p.block ≠ b) : (World.putE w b g A n c e).cell? p = w.cell? p :=
  World.cell?_of_block (w := w) (putE_heap w b g A n c e p.block hp)
theorem below_putE {B : Nat} {a w : World} (h : Below B a w) {b : Nat} (hb : B ≤ b) (g : Bool) (A : Option Addr) (n c : Nat) (e : Int) : Below B a (World.putE w b g A n c e) :=
  ((h.setCell (p := ⟨b, 3, none⟩) hb _).setCell (p := ⟨b, 4, none⟩) hb _).setCell (p := ⟨b, 5, none⟩) hb _
section
variable {w w' : World} {b t : Nat} {g1 : Bool} {A1 : Option Addr} {m1 c1 : Nat} {e1 : Int} {g2 : Bool} {A2 : Option Addr} {m2 c2 : Nat} {e2 : Int}
theorem Sb.lt (h : Sb w b t g1 A1 m1 c1 e1 g2 A2 m2 c2 e2) : b < w.heap.size := by
  rcases Nat.lt_or_ge b w.heap.size with h' | h'
  · exact h'
  · rw [Sb, Array.getElem?_eq_none h'] at h; cases h
theorem Sb.new (w : World) (t : Nat) (g1 : Bool) (A1 : Option Addr) (m1 c1 : Nat) (e1 : Int) (g2 : Bool) (A2 : Option Addr) (m2 c2 : Nat) (e2 : Int) : Sb (w.alloc (.cells #[.bool g1, .slice A1 m1 c1, .int .i64 e1, .bool g2, .slice A2 m2 c2, .int .i64 e2] t)) w.heap.size t g1 A1 m1 c1 e1 g2 A2 m2 c2 e2 := by
  show (w.heap.push _)[w.heap.size]? = _
  simp
theorem Sb.below (h : Sb w b t g1 A1 m1 c1 e1 g2 A2 m2 c2 e2) (hb : Below w.heap.size w w') : Sb w' b t g1 A1 m1 c1 e1 g2 A2 m2 c2 e2 := by
  rw [Sb, hb.block b h.lt]; exact h
theorem Sb.x0 (h : Sb w b t g1 A1 m1 c1 e1 g2 A2 m2 c2 e2) : w.cell? ⟨b, 0, none⟩ = some (.bool g1) := by simp [World.cell?, show w.heap[b]? = _ from h]
theorem Sb.x1 (h : Sb w b t g1 A1 m1 c1 e1 g2 A2 m2 c2 e2) : w.cell? ⟨b, 1, none⟩ = some (.slice A1 m1 c1) := by simp [World.cell?, show w.heap[b]? = _ from h]
theorem Sb.x2 (h : Sb w b t g1 A1 m1 c1 e1 g2 A2 m2 c2 e2) : w.cell? ⟨b, 2, none⟩ = some (.int .i64 e1) := by simp [World.cell?, show w.heap[b]? = _ from h]
theorem Sb.x3 (h : Sb w b t g1 A1 m1 c1 e1 g2 A2 m2 c2 e2) : w.cell? ⟨b, 3, none⟩ = some (.bool g2) := by simp [World.cell?, show w.heap[b]? = _ from h]
theorem Sb.x4 (h : Sb w b t g1 A1 m1 c1 e1 g2 A2 m2 c2 e2) : w.cell? ⟨b, 4, none⟩ = some (.slice A2 m2 c2) := by simp [World.cell?, show w.heap[b]? = _ from h]
theorem Sb.x5 (h : Sb w b t g1 A1 m1 c1 e1 g2 A2 m2 c2 e2) : w.cell? ⟨b, 5, none⟩ = some (.int .i64 e2) := by simp [World.cell?, show w.heap[b]? = _ from h]
theorem Sb.fz (h : Sb w b t g1 A1 m1 c1 e1 g2 A2 m2 c2 e2) (o : Nat) : w.frozen? ⟨b, o, none⟩ = false := by simp [World.frozen?, show w.heap[b]? = _ from h]
theorem Sb.all (h : Sb w b t g1 A1 m1 c1 e1 g2 A2 m2 c2 e2) : w.cell? ⟨b, 0, none⟩ = some (.bool g1) ∧ w.cell? ⟨b, 1, none⟩ = some (.slice A1 m1 c1) ∧ w.cell? ⟨b, 2, none⟩ = some (.int .i64 e1) ∧ w.cell? ⟨b, 3, none⟩ = some (.bool g2) ∧ w.cell? ⟨b, 4, none⟩ = some (.slice A2 m2 c2) ∧ w.cell? ⟨b, 5, none⟩ = some (.int .i64 e2) := ⟨h.x0, h.x1, h.x2, h.x3, h.x4, h.x5⟩
theorem Sb.not (h : Sb w b t g1 A1 m1 c1 e1 g2 A2 m2 c2 e2) {o : Nat} {k : IntKind} {z : Int} (hc : w.cell? ⟨b, o, none⟩ = some (.int k z)) : k = .i64 := by
  simp only [World.cell?, show w.heap[b]? = _ from h] at hc
  rcases o with _ | _ | _ | _ | _ | _ | o
  · simp at hc
  · simp at hc
  · simp at hc; exact hc.1.symm
  · simp at hc
  · simp at hc
  · simp at hc; exact hc.1.symm
  · simp at hc
theorem Sb.putL (h : Sb w b t g1 A1 m1 c1 e1 g2 A2 m2 c2 e2) (g' : Bool) (A' : Option Addr) (n' c' : Nat) (e' : Int) : Sb (World.put w b g' A' n' c' e') b t g' A' n' c' e' g2 A2 m2 c2 e2 := by
  unfold Sb at h ⊢
  unfold World.put
  simp [World.setCell, Array.getElem?_modify, h]
theorem Sb.putU (h : Sb w b t g1 A1 m1 c1 e1 g2 A2 m2 c2 e2) (g' : Bool) (A' : Option Addr) (n' c' : Nat) (e' : Int) : Sb (World.putE w b g' A' n' c' e') b t g1 A1 m1 c1 e1 g' A' n' c' e' := by
  unfold Sb at h ⊢
  unfold World.putE
  simp [World.setCell, Array.getElem?_modify, h]
theorem Sb.otherL (h : Sb w b t g1 A1 m1 c1 e1 g2 A2 m2 c2 e2) {b' : Nat} (hb : b ≠ b') (g' : Bool) (A' : Option Addr) (n' c' : Nat) (e' : Int) : Sb (World.put w b' g' A' n' c' e') b t g1 A1 m1 c1 e1 g2 A2 m2 c2 e2 := by
  unfold Sb; rw [put_heap _ _ _ _ _ _ _ _ hb]; exact h
theorem Sb.otherU (h : Sb w b t g1 A1 m1 c1 e1 g2 A2 m2 c2 e2) {b' : Nat} (hb : b ≠ b') (g' : Bool) (A' : Option Addr) (n' c' : Nat) (e' : Int) : Sb (World.putE w b' g' A' n' c' e') b t g1 A1 m1 c1 e1 g2 A2 m2 c2 e2 := by
  unfold Sb; rw [putE_heap _ _ _ _ _ _ _ _ hb]; exact h
theorem Sb.digL (h : Sb w b t g1 A1 m1 c1 e1 g2 A2 m2 c2 e2) {A : Option Addr} {n c : Nat} {ds : List Nat} (hA : Dig w A n c ds) (g' : Bool) (A' : Option Addr) (n' c' : Nat) (e' : Int) : Dig (World.put w b g' A' n' c' e') A n c ds :=
  ⟨⟨hA.1.1, hA.1.2.1, fun hn => by
    obtain ⟨k, o, ek, hk, hc⟩ := hA.at_ hn
    have hne : k ≠ b := by
      rintro rfl
      have := h.not (hc 0 hn)
      cases this
    exact ⟨k, o, ek, by rw [put_size]; exact hk, fun j hj => by rw [put_cell _ _ _ _ _ _ _ _ hne]; exact hc j hj⟩⟩, hA.2⟩
theorem Sb.digU (h : Sb w b t g1 A1 m1 c1 e1 g2 A2 m2 c2 e2) {A : Option Addr} {n c : Nat} {ds : List Nat} (hA : Dig w A n c ds) (g' : Bool) (A' : Option Addr) (n' c' : Nat) (e' : Int) : Dig (World.putE w b g' A' n' c' e') A n c ds :=
  ⟨⟨hA.1.1, hA.1.2.1, fun hn => by
    obtain ⟨k, o, ek, hk, hc⟩ := hA.at_ hn
    have hne : k ≠ b := by
      rintro rfl
      have := h.not (hc 0 hn)
      cases this
    exact ⟨k, o, ek, by rw [putE_size]; exact hk, fun j hj => by rw [putE_cell _ _ _ _ _ _ _ _ hne]; exact hc j hj⟩⟩, hA.2⟩
end
/-- Digits of a value. -/
def Mn15 (w : World) (V : Nat) (A : Option Addr) (m c : Nat) (es : List Nat) : Prop := Dig w A m c es ∧ D.Bare es ∧ D.val es = V
theorem Mn15.below {w w' : World} {V : Nat} {A : Option Addr} {m c : Nat} {es : List Nat} (h : Mn15 w V A m c es) (hb : Below w.heap.size w w') : Mn15 w' V A m c es := ⟨h.1.below hb, h.2⟩

/-- A list of four numbers in its block. -/
def Fb (w : World) (q : Nat) (g0 : Bool) (A0 : Option Addr) (n0 c0 : Nat) (E0 : Int) (g1 : Bool) (A1 : Option Addr) (n1 c1 : Nat) (E1 : Int) (g2 : Bool) (A2 : Option Addr) (n2 c2 : Nat) (E2 : Int) (g3 : Bool) (A3 : Option Addr) (n3 c3 : Nat) (E3 : Int) : Prop := w.heap[q]? = some (.cells #[.bool g0, .slice A0 n0 c0, .int .i64 E0, .bool g1, .slice A1 n1 c1, .int .i64 E1, .bool g2, .slice A2 n2 c2, .int .i64 E2, .bool g3, .slice A3 n3 c3, .int .i64 E3] 31)
section
variable {w w' : World} {q : Nat} {g0 : Bool} {A0 : Option Addr} {n0 c0 : Nat} {E0 : Int} {g1 : Bool} {A1 : Option Addr} {n1 c1 : Nat} {E1 : Int} {g2 : Bool} {A2 : Option Addr} {n2 c2 : Nat} {E2 : Int} {g3 : Bool} {A3 : Option Addr} {n3 c3 : Nat} {E3 : Int}
theorem Fb.lt (h : Fb w q g0 A0 n0 c0 E0 g1 A1 n1 c1 E1 g2 A2 n2 c2 E2 g3 A3 n3 c3 E3) : q < w.heap.size := by
  rcases Nat.lt_or_ge q w.heap.size with h' | h'
  · exact h'
  · rw [Fb, Array.getElem?_eq_none h'] at h; cases h
theorem Fb.new (w : World) (g0 : Bool) (A0 : Option Addr) (n0 c0 : Nat) (E0 : Int) (g1 : Bool) (A1 : Option Addr) (n1 c1 : Nat) (E1 : Int) (g2 : Bool) (A2 : Option Addr) (n2 c2 : Nat) (E2 : Int) (g3 : Bool) (A3 : Option Addr) (n3 c3 : Nat) (E3 : Int) : Fb (w.alloc (.cells #[.bool g0, .slice A0 n0 c0, .int .i64 E0, .bool g1, .slice A1 n1 c1, .int .i64 E1, .bool g2, .slice A2 n2 c2, .int .i64 E2, .bool g3, .slice A3 n3 c3, .int .i64 E3] 31)) w.heap.size g0 A0 n0 c0 E0 g1 A1 n1 c1 E1 g2 A2 n2 c2 E2 g3 A3 n3 c3 E3 := by
  show (w.heap.push _)[w.heap.size]? = _
  simp
theorem Fb.below (h : Fb w q g0 A0 n0 c0 E0 g1 A1 n1 c1 E1 g2 A2 n2 c2 E2 g3 A3 n3 c3 E3) (hb : Below w.heap.size w w') : Fb w' q g0 A0 n0 c0 E0 g1 A1 n1 c1 E1 g2 A2 n2 c2 E2 g3 A3 n3 c3 E3 := by
  rw [Fb, hb.block q h.lt]; exact h
theorem Fb.otherL (h : Fb w q g0 A0 n0 c0 E0 g1 A1 n1 c1 E1 g2 A2 n2 c2 E2 g3 A3 n3 c3 E3) {b' : Nat} (hb : q ≠ b') (g' : Bool) (A' : Option Addr) (n' c' : Nat) (e' : Int) : Fb (World.put w b' g' A' n' c' e') q g0 A0 n0 c0 E0 g1 A1 n1 c1 E1 g2 A2 n2 c2 E2 g3 A3 n3 c3 E3 := by
  unfold Fb; rw [put_heap _ _ _ _ _ _ _ _ hb]; exact h
theorem Fb.otherU (h : Fb w q g0 A0 n0 c0 E0 g1 A1 n1 c1 E1 g2 A2 n2 c2 E2 g3 A3 n3 c3 E3) {b' : Nat} (hb : q ≠ b') (g' : Bool) (A' : Option Addr) (n' c' : Nat) (e' : Int) : Fb (World.putE w b' g' A' n' c' e') q g0 A0 n0 c0 E0 g1 A1 n1 c1 E1 g2 A2 n2 c2 E2 g3 A3 n3 c3 E3 := by
  unfold Fb; rw [putE_heap _ _ _ _ _ _ _ _ hb]; exact h
theorem Fb.at0 (h : Fb w q g0 A0 n0 c0 E0 g1 A1 n1 c1 E1 g2 A2 n2 c2 E2 g3 A3 n3 c3 E3) : w.cell? ⟨q, 0, none⟩ = some (.bool g0) ∧ w.cell? ⟨q, 1, none⟩ = some (.slice A0 n0 c0) ∧ w.cell? ⟨q, 2, none⟩ = some (.int .i64 E0) :=
  ⟨by simp [World.cell?, show w.heap[q]? = _ from h], by simp [World.cell?, show w.heap[q]? = _ from h], by simp [World.cell?, show w.heap[q]? = _ from h]⟩
theorem Fb.at1 (h : Fb w q g0 A0 n0 c0 E0 g1 A1 n1 c1 E1 g2 A2 n2 c2 E2 g3 A3 n3 c3 E3) : w.cell? ⟨q, 3, none⟩ = some (.bool g1) ∧ w.cell? ⟨q, 4, none⟩ = some (.slice A1 n1 c1) ∧ w.cell? ⟨q, 5, none⟩ = some (.int .i64 E1) :=
  ⟨by simp [World.cell?, show w.heap[q]? = _ from h], by simp [World.cell?, show w.heap[q]? = _ from h], by simp [World.cell?, show w.heap[q]? = _ from h]⟩
theorem Fb.at2 (h : Fb w q g0 A0 n0 c0 E0 g1 A1 n1 c1 E1 g2 A2 n2 c2 E2 g3 A3 n3 c3 E3) : w.cell? ⟨q, 6, none⟩ = some (.bool g2) ∧ w.cell? ⟨q, 7, none⟩ = some (.slice A2 n2 c2) ∧ w.cell? ⟨q, 8, none⟩ = some (.int .i64 E2) :=
  ⟨by simp [World.cell?, show w.heap[q]? = _ from h], by simp [World.cell?, show w.heap[q]? = _ from h], by simp [World.cell?, show w.heap[q]? = _ from h]⟩
theorem Fb.at3 (h : Fb w q g0 A0 n0 c0 E0 g1 A1 n1 c1 E1 g2 A2 n2 c2 E2 g3 A3 n3 c3 E3) : w.cell? ⟨q, 9, none⟩ = some (.bool g3) ∧ w.cell? ⟨q, 10, none⟩ = some (.slice A3 n3 c3) ∧ w.cell? ⟨q, 11, none⟩ = some (.int .i64 E3) :=
  ⟨by simp [World.cell?, show w.heap[q]? = _ from h], by simp [World.cell?, show w.heap[q]? = _ from h], by simp [World.cell?, show w.heap[q]? = _ from h]⟩
end
@[go_sem] theorem run_four (v0 v1 v2 v3 v4 v5 v6 v7 v8 v9 v10 v11 : Value) (w : World) : (Instr.buildSlice 87 4 #[(0, .agg #[v0, v1, v2]), (1, .agg #[v3, v4, v5]), (2, .agg #[v6, v7, v8]), (3, .agg #[v9, v10, v11])]).run Tryd.prog w = .ok (.slice (some ⟨w.heap.size, 0, none⟩) 4 4) (w.alloc (.cells #[v0, v1, v2, v3, v4, v5, v6, v7, v8, v9, v10, v11] 31)) := by kernel_rfl
/-- What tells two numbers of such worths. -/
def EndsN (w : World) (Lg : Nat) (lo hi : Int) (e : Ending) (w' : World) : Prop :=
  ∃ g1 A1 m1 c1 ds E1 g2 A2 m2 c2 es E2, e = .returned (.agg #[.bool g1, .slice A1 m1 c1, .int .i64 E1, .bool g2, .slice A2 m2 c2, .int .i64 E2]) ∧ m1 ≤ Lg ∧ m2 ≤ Lg ∧ (Dig w' A1 m1 c1 ds ∧ D.Bare ds) ∧ (Dig w' A2 m2 c2 es ∧ D.Bare es) ∧ (dw g1 (D.val ds) E1 = lo ∧ -20000 ≤ E1 ∧ E1 ≤ 20000) ∧ (dw g2 (D.val es) E2 = hi ∧ -20000 ≤ E2 ∧ E2 ≤ 20000) ∧ Below w.heap.size w w'
/-- One of the numbers, by its worth. -/
def Wn (w : World) (Lg : Nat) (g : Bool) (A : Option Addr) (m c : Nat) (E p : Int) : Prop := ∃ ds, (Dig w A m c ds ∧ D.Bare ds) ∧ m ≤ Lg ∧ dw g (D.val ds) E = p ∧ -20000 ≤ E ∧ E ≤ 20000
theorem Wn.below {w w' : World} {Lg : Nat} {g : Bool} {A : Option Addr} {m c : Nat} {E p : Int} (h : Wn w Lg g A m c E p) (hb : Below w.heap.size w w') : Wn w' Lg g A m c E p := by
  obtain ⟨ds, h1, h2⟩ := h
  exact ⟨ds, ⟨h1.1.below hb, h1.2⟩, h2⟩
theorem pn_bounds {g k : Bool} {V U : Nat} {e f : Int} {o : Dy} (h : pN g V e k U f = o) (h1 : -10000 ≤ e) (h2 : e ≤ 10000) (h3 : -10000 ≤ f) (h4 : f ≤ 10000) : -20000 ≤ o.e ∧ o.e ≤ 20000 := by
  rw [← h]
  unfold pN
  split
  · exact ⟨by show -20000 ≤ (0 : Int); decide, by show (0 : Int) ≤ 20000; decide⟩
  · exact ⟨by show -20000 ≤ e + f; omega, by show e + f ≤ 20000; omega⟩

/-- The least of so many. -/
def mnP (p0 p1 p2 p3 : Int) (n : Nat) : Int := if n ≤ 1 then p0 else if n = 2 then min p0 p1 else if n = 3 then min (min p0 p1) p2 else min (min p0 p1) (min p2 p3)
def mxP (p0 p1 p2 p3 : Int) (n : Nat) : Int := if n ≤ 1 then p0 else if n = 2 then max p0 p1 else if n = 3 then max (max p0 p1) p2 else max (max p0 p1) (max p2 p3)
/-- What is held while the least and the greatest are sought. -/
def EndsR (w : World) (q r : Nat) (g0 : Bool) (A0 : Option Addr) (n0 c0 : Nat) (E0 : Int) (g1 : Bool) (A1 : Option Addr) (n1 c1 : Nat) (E1 : Int) (g2 : Bool) (A2 : Option Addr) (n2 c2 : Nat) (E2 : Int) (g3 : Bool) (A3 : Option Addr) (n3 c3 : Nat) (E3 : Int) (p0 p1 p2 p3 : Int) (k : Bool) (B : Option Addr) (m d : Nat) (F lo : Int) (k' : Bool) (B' : Option Addr) (m' d' : Nat) (F' hi : Int) (u : World) : Prop :=
  Below w.heap.size w u ∧ Sb u (w.heap.size + 1 + 1) 34 false none 0 0 0 false none 0 0 0 ∧ Fb u q g0 A0 n0 c0 E0 g1 A1 n1 c1 E1 g2 A2 n2 c2 E2 g3 A3 n3 c3 E3 ∧ (Wn u 601 g0 A0 n0 c0 E0 p0 ∧ Wn u 601 g1 A1 n1 c1 E1 p1 ∧ Wn u 601 g2 A2 n2 c2 E2 p2 ∧ Wn u 601 g3 A3 n3 c3 E3 p3) ∧ Sb u r 34 k B m d F k' B' m' d' F' ∧ (Wn u 601 k B m d F lo ∧ Wn u 601 k' B' m' d' F' hi) ∧ (w.heap.size + 1 + 1 < q ∧ q < r)
section
variable {w u u' : World} {q r : Nat} {g0 : Bool} {A0 : Option Addr} {n0 c0 : Nat} {E0 : Int} {g1 : Bool} {A1 : Option Addr} {n1 c1 : Nat} {E1 : Int} {g2 : Bool} {A2 : Option Addr} {n2 c2 : Nat} {E2 : Int} {g3 : Bool} {A3 : Option Addr} {n3 c3 : Nat} {E3 : Int} {p0 p1 p2 p3 : Int} {k : Bool} {B : Option Addr} {m d : Nat} {F lo : Int} {k' : Bool} {B' : Option Addr} {m' d' : Nat} {F' hi : Int}
theorem Wn.putL {t : Nat} {Lg : Nat} {g : Bool} {A : Option Addr} {n c : Nat} {E p : Int} (h : Wn u Lg g A n c E p) (hs : Sb u r t k B m d F k' B' m' d' F') (g' : Bool) (A' : Option Addr) (n' c' : Nat) (e' : Int) : Wn (World.put u r g' A' n' c' e') Lg g A n c E p := by
  obtain ⟨ds, h1, h2⟩ := h
  exact ⟨ds, ⟨hs.digL h1.1 _ _ _ _ _, h1.2⟩, h2⟩
theorem Wn.putU {t : Nat} {Lg : Nat} {g : Bool} {A : Option Addr} {n c : Nat} {E p : Int} (h : Wn u Lg g A n c E p) (hs : Sb u r t k B m d F k' B' m' d' F') (g' : Bool) (A' : Option Addr) (n' c' : Nat) (e' : Int) : Wn (World.putE u r g' A' n' c' e') Lg g A n c E p := by
  obtain ⟨ds, h1, h2⟩ := h
  exact ⟨ds, ⟨hs.digU h1.1 _ _ _ _ _, h1.2⟩, h2⟩
abbrev ER (w : World) (q r : Nat) (g0 : Bool) (A0 : Option Addr) (n0 c0 : Nat) (E0 : Int) (g1 : Bool) (A1 : Option Addr) (n1 c1 : Nat) (E1 : Int) (g2 : Bool) (A2 : Option Addr) (n2 c2 : Nat) (E2 : Int) (g3 : Bool) (A3 : Option Addr) (n3 c3 : Nat) (E3 : Int) (p0 p1 p2 p3 : Int) := EndsR w q r g0 A0 n0 c0 E0 g1 A1 n1 c1 E1 g2 A2 n2 c2 E2 g3 A3 n3 c3 E3 p0 p1 p2 p3
theorem EndsR.below (h : EndsR w q r g0 A0 n0 c0 E0 g1 A1 n1 c1 E1 g2 A2 n2 c2 E2 g3 A3 n3 c3 E3 p0 p1 p2 p3 k B m d F lo k' B' m' d' F' hi u) (hb : Below u.heap.size u u') : EndsR w q r g0 A0 n0 c0 E0 g1 A1 n1 c1 E1 g2 A2 n2 c2 E2 g3 A3 n3 c3 E3 p0 p1 p2 p3 k B m d F lo k' B' m' d' F' hi u' :=
  ⟨h.1.trans (hb.mono h.1.size), h.2.1.below hb, h.2.2.1.below hb, ⟨h.2.2.2.1.1.below hb, h.2.2.2.1.2.1.below hb, h.2.2.2.1.2.2.1.below hb, h.2.2.2.1.2.2.2.below hb⟩, h.2.2.2.2.1.below hb, ⟨h.2.2.2.2.2.1.1.below hb, h.2.2.2.2.2.1.2.below hb⟩, h.2.2.2.2.2.2⟩
theorem EndsR.putL (h : EndsR w q r g0 A0 n0 c0 E0 g1 A1 n1 c1 E1 g2 A2 n2 c2 E2 g3 A3 n3 c3 E3 p0 p1 p2 p3 k B m d F lo k' B' m' d' F' hi u) {g : Bool} {A : Option Addr} {n c : Nat} {E p : Int} (hw : Wn u 601 g A n c E p) : EndsR w q r g0 A0 n0 c0 E0 g1 A1 n1 c1 E1 g2 A2 n2 c2 E2 g3 A3 n3 c3 E3 p0 p1 p2 p3 g A n c E p k' B' m' d' F' hi (World.put u r g A n c E) := by
  obtain ⟨a1, a2, a3, ⟨a4, a5, a6, a7⟩, a8, ⟨a9, b1⟩, b2, b3⟩ := h
  exact ⟨below_put a1 (by omega) _ _ _ _ _, a2.otherL (by omega) _ _ _ _ _, a3.otherL (by omega) _ _ _ _ _, ⟨a4.putL a8 _ _ _ _ _, a5.putL a8 _ _ _ _ _, a6.putL a8 _ _ _ _ _, a7.putL a8 _ _ _ _ _⟩, a8.putL _ _ _ _ _, ⟨hw.putL a8 _ _ _ _ _, b1.putL a8 _ _ _ _ _⟩, b2, b3⟩
theorem EndsR.putU (h : EndsR w q r g0 A0 n0 c0 E0 g1 A1 n1 c1 E1 g2 A2 n2 c2 E2 g3 A3 n3 c3 E3 p0 p1 p2 p3 k B m d F lo k' B' m' d' F' hi u) {g : Bool} {A : Option Addr} {n c : Nat} {E p : Int} (hw : Wn u 601 g A n c E p) : EndsR w q r g0 A0 n0 c0 E0 g1 A1 n1 c1 E1 g2 A2 n2 c2 E2 g3 A3 n3 c3 E3 p0 p1 p2 p3 k B m d F lo g A n c E p (World.putE u r g A n c E) := by
  obtain ⟨a1, a2, a3, ⟨a4, a5, a6, a7⟩, a8, ⟨a9, b1⟩, b2, b3⟩ := h
  exact ⟨below_putE a1 (by omega) _ _ _ _ _, a2.otherU (by omega) _ _ _ _ _, a3.otherU (by omega) _ _ _ _ _, ⟨a4.putU a8 _ _ _ _ _, a5.putU a8 _ _ _ _ _, a6.putU a8 _ _ _ _ _, a7.putU a8 _ _ _ _ _⟩, a8.putU _ _ _ _ _, ⟨a9.putU a8 _ _ _ _ _, hw.putU a8 _ _ _ _ _⟩, b2, b3⟩
theorem wn_cmp {g : Bool} {A : Option Addr} {n c : Nat} {E p : Int} {g' : Bool} {A' : Option Addr} {n' c' : Nat} {E' p' : Int} (h : Wn u 601 g A n c E p) (h' : Wn u 601 g' A' n' c' E' p') :
    Calls Tryd.prog 10 #[.agg #[.bool g, .slice A n c, .int .i64 E], .agg #[.bool g', .slice A' n' c', .int .i64 E']] u fun e w' => e = .returned (.int .i64 (cmpI p p')) ∧ Below u.heap.size u w' := by
  obtain ⟨ds, h1, h2, h3, h4, h5⟩ := h
  obtain ⟨es, k1, k2, k3, k4, k5⟩ := h'
  exact gcmp_any _ g A n c ds E g' A' n' c' es E' u h1.1 k1.1 h1.2 k1.2 (by omega) (by omega) (by omega) (by omega) (by omega) (by omega) (by rw [h3, k3]; exact rfl)
theorem EndsR.done (h : EndsR w q r g0 A0 n0 c0 E0 g1 A1 n1 c1 E1 g2 A2 n2 c2 E2 g3 A3 n3 c3 E3 p0 p1 p2 p3 k B m d F lo k' B' m' d' F' hi u) : EndsN w 601 lo hi (.returned (.agg #[.bool k, .slice B m d, .int .i64 F, .bool k', .slice B' m' d', .int .i64 F'])) (World.putE (World.put u (w.heap.size + 1 + 1) k B m d F) (w.heap.size + 1 + 1) k' B' m' d' F') := by
  obtain ⟨a1, a2, a3, _, a8, ⟨⟨ds, h1, h2, h3, h4, h5⟩, ⟨es, k1, k2, k3, k4, k5⟩⟩, b2, b3⟩ := h
  have z := a2.putL k B m d F
  exact ⟨k, B, m, d, ds, F, k', B', m', d', es, F', rfl, h2, k2, ⟨z.digU (a2.digL h1.1 _ _ _ _ _) _ _ _ _ _, h1.2⟩, ⟨z.digU (a2.digL k1.1 _ _ _ _ _) _ _ _ _ _, k1.2⟩, ⟨h3, h4, h5⟩, ⟨k3, k4, k5⟩, below_putE (below_put a1 (by omega) _ _ _ _ _) (by omega) _ _ _ _ _⟩
end
theorem cmpI_below {a b : Int} : (cmpI a b < 0) ↔ a < b := by unfold cmpI; split <;> (try split) <;> omega
theorem cmpI_above {a b : Int} : (0 < cmpI a b) ↔ b < a := by unfold cmpI; split <;> (try split) <;> omega

set_option maxHeartbeats 8000000 in
set_option maxRecDepth 20000 in
theorem iends_l (g1 : Bool) (A1 : Option Addr) (n1 c1 : Nat) (d1 : List Nat) (e1 : Int) (g2 : Bool) (A2 : Option Addr) (n2 c2 : Nat) (d2 : List Nat) (e2 : Int) (k1 : Bool) (B1 : Option Addr) (m1 b1 : Nat) (s1 : List Nat) (f1 : Int) (k2 : Bool) (B2 : Option Addr) (m2 b2 : Nat) (s2 : List Nat) (f2 : Int) (w : World) (p0 p1 p2 p3 : Int)
    (h1 : Dig w A1 n1 c1 d1 ∧ D.Bare d1) (h2 : Dig w A2 n2 c2 d2 ∧ D.Bare d2) (h3 : Dig w B1 m1 b1 s1 ∧ D.Bare s1) (h4 : Dig w B2 m2 b2 s2 ∧ D.Bare s2) (l1 : n1 ≤ 300) (l2 : n2 ≤ 300) (l3 : m1 ≤ 300) (l4 : m2 ≤ 300)
    (he1 : -10000 ≤ e1 ∧ e1 ≤ 10000) (he2 : -10000 ≤ e2 ∧ e2 ≤ 10000) (hf1 : -10000 ≤ f1 ∧ f1 ≤ 10000) (hf2 : -10000 ≤ f2 ∧ f2 ≤ 10000)
    (hp0 : dw (pN g1 (D.val d1) e1 k1 (D.val s1) f1).neg (pN g1 (D.val d1) e1 k1 (D.val s1) f1).V (pN g1 (D.val d1) e1 k1 (D.val s1) f1).e = p0) (hp1 : dw (pN g1 (D.val d1) e1 k2 (D.val s2) f2).neg (pN g1 (D.val d1) e1 k2 (D.val s2) f2).V (pN g1 (D.val d1) e1 k2 (D.val s2) f2).e = p1) (hp2 : dw (pN g2 (D.val d2) e2 k1 (D.val s1) f1).neg (pN g2 (D.val d2) e2 k1 (D.val s1) f1).V (pN g2 (D.val d2) e2 k1 (D.val s1) f1).e = p2) (hp3 : dw (pN g2 (D.val d2) e2 k2 (D.val s2) f2).neg (pN g2 (D.val d2) e2 k2 (D.val s2) f2).V (pN g2 (D.val d2) e2 k2 (D.val s2) f2).e = p3) :
    Calls Tryd.prog 21 #[.agg #[.bool g1, .slice A1 n1 c1, .int .i64 e1, .bool g2, .slice A2 n2 c2, .int .i64 e2], .agg #[.bool k1, .slice B1 m1 b1, .int .i64 f1, .bool k2, .slice B2 m2 b2, .int .i64 f2]] w (EndsN w 601 (min (min p0 p1) (min p2 p3)) (max (max p0 p1) (max p2 p3))) := by
  obtain ⟨⟨r0, V0, E0⟩, ho0⟩ : ∃ o, pN g1 (D.val d1) e1 k1 (D.val s1) f1 = o := ⟨_, rfl⟩
  have hb0 := pn_bounds ho0 he1.1 he1.2 hf1.1 hf1.2
  rw [ho0] at hp0
  dsimp only at hp0 hb0
  obtain ⟨⟨r1, V1, E1⟩, ho1⟩ : ∃ o, pN g1 (D.val d1) e1 k2 (D.val s2) f2 = o := ⟨_, rfl⟩
  have hb1 := pn_bounds ho1 he1.1 he1.2 hf2.1 hf2.2
  rw [ho1] at hp1
  dsimp only at hp1 hb1
  obtain ⟨⟨r2, V2, E2⟩, ho2⟩ : ∃ o, pN g2 (D.val d2) e2 k1 (D.val s1) f1 = o := ⟨_, rfl⟩
  have hb2 := pn_bounds ho2 he2.1 he2.2 hf1.1 hf1.2
  rw [ho2] at hp2
  dsimp only at hp2 hb2
  obtain ⟨⟨r3, V3, E3⟩, ho3⟩ : ∃ o, pN g2 (D.val d2) e2 k2 (D.val s2) f2 = o := ⟨_, rfl⟩
  have hb3 := pn_bounds ho3 he2.1 he2.2 hf2.1 hf2.2
  rw [ho3] at hp3
  dsimp only at hp3 hb3
  obtain ⟨u1, hu1⟩ : ∃ u1, ((w.alloc (.cells #[.bool g1, .slice A1 n1 c1, .int .i64 e1, .bool g2, .slice A2 n2 c2, .int .i64 e2] 34)).alloc (.cells #[.bool k1, .slice B1 m1 b1, .int .i64 f1, .bool k2, .slice B2 m2 b2, .int .i64 f2] 34)).alloc (.cells #[.bool false, .slice none 0 0, .int .i64 0, .bool false, .slice none 0 0, .int .i64 0] 34) = u1 := ⟨_, rfl⟩
  have a3 : Below w.heap.size w u1 := hu1 ▸ (((Below.refl _ _).alloc (Nat.le_refl _) _).alloc (by simp) _).alloc (by simp; omega) _
  have i1 : Sb u1 w.heap.size 34 g1 A1 n1 c1 e1 g2 A2 n2 c2 e2 := by
    rw [← hu1]
    exact ((Sb.new w 34 g1 A1 n1 c1 e1 g2 A2 n2 c2 e2).below (below1 _ _)).below (below1 _ _)
  have i2 : Sb u1 (w.heap.size + 1) 34 k1 B1 m1 b1 f1 k2 B2 m2 b2 f2 := by
    have h := Sb.new (w.alloc (.cells #[.bool g1, .slice A1 n1 c1, .int .i64 e1, .bool g2, .slice A2 n2 c2, .int .i64 e2] 34)) 34 k1 B1 m1 b1 f1 k2 B2 m2 b2 f2
    rw [World.size_alloc] at h
    rw [← hu1]
    exact h.below (below1 _ _)
  have i3 : Sb u1 (w.heap.size + 1 + 1) 34 false none 0 0 0 false none 0 0 0 := by
    have h := Sb.new ((w.alloc (.cells #[.bool g1, .slice A1 n1 c1, .int .i64 e1, .bool g2, .slice A2 n2 c2, .int .i64 e2] 34)).alloc (.cells #[.bool k1, .slice B1 m1 b1, .int .i64 f1, .bool k2, .slice B2 m2 b2, .int .i64 f2] 34)) 34 false none 0 0 0 false none 0 0 0
    rw [World.size_alloc, World.size_alloc] at h
    rw [← hu1]
    exact h
  have HS := Lib.hid (And.intro a3 (And.intro i1 (And.intro i2 i3)))
  have HDg : Hid ((Dig u1 A1 n1 c1 d1 ∧ D.Bare d1) ∧ (Dig u1 A2 n2 c2 d2 ∧ D.Bare d2) ∧ (Dig u1 B1 m1 b1 s1 ∧ D.Bare s1) ∧ (Dig u1 B2 m2 b2 s2 ∧ D.Bare s2)) := ⟨⟨h1.1.below a3, h1.2⟩, ⟨h2.1.below a3, h2.2⟩, ⟨h3.1.below a3, h3.2⟩, ⟨h4.1.below a3, h4.2⟩⟩
  have C0 : Hid (∀ u, Below u1.heap.size u1 u → Calls Tryd.prog 48 #[.agg #[.bool g1, .slice A1 n1 c1, .int .i64 e1], .agg #[.bool k1, .slice B1 m1 b1, .int .i64 f1]] u (NTold u ⟨r0, V0, E0⟩ 601)) := fun u hu => by
    have h := imul_l g1 k1 A1 n1 c1 d1 e1 B1 m1 b1 s1 f1 u (HDg.out.1.1.below hu) (HDg.out.2.2.1.1.below hu) HDg.out.1.2 HDg.out.2.2.1.2 (by omega) (by omega) (by omega) (by omega) (by omega) (by omega)
    rw [ho0] at h
    exact h.mono fun e w' ⟨A, m, c, ds, k1, k2, k3⟩ => ⟨A, m, c, ds, k1, by omega, k3⟩
  have C1 : Hid (∀ u, Below u1.heap.size u1 u → Calls Tryd.prog 48 #[.agg #[.bool g1, .slice A1 n1 c1, .int .i64 e1], .agg #[.bool k2, .slice B2 m2 b2, .int .i64 f2]] u (NTold u ⟨r1, V1, E1⟩ 601)) := fun u hu => by
    have h := imul_l g1 k2 A1 n1 c1 d1 e1 B2 m2 b2 s2 f2 u (HDg.out.1.1.below hu) (HDg.out.2.2.2.1.below hu) HDg.out.1.2 HDg.out.2.2.2.2 (by omega) (by omega) (by omega) (by omega) (by omega) (by omega)
    rw [ho1] at h
    exact h.mono fun e w' ⟨A, m, c, ds, k1, k2, k3⟩ => ⟨A, m, c, ds, k1, by omega, k3⟩
  have C2 : Hid (∀ u, Below u1.heap.size u1 u → Calls Tryd.prog 48 #[.agg #[.bool g2, .slice A2 n2 c2, .int .i64 e2], .agg #[.bool k1, .slice B1 m1 b1, .int .i64 f1]] u (NTold u ⟨r2, V2, E2⟩ 601)) := fun u hu => by
    have h := imul_l g2 k1 A2 n2 c2 d2 e2 B1 m1 b1 s1 f1 u (HDg.out.2.1.1.below hu) (HDg.out.2.2.1.1.below hu) HDg.out.2.1.2 HDg.out.2.2.1.2 (by omega) (by omega) (by omega) (by omega) (by omega) (by omega)
    rw [ho2] at h
    exact h.mono fun e w' ⟨A, m, c, ds, k1, k2, k3⟩ => ⟨A, m, c, ds, k1, by omega, k3⟩
  have C3 : Hid (∀ u, Below u1.heap.size u1 u → Calls Tryd.prog 48 #[.agg #[.bool g2, .slice A2 n2 c2, .int .i64 e2], .agg #[.bool k2, .slice B2 m2 b2, .int .i64 f2]] u (NTold u ⟨r3, V3, E3⟩ 601)) := fun u hu => by
    have h := imul_l g2 k2 A2 n2 c2 d2 e2 B2 m2 b2 s2 f2 u (HDg.out.2.1.1.below hu) (HDg.out.2.2.2.1.below hu) HDg.out.2.1.2 HDg.out.2.2.2.2 (by omega) (by omega) (by omega) (by omega) (by omega) (by omega)
    rw [ho3] at h
    exact h.mono fun e w' ⟨A, m, c, ds, k1, k2, k3⟩ => ⟨A, m, c, ds, k1, by omega, k3⟩
  have HP : Hid ((dw r0 V0 E0 = p0 ∧ -20000 ≤ E0 ∧ E0 ≤ 20000) ∧ (dw r1 V1 E1 = p1 ∧ -20000 ≤ E1 ∧ E1 ≤ 20000) ∧ (dw r2 V2 E2 = p2 ∧ -20000 ≤ E2 ∧ E2 ≤ 20000) ∧ (dw r3 V3 E3 = p3 ∧ -20000 ≤ E3 ∧ E3 ≤ 20000)) := ⟨⟨hp0, hb0⟩, ⟨hp1, hb1⟩, ⟨hp2, hb2⟩, ⟨hp3, hb3⟩⟩
  have HW : Hid (∀ u, Below u1.heap.size u1 u → (u.cell? ⟨w.heap.size, 0, none⟩ = some (.bool g1) ∧ u.cell? ⟨w.heap.size, 1, none⟩ = some (.slice A1 n1 c1) ∧ u.cell? ⟨w.heap.size, 2, none⟩ = some (.int .i64 e1) ∧ u.cell? ⟨w.heap.size, 3, none⟩ = some (.bool g2) ∧ u.cell? ⟨w.heap.size, 4, none⟩ = some (.slice A2 n2 c2) ∧ u.cell? ⟨w.heap.size, 5, none⟩ = some (.int .i64 e2) ∧ u.cell? ⟨w.heap.size + 1, 0, none⟩ = some (.bool k1) ∧ u.cell? ⟨w.heap.size + 1, 1, none⟩ = some (.slice B1 m1 b1) ∧ u.cell? ⟨w.heap.size + 1, 2, none⟩ = some (.int .i64 f1) ∧ u.cell? ⟨w.heap.size + 1, 3, none⟩ = some (.bool k2) ∧ u.cell? ⟨w.heap.size + 1, 4, none⟩ = some (.slice B2 m2 b2) ∧ u.cell? ⟨w.heap.size + 1, 5, none⟩ = some (.int .i64 f2))) := fun u hu => ⟨(HS.out.2.1.below hu).x0, (HS.out.2.1.below hu).x1, (HS.out.2.1.below hu).x2, (HS.out.2.1.below hu).x3, (HS.out.2.1.below hu).x4, (HS.out.2.1.below hu).x5, (HS.out.2.2.1.below hu).x0, (HS.out.2.2.1.below hu).x1, (HS.out.2.2.1.below hu).x2, (HS.out.2.2.1.below hu).x3, (HS.out.2.2.1.below hu).x4, (HS.out.2.2.1.below hu).x5⟩
  have cur := Lib.hid (below_drew u1)
  clear h1 h2 h3 h4 he1 he2 hf1 hf2 hp0 hp1 hp2 hp3 hb0 hb1 hb2 hb3 ho0 ho1 ho2 ho3 a3 i1 i2 i3 l1 l2 l3 l4
  go_enter Tryd.func21, Tryd.ntmps21
  go_wp2_with fail
  go_cut [5] from 8 (fun s5 wx => ∃ (q n0 c0 n1 c1 n2 c2 n3 c3 : Nat) (A0 A1 A2 A3 : Option Addr), s5 = .slice (some ⟨q, 0, none⟩) 4 4 ∧ Hid (Below u1.heap.size u1 wx ∧ u1.heap.size ≤ q ∧ Fb wx q r0 A0 n0 c0 E0 r1 A1 n1 c1 E1 r2 A2 n2 c2 E2 r3 A3 n3 c3 E3 ∧ Wn wx 601 r0 A0 n0 c0 E0 p0 ∧ Wn wx 601 r1 A1 n1 c1 E1 p1 ∧ Wn wx 601 r2 A2 n2 c2 E2 p2 ∧ Wn wx 601 r3 A3 n3 c3 E3 p3))
  case first =>
    go_region_held3 (fun u => u.cell? ⟨w.heap.size, 0, none⟩ = some (.bool g1) ∧ u.cell? ⟨w.heap.size, 1, none⟩ = some (.slice A1 n1 c1) ∧ u.cell? ⟨w.heap.size, 2, none⟩ = some (.int .i64 e1) ∧ u.cell? ⟨w.heap.size, 3, none⟩ = some (.bool g2) ∧ u.cell? ⟨w.heap.size, 4, none⟩ = some (.slice A2 n2 c2) ∧ u.cell? ⟨w.heap.size, 5, none⟩ = some (.int .i64 e2) ∧ u.cell? ⟨w.heap.size + 1, 0, none⟩ = some (.bool k1) ∧ u.cell? ⟨w.heap.size + 1, 1, none⟩ = some (.slice B1 m1 b1) ∧ u.cell? ⟨w.heap.size + 1, 2, none⟩ = some (.int .i64 f1) ∧ u.cell? ⟨w.heap.size + 1, 3, none⟩ = some (.bool k2) ∧ u.cell? ⟨w.heap.size + 1, 4, none⟩ = some (.slice B2 m2 b2) ∧ u.cell? ⟨w.heap.size + 1, 5, none⟩ = some (.int .i64 f2)) (first | (with_reducible exact HW.out _ cur.out) | (with_reducible exact HW.out _ (cur.out.alloc cur.out.size _)))
      (first
        | (go_at_call 48; (with_reducible refine (C0.out _ cur.out).mono ?_); rintro e v0 ⟨X0, y0, z0, t0, rfl, hy0, hl0, hd0, hv0, hB⟩; replace cur := Lib.hid (cur.out.trans (hB.mono cur.out.size)); (first | (with_reducible (replace M1 := Lib.hid (M1.out.below hB))) | skip); (first | (with_reducible (replace M2 := Lib.hid (M2.out.below hB))) | skip); (first | (with_reducible (replace M3 := Lib.hid (M3.out.below hB))) | skip); dsimp only at hv0; have M0 : Hid (Wn v0 601 r0 X0 y0 z0 E0 p0) := ⟨t0, ⟨hl0, hd0⟩, hy0, by rw [hv0]; exact HP.out.1.1, HP.out.1.2⟩; clear hl0 hd0 hv0 hy0 hB)
        | (go_at_call 48; (with_reducible refine (C1.out _ cur.out).mono ?_); rintro e v1 ⟨X1, y1, z1, t1, rfl, hy1, hl1, hd1, hv1, hB⟩; replace cur := Lib.hid (cur.out.trans (hB.mono cur.out.size)); (first | (with_reducible (replace M0 := Lib.hid (M0.out.below hB))) | skip); (first | (with_reducible (replace M2 := Lib.hid (M2.out.below hB))) | skip); (first | (with_reducible (replace M3 := Lib.hid (M3.out.below hB))) | skip); dsimp only at hv1; have M1 : Hid (Wn v1 601 r1 X1 y1 z1 E1 p1) := ⟨t1, ⟨hl1, hd1⟩, hy1, by rw [hv1]; exact HP.out.2.1.1, HP.out.2.1.2⟩; clear hl1 hd1 hv1 hy1 hB)
        | (go_at_call 48; (with_reducible refine (C2.out _ cur.out).mono ?_); rintro e v2 ⟨X2, y2, z2, t2, rfl, hy2, hl2, hd2, hv2, hB⟩; replace cur := Lib.hid (cur.out.trans (hB.mono cur.out.size)); (first | (with_reducible (replace M0 := Lib.hid (M0.out.below hB))) | skip); (first | (with_reducible (replace M1 := Lib.hid (M1.out.below hB))) | skip); (first | (with_reducible (replace M3 := Lib.hid (M3.out.below hB))) | skip); dsimp only at hv2; have M2 : Hid (Wn v2 601 r2 X2 y2 z2 E2 p2) := ⟨t2, ⟨hl2, hd2⟩, hy2, by rw [hv2]; exact HP.out.2.2.1.1, HP.out.2.2.1.2⟩; clear hl2 hd2 hv2 hy2 hB)
        | (go_at_call 48; (with_reducible refine (C3.out _ cur.out).mono ?_); rintro e v3 ⟨X3, y3, z3, t3, rfl, hy3, hl3, hd3, hv3, hB⟩; replace cur := Lib.hid (cur.out.trans (hB.mono cur.out.size)); (first | (with_reducible (replace M0 := Lib.hid (M0.out.below hB))) | skip); (first | (with_reducible (replace M1 := Lib.hid (M1.out.below hB))) | skip); (first | (with_reducible (replace M2 := Lib.hid (M2.out.below hB))) | skip); dsimp only at hv3; have M3 : Hid (Wn v3 601 r3 X3 y3 z3 E3 p3) := ⟨t3, ⟨hl3, hd3⟩, hy3, by rw [hv3]; exact HP.out.2.2.2.1, HP.out.2.2.2.2⟩; clear hl3 hd3 hv3 hy3 hB))
    all_goals (go_wp2_with fail)
    all_goals go_meet
    all_goals (exact ⟨_, y0, z0, y1, z1, y2, z2, y3, z3, X0, X1, X2, X3, rfl, Lib.hid ⟨cur.out.alloc cur.out.size _, cur.out.size, Fb.new _ _ _ _ _ _ _ _ _ _ _ _ _ _ _ _ _ _ _ _ _, M0.out.below (below1 _ _), M1.out.below (below1 _ _), M2.out.below (below1 _ _), M3.out.below (below1 _ _)⟩⟩)
  case rest =>
    obtain ⟨u2, rfl⟩ : ∃ u2, u2 = wc := ⟨_, rfl⟩
    obtain ⟨q, n0, c0, n1', c1', n2', c2', n3, c3, D0, D1, D2, D3, rfl, HR⟩ := hcut
    have HS2 : Hid (Below w.heap.size w u2 ∧ Sb u2 (w.heap.size + 1 + 1) 34 false none 0 0 0 false none 0 0 0 ∧ w.heap.size + 1 + 1 < q) := ⟨HS.out.1.trans (HR.out.1.mono HS.out.1.size), HS.out.2.2.2.below HR.out.1, Nat.lt_of_lt_of_le HS.out.2.2.2.lt HR.out.2.1⟩
    have HFb : Hid (Fb u2 q r0 D0 n0 c0 E0 r1 D1 n1' c1' E1 r2 D2 n2' c2' E2 r3 D3 n3 c3 E3) := HR.out.2.2.1
    have HWn : Hid (Wn u2 601 r0 D0 n0 c0 E0 p0 ∧ Wn u2 601 r1 D1 n1' c1' E1 p1 ∧ Wn u2 601 r2 D2 n2' c2' E2 p2 ∧ Wn u2 601 r3 D3 n3 c3 E3 p3) := HR.out.2.2.2
    clear cur C0 C1 C2 C3 HW HS HDg HP HR hu1
    have cur := Lib.hid (below_drew u2)
    have HV : Hid (∀ u, Below u2.heap.size u2 u → u.cell? ⟨q, 0, none⟩ = some (.bool r0) ∧ u.cell? ⟨q, 1, none⟩ = some (.slice D0 n0 c0) ∧ u.cell? ⟨q, 2, none⟩ = some (.int .i64 E0)) := fun u hu => (HFb.out.below hu).at0
    go_wp2_with fail
    go_cut [6] from 29 (fun s6 wx => ∃ r : Nat, s6 = .pointer (some ⟨r, 0, none⟩) ∧ Hid (Below u2.heap.size u2 wx ∧ u2.heap.size ≤ r ∧ Sb wx r 34 r0 D0 n0 c0 E0 r0 D0 n0 c0 E0))
    case first =>
      go_region_held3 (fun u => u.cell? ⟨q, 0, none⟩ = some (.bool r0) ∧ u.cell? ⟨q, 1, none⟩ = some (.slice D0 n0 c0) ∧ u.cell? ⟨q, 2, none⟩ = some (.int .i64 E0)) (first | (with_reducible exact HV.out _ cur.out) | (with_reducible exact HV.out _ (cur.out.alloc cur.out.size _)) | (with_reducible exact HV.out _ (below1 u2 _).drew)) (first | fail)
      all_goals (go_wp2_with fail)
      all_goals go_meet
      all_goals (exact ⟨_, rfl, Lib.hid ⟨(below1 u2 _).drew, Nat.le_refl _, (Sb.new u2 _ _ _ _ _ _ _ _ _ _ _).below (below_drew _)⟩⟩)
    case rest =>
      obtain ⟨u3, rfl⟩ : ∃ u3, u3 = wc := ⟨_, rfl⟩
      obtain ⟨r, rfl, HR⟩ := hcut
      have H0 : Hid (EndsR w q r r0 D0 n0 c0 E0 r1 D1 n1' c1' E1 r2 D2 n2' c2' E2 r3 D3 n3 c3 E3 p0 p1 p2 p3 r0 D0 n0 c0 E0 p0 r0 D0 n0 c0 E0 p0 u3) := ⟨HS2.out.1.trans (HR.out.1.mono HS2.out.1.size), HS2.out.2.1.below HR.out.1, HFb.out.below HR.out.1, ⟨HWn.out.1.below HR.out.1, HWn.out.2.1.below HR.out.1, HWn.out.2.2.1.below HR.out.1, HWn.out.2.2.2.below HR.out.1⟩, HR.out.2.2, ⟨HWn.out.1.below HR.out.1, HWn.out.1.below HR.out.1⟩, HS2.out.2.2, Nat.lt_of_lt_of_le HFb.out.lt HR.out.2.1⟩
      clear HS2 HFb HWn HR HV cur
      go_wp2_with fail
      go_loopw [7] (fun nv wr => ∃ (n : Nat) (k : Bool) (B : Option Addr) (m d : Nat) (G : Int) (k' : Bool) (B' : Option Addr) (m' d' : Nat) (G' : Int), nv = .int .i64 n ∧ 1 ≤ n ∧ n ≤ 4 ∧ Hid (EndsR w q r r0 D0 n0 c0 E0 r1 D1 n1' c1' E1 r2 D2 n2' c2' E2 r3 D3 n3 c3 E3 p0 p1 p2 p3 k B m d G (mnP p0 p1 p2 p3 n) k' B' m' d' G' (mxP p0 p1 p2 p3 n) wr)) (fun nv _ => 4 - (intOf nv).toNat)
      case atStart => exact ⟨1, r0, D0, n0, c0, E0, r0, D0, n0, c0, E0, rfl, Nat.le_refl _, by decide, H0⟩
      case round =>
        obtain ⟨n, k, B, m, d, G, k', B', m', d', G', rfl, hn1, hn4, HE⟩ := hrel
        clear H0
        by_cases hq : n = 4
        · subst hq
          have x0 := HE.out.2.2.2.2.1.x0
          have x1 := HE.out.2.2.2.2.1.x1
          have x2 := HE.out.2.2.2.2.1.x2
          have x3 := HE.out.2.2.2.2.1.x3
          have x4 := HE.out.2.2.2.2.1.x4
          have x5 := HE.out.2.2.2.2.1.x5
          have y0 := HE.out.2.1.x0
          have y1 := HE.out.2.1.x1
          have y2 := HE.out.2.1.x2
          have y3 := HE.out.2.1.x3
          have y4 := HE.out.2.1.x4
          have y5 := HE.out.2.1.x5
          have yf := HE.out.2.1.fz
          have Hfin := Lib.hid HE.out.done
          have hz := (HE.out.2.1.putL k B m d G).putU k' B' m' d' G'
          have v0 := hz.x0
          have v1 := hz.x1
          have v2 := hz.x2
          have v3 := hz.x3
          have v4 := hz.x4
          have v5 := hz.x5
          clear hz HE
          go_wp2
          exact bodyPost_ret (v := .agg #[.bool k, .slice B m d, .int .i64 G, .bool k', .slice B' m' d', .int .i64 G']) (by simp [results, Tryd.results21, go_sem, v0, v1, v2, v3, v4, v5]) rfl Hfin.out
        · have hn : n = 1 ∨ n = 2 ∨ n = 3 := by omega
          clear hn1 hn4 hq
          rcases hn with rfl | rfl | rfl
          · obtain ⟨u9, rfl⟩ : ∃ u, u = wr := ⟨_, rfl⟩
            obtain ⟨b, hb⟩ : ∃ b, decide (p1 < mnP p0 p1 p2 p3 1) = b := ⟨_, rfl⟩
            have HBb := Lib.hid hb
            clear hb
            obtain ⟨v, hv⟩ : ∃ v, cmpI p1 (mnP p0 p1 p2 p3 1) = v := ⟨_, rfl⟩
            have tb : decide (v < 0) = b := by rw [← HBb.out, ← hv]; exact decide_eq_decide.2 cmpI_below
            have CC : Hid (∀ u, Below u9.heap.size u9 u → Calls Tryd.prog 10 #[.agg #[.bool r1, .slice D1 n1' c1', .int .i64 E1], .agg #[.bool k, .slice B m d, .int .i64 G]] u (fun e w' => e = .returned (.int .i64 v) ∧ Below u.heap.size u w')) := fun u hu => by rw [← hv]; exact wn_cmp ((HE.out.2.2.2.1.2.1).below hu) ((HE.out.2.2.2.2.2.1.1).below hu)
            clear hv
            have HV : Hid (∀ u, Below u9.heap.size u9 u → u.cell? ⟨q, 3, none⟩ = some (.bool r1) ∧ u.cell? ⟨q, 4, none⟩ = some (.slice D1 n1' c1') ∧ u.cell? ⟨q, 5, none⟩ = some (.int .i64 E1) ∧ u.cell? ⟨r, 0, none⟩ = some (.bool k) ∧ u.cell? ⟨r, 1, none⟩ = some (.slice B m d) ∧ u.cell? ⟨r, 2, none⟩ = some (.int .i64 G)) := fun u hu => ⟨(HE.out.2.2.1.below hu).at1.1, (HE.out.2.2.1.below hu).at1.2.1, (HE.out.2.2.1.below hu).at1.2.2, (HE.out.2.2.2.2.1.below hu).x0, (HE.out.2.2.2.2.1.below hu).x1, (HE.out.2.2.2.2.1.below hu).x2⟩
            have cur := Lib.hid (below_drew u9)
            go_wp2_with fail
            go_region_held3 (fun u => u.cell? ⟨q, 3, none⟩ = some (.bool r1) ∧ u.cell? ⟨q, 4, none⟩ = some (.slice D1 n1' c1') ∧ u.cell? ⟨q, 5, none⟩ = some (.int .i64 E1) ∧ u.cell? ⟨r, 0, none⟩ = some (.bool k) ∧ u.cell? ⟨r, 1, none⟩ = some (.slice B m d) ∧ u.cell? ⟨r, 2, none⟩ = some (.int .i64 G)) (first | (with_reducible exact HV.out _ cur.out)) (first | (go_at_call 10; (with_reducible refine (CC.out _ cur.out).mono ?_); rintro e z1 ⟨rfl, hB⟩; replace cur := Lib.hid (cur.out.trans (hB.mono cur.out.size)); clear hB))
            clear CC HV
            replace HE := Lib.hid (HE.out.below cur.out)
            clear cur
            cases b
            · skip
              clear tb
              go_wp2_with fail
              obtain ⟨zz, rfl⟩ : ∃ z, z = z1 := ⟨_, rfl⟩
              have PL := Lib.hid (show mnP p0 p1 p2 p3 1 = mnP p0 p1 p2 p3 2 by have h := of_decide_eq_false HBb.out; simp [mnP] at h ⊢; omega)
              clear HBb
              obtain ⟨bq, hb⟩ : ∃ b, decide (mxP p0 p1 p2 p3 1 < p1) = b := ⟨_, rfl⟩
              have HBq := Lib.hid hb
              clear hb
              obtain ⟨vq, hv⟩ : ∃ v, cmpI p1 (mxP p0 p1 p2 p3 1) = v := ⟨_, rfl⟩
              have tq : decide (0 < vq) = bq := by rw [← HBq.out, ← hv]; exact decide_eq_decide.2 cmpI_above
              have CC : Hid (∀ u, Below zz.heap.size zz u → Calls Tryd.prog 10 #[.agg #[.bool r1, .slice D1 n1' c1', .int .i64 E1], .agg #[.bool k', .slice B' m' d', .int .i64 G']] u (fun e w' => e = .returned (.int .i64 vq) ∧ Below u.heap.size u w')) := fun u hu => by rw [← hv]; exact wn_cmp ((HE.out.2.2.2.1.2.1).below hu) ((HE.out.2.2.2.2.2.1.2).below hu)
              clear hv
              have HV : Hid (∀ u, Below zz.heap.size zz u → u.cell? ⟨q, 3, none⟩ = some (.bool r1) ∧ u.cell? ⟨q, 4, none⟩ = some (.slice D1 n1' c1') ∧ u.cell? ⟨q, 5, none⟩ = some (.int .i64 E1) ∧ u.cell? ⟨r, 3, none⟩ = some (.bool k') ∧ u.cell? ⟨r, 4, none⟩ = some (.slice B' m' d') ∧ u.cell? ⟨r, 5, none⟩ = some (.int .i64 G')) := fun u hu => ⟨(HE.out.2.2.1.below hu).at1.1, (HE.out.2.2.1.below hu).at1.2.1, (HE.out.2.2.1.below hu).at1.2.2, (HE.out.2.2.2.2.1.below hu).x3, (HE.out.2.2.2.2.1.below hu).x4, (HE.out.2.2.2.2.1.below hu).x5⟩
              have cur := Lib.hid (below_drew zz)
              go_wp2_with fail
              go_region_held3 (fun u => u.cell? ⟨q, 3, none⟩ = some (.bool r1) ∧ u.cell? ⟨q, 4, none⟩ = some (.slice D1 n1' c1') ∧ u.cell? ⟨q, 5, none⟩ = some (.int .i64 E1) ∧ u.cell? ⟨r, 3, none⟩ = some (.bool k') ∧ u.cell? ⟨r, 4, none⟩ = some (.slice B' m' d') ∧ u.cell? ⟨r, 5, none⟩ = some (.int .i64 G')) (first | (with_reducible exact HV.out _ cur.out)) (first | (go_at_call 10; (with_reducible refine (CC.out _ cur.out).mono ?_); rintro e z3 ⟨rfl, hB⟩; replace cur := Lib.hid (cur.out.trans (hB.mono cur.out.size)); clear hB))
              clear CC HV
              replace HE := Lib.hid (HE.out.below cur.out)
              clear cur
              cases bq
              · skip
                have HE2 := HE
                have PH : mxP p0 p1 p2 p3 1 = mxP p0 p1 p2 p3 2 := by have h := of_decide_eq_false HBq.out; simp [mxP] at h ⊢; omega
                have PH2 := Lib.hid PH
                clear PH HBq
                go_wp2
                go_roundw
                case rel => exact ⟨2, k, B, m, d, G, k', B', m', d', G', rfl, by decide, by decide, by rw [← PL.out, ← PH2.out]; exact HE2⟩
                case measure => simp [intOf]
              · skip
                have y0 := HE.out.2.2.1.at1.1
                have y1 := HE.out.2.2.1.at1.2.1
                have y2 := HE.out.2.2.1.at1.2.2
                have zc0 := HE.out.2.2.2.2.1.x0
                have zc1 := HE.out.2.2.2.2.1.x1
                have zc2 := HE.out.2.2.2.2.1.x2
                have zc3 := HE.out.2.2.2.2.1.x3
                have zc4 := HE.out.2.2.2.2.1.x4
                have zc5 := HE.out.2.2.2.2.1.x5
                have zcf := HE.out.2.2.2.2.1.fz
                have HE2 := Lib.hid (HE.out.putU (HE.out.2.2.2.1.2.1))
                clear HE
                have PH : p1 = mxP p0 p1 p2 p3 2 := by have h := of_decide_eq_true HBq.out; simp [mxP] at h ⊢; omega
                have PH2 := Lib.hid PH
                clear PH HBq
                go_wp2
                go_roundw
                case rel => exact ⟨2, k, B, m, d, G, r1, D1, n1', c1', E1, rfl, by decide, by decide, by rw [← PL.out, ← PH2.out]; exact HE2⟩
                case measure => simp [intOf]
            · skip
              have y0 := HE.out.2.2.1.at1.1
              have y1 := HE.out.2.2.1.at1.2.1
              have y2 := HE.out.2.2.1.at1.2.2
              have zc0 := HE.out.2.2.2.2.1.x0
              have zc1 := HE.out.2.2.2.2.1.x1
              have zc2 := HE.out.2.2.2.2.1.x2
              have zc3 := HE.out.2.2.2.2.1.x3
              have zc4 := HE.out.2.2.2.2.1.x4
              have zc5 := HE.out.2.2.2.2.1.x5
              have zcf := HE.out.2.2.2.2.1.fz
              have HE2 := Lib.hid (HE.out.putL (HE.out.2.2.2.1.2.1))
              clear HE tb
              go_wp2_with fail
              clear y0 y1 y2 zc0 zc1 zc2 zc3 zc4 zc5 zcf
              obtain ⟨zz, hzz⟩ : ∃ z, ((z1.setCell ⟨r, 0, none⟩ (.bool r1)).setCell ⟨r, 1, none⟩ (.slice D1 n1' c1')).setCell ⟨r, 2, none⟩ (.int .i64 E1) = z := ⟨_, rfl⟩
              rw [hzz]
              have HE : Hid (EndsR w q r r0 D0 n0 c0 E0 r1 D1 n1' c1' E1 r2 D2 n2' c2' E2 r3 D3 n3 c3 E3 p0 p1 p2 p3 r1 D1 n1' c1' E1 p1 k' B' m' d' G' (mxP p0 p1 p2 p3 1) zz) := by rw [← hzz]; exact HE2.out
              clear HE2 hzz
              have PL := Lib.hid (show p1 = mnP p0 p1 p2 p3 2 by have h := of_decide_eq_true HBb.out; simp [mnP] at h ⊢; omega)
              clear HBb
              obtain ⟨bq, hb⟩ : ∃ b, decide (mxP p0 p1 p2 p3 1 < p1) = b := ⟨_, rfl⟩
              have HBq := Lib.hid hb
              clear hb
              obtain ⟨vq, hv⟩ : ∃ v, cmpI p1 (mxP p0 p1 p2 p3 1) = v := ⟨_, rfl⟩
              have tq : decide (0 < vq) = bq := by rw [← HBq.out, ← hv]; exact decide_eq_decide.2 cmpI_above
              have CC : Hid (∀ u, Below zz.heap.size zz u → Calls Tryd.prog 10 #[.agg #[.bool r1, .slice D1 n1' c1', .int .i64 E1], .agg #[.bool k', .slice B' m' d', .int .i64 G']] u (fun e w' => e = .returned (.int .i64 vq) ∧ Below u.heap.size u w')) := fun u hu => by rw [← hv]; exact wn_cmp ((HE.out.2.2.2.1.2.1).below hu) ((HE.out.2.2.2.2.2.1.2).below hu)
              clear hv
              have HV : Hid (∀ u, Below zz.heap.size zz u → u.cell? ⟨q, 3, none⟩ = some (.bool r1) ∧ u.cell? ⟨q, 4, none⟩ = some (.slice D1 n1' c1') ∧ u.cell? ⟨q, 5, none⟩ = some (.int .i64 E1) ∧ u.cell? ⟨r, 3, none⟩ = some (.bool k') ∧ u.cell? ⟨r, 4, none⟩ = some (.slice B' m' d') ∧ u.cell? ⟨r, 5, none⟩ = some (.int .i64 G')) := fun u hu => ⟨(HE.out.2.2.1.below hu).at1.1, (HE.out.2.2.1.below hu).at1.2.1, (HE.out.2.2.1.below hu).at1.2.2, (HE.out.2.2.2.2.1.below hu).x3, (HE.out.2.2.2.2.1.below hu).x4, (HE.out.2.2.2.2.1.below hu).x5⟩
              have cur := Lib.hid (below_drew zz)
              go_wp2_with fail
              go_region_held3 (fun u => u.cell? ⟨q, 3, none⟩ = some (.bool r1) ∧ u.cell? ⟨q, 4, none⟩ = some (.slice D1 n1' c1') ∧ u.cell? ⟨q, 5, none⟩ = some (.int .i64 E1) ∧ u.cell? ⟨r, 3, none⟩ = some (.bool k') ∧ u.cell? ⟨r, 4, none⟩ = some (.slice B' m' d') ∧ u.cell? ⟨r, 5, none⟩ = some (.int .i64 G')) (first | (with_reducible exact HV.out _ cur.out)) (first | (go_at_call 10; (with_reducible refine (CC.out _ cur.out).mono ?_); rintro e z3 ⟨rfl, hB⟩; replace cur := Lib.hid (cur.out.trans (hB.mono cur.out.size)); clear hB))
              clear CC HV
              replace HE := Lib.hid (HE.out.below cur.out)
              clear cur
              cases bq
              · skip
                have HE2 := HE
                have PH : mxP p0 p1 p2 p3 1 = mxP p0 p1 p2 p3 2 := by have h := of_decide_eq_false HBq.out; simp [mxP] at h ⊢; omega
                have PH2 := Lib.hid PH
                clear PH HBq
                go_wp2
                go_roundw
                case rel => exact ⟨2, r1, D1, n1', c1', E1, k', B', m', d', G', rfl, by decide, by decide, by rw [← PL.out, ← PH2.out]; exact HE2⟩
                case measure => simp [intOf]
              · skip
                have y0 := HE.out.2.2.1.at1.1
                have y1 := HE.out.2.2.1.at1.2.1
                have y2 := HE.out.2.2.1.at1.2.2
                have zc0 := HE.out.2.2.2.2.1.x0
                have zc1 := HE.out.2.2.2.2.1.x1
                have zc2 := HE.out.2.2.2.2.1.x2
                have zc3 := HE.out.2.2.2.2.1.x3
                have zc4 := HE.out.2.2.2.2.1.x4
                have zc5 := HE.out.2.2.2.2.1.x5
                have zcf := HE.out.2.2.2.2.1.fz
                have HE2 := Lib.hid (HE.out.putU (HE.out.2.2.2.1.2.1))
                clear HE
                have PH : p1 = mxP p0 p1 p2 p3 2 := by have h := of_decide_eq_true HBq.out; simp [mxP] at h ⊢; omega
                have PH2 := Lib.hid PH
                clear PH HBq
                go_wp2
                go_roundw
                case rel => exact ⟨2, r1, D1, n1', c1', E1, r1, D1, n1', c1', E1, rfl, by decide, by decide, by rw [← PL.out, ← PH2.out]; exact HE2⟩
                case measure => simp [intOf]
          · obtain ⟨u9, rfl⟩ : ∃ u, u = wr := ⟨_, rfl⟩
            obtain ⟨b, hb⟩ : ∃ b, decide (p2 < mnP p0 p1 p2 p3 2) = b := ⟨_, rfl⟩
            have HBb := Lib.hid hb
            clear hb
            obtain ⟨v, hv⟩ : ∃ v, cmpI p2 (mnP p0 p1 p2 p3 2) = v := ⟨_, rfl⟩
            have tb : decide (v < 0) = b := by rw [← HBb.out, ← hv]; exact decide_eq_decide.2 cmpI_below
            have CC : Hid (∀ u, Below u9.heap.size u9 u → Calls Tryd.prog 10 #[.agg #[.bool r2, .slice D2 n2' c2', .int .i64 E2], .agg #[.bool k, .slice B m d, .int .i64 G]] u (fun e w' => e = .returned (.int .i64 v) ∧ Below u.heap.size u w')) := fun u hu => by rw [← hv]; exact wn_cmp ((HE.out.2.2.2.1.2.2.1).below hu) ((HE.out.2.2.2.2.2.1.1).below hu)
            clear hv
            have HV : Hid (∀ u, Below u9.heap.size u9 u → u.cell? ⟨q, 6, none⟩ = some (.bool r2) ∧ u.cell? ⟨q, 7, none⟩ = some (.slice D2 n2' c2') ∧ u.cell? ⟨q, 8, none⟩ = some (.int .i64 E2) ∧ u.cell? ⟨r, 0, none⟩ = some (.bool k) ∧ u.cell? ⟨r, 1, none⟩ = some (.slice B m d) ∧ u.cell? ⟨r, 2, none⟩ = some (.int .i64 G)) := fun u hu => ⟨(HE.out.2.2.1.below hu).at2.1, (HE.out.2.2.1.below hu).at2.2.1, (HE.out.2.2.1.below hu).at2.2.2, (HE.out.2.2.2.2.1.below hu).x0, (HE.out.2.2.2.2.1.below hu).x1, (HE.out.2.2.2.2.1.below hu).x2⟩
            have cur := Lib.hid (below_drew u9)
            go_wp2_with fail
            go_region_held3 (fun u => u.cell? ⟨q, 6, none⟩ = some (.bool r2) ∧ u.cell? ⟨q, 7, none⟩ = some (.slice D2 n2' c2') ∧ u.cell? ⟨q, 8, none⟩ = some (.int .i64 E2) ∧ u.cell? ⟨r, 0, none⟩ = some (.bool k) ∧ u.cell? ⟨r, 1, none⟩ = some (.slice B m d) ∧ u.cell? ⟨r, 2, none⟩ = some (.int .i64 G)) (first | (with_reducible exact HV.out _ cur.out)) (first | (go_at_call 10; (with_reducible refine (CC.out _ cur.out).mono ?_); rintro e z1 ⟨rfl, hB⟩; replace cur := Lib.hid (cur.out.trans (hB.mono cur.out.size)); clear hB))
            clear CC HV
            replace HE := Lib.hid (HE.out.below cur.out)
            clear cur
            cases b
            · skip
              clear tb
              go_wp2_with fail
              obtain ⟨zz, rfl⟩ : ∃ z, z = z1 := ⟨_, rfl⟩
              have PL := Lib.hid (show mnP p0 p1 p2 p3 2 = mnP p0 p1 p2 p3 3 by have h := of_decide_eq_false HBb.out; simp [mnP] at h ⊢; omega)
              clear HBb
              obtain ⟨bq, hb⟩ : ∃ b, decide (mxP p0 p1 p2 p3 2 < p2) = b := ⟨_, rfl⟩
              have HBq := Lib.hid hb
              clear hb
              obtain ⟨vq, hv⟩ : ∃ v, cmpI p2 (mxP p0 p1 p2 p3 2) = v := ⟨_, rfl⟩
              have tq : decide (0 < vq) = bq := by rw [← HBq.out, ← hv]; exact decide_eq_decide.2 cmpI_above
              have CC : Hid (∀ u, Below zz.heap.size zz u → Calls Tryd.prog 10 #[.agg #[.bool r2, .slice D2 n2' c2', .int .i64 E2], .agg #[.bool k', .slice B' m' d', .int .i64 G']] u (fun e w' => e = .returned (.int .i64 vq) ∧ Below u.heap.size u w')) := fun u hu => by rw [← hv]; exact wn_cmp ((HE.out.2.2.2.1.2.2.1).below hu) ((HE.out.2.2.2.2.2.1.2).below hu)
              clear hv
              have HV : Hid (∀ u, Below zz.heap.size zz u → u.cell? ⟨q, 6, none⟩ = some (.bool r2) ∧ u.cell? ⟨q, 7, none⟩ = some (.slice D2 n2' c2') ∧ u.cell? ⟨q, 8, none⟩ = some (.int .i64 E2) ∧ u.cell? ⟨r, 3, none⟩ = some (.bool k') ∧ u.cell? ⟨r, 4, none⟩ = some (.slice B' m' d') ∧ u.cell? ⟨r, 5, none⟩ = some (.int .i64 G')) := fun u hu => ⟨(HE.out.2.2.1.below hu).at2.1, (HE.out.2.2.1.below hu).at2.2.1, (HE.out.2.2.1.below hu).at2.2.2, (HE.out.2.2.2.2.1.below hu).x3, (HE.out.2.2.2.2.1.below hu).x4, (HE.out.2.2.2.2.1.below hu).x5⟩
              have cur := Lib.hid (below_drew zz)
              go_wp2_with fail
              go_region_held3 (fun u => u.cell? ⟨q, 6, none⟩ = some (.bool r2) ∧ u.cell? ⟨q, 7, none⟩ = some (.slice D2 n2' c2') ∧ u.cell? ⟨q, 8, none⟩ = some (.int .i64 E2) ∧ u.cell? ⟨r, 3, none⟩ = some (.bool k') ∧ u.cell? ⟨r, 4, none⟩ = some (.slice B' m' d') ∧ u.cell? ⟨r, 5, none⟩ = some (.int .i64 G')) (first | (with_reducible exact HV.out _ cur.out)) (first | (go_at_call 10; (with_reducible refine (CC.out _ cur.out).mono ?_); rintro e z3 ⟨rfl, hB⟩; replace cur := Lib.hid (cur.out.trans (hB.mono cur.out.size)); clear hB))
              clear CC HV
              replace HE := Lib.hid (HE.out.below cur.out)
              clear cur
              cases bq
              · skip
                have HE2 := HE
                have PH : mxP p0 p1 p2 p3 2 = mxP p0 p1 p2 p3 3 := by have h := of_decide_eq_false HBq.out; simp [mxP] at h ⊢; omega
                have PH2 := Lib.hid PH
                clear PH HBq
                go_wp2
                go_roundw
                case rel => exact ⟨3, k, B, m, d, G, k', B', m', d', G', rfl, by decide, by decide, by rw [← PL.out, ← PH2.out]; exact HE2⟩
                case measure => simp [intOf]
              · skip
                have y0 := HE.out.2.2.1.at2.1
                have y1 := HE.out.2.2.1.at2.2.1
                have y2 := HE.out.2.2.1.at2.2.2
                have zc0 := HE.out.2.2.2.2.1.x0
                have zc1 := HE.out.2.2.2.2.1.x1
                have zc2 := HE.out.2.2.2.2.1.x2
                have zc3 := HE.out.2.2.2.2.1.x3
                have zc4 := HE.out.2.2.2.2.1.x4
                have zc5 := HE.out.2.2.2.2.1.x5
                have zcf := HE.out.2.2.2.2.1.fz
                have HE2 := Lib.hid (HE.out.putU (HE.out.2.2.2.1.2.2.1))
                clear HE
                have PH : p2 = mxP p0 p1 p2 p3 3 := by have h := of_decide_eq_true HBq.out; simp [mxP] at h ⊢; omega
                have PH2 := Lib.hid PH
                clear PH HBq
                go_wp2
                go_roundw
                case rel => exact ⟨3, k, B, m, d, G, r2, D2, n2', c2', E2, rfl, by decide, by decide, by rw [← PL.out, ← PH2.out]; exact HE2⟩
                case measure => simp [intOf]
            · skip
              have y0 := HE.out.2.2.1.at2.1
              have y1 := HE.out.2.2.1.at2.2.1
              have y2 := HE.out.2.2.1.at2.2.2
              have zc0 := HE.out.2.2.2.2.1.x0
              have zc1 := HE.out.2.2.2.2.1.x1
              have zc2 := HE.out.2.2.2.2.1.x2
              have zc3 := HE.out.2.2.2.2.1.x3
              have zc4 := HE.out.2.2.2.2.1.x4
              have zc5 := HE.out.2.2.2.2.1.x5
              have zcf := HE.out.2.2.2.2.1.fz
              have HE2 := Lib.hid (HE.out.putL (HE.out.2.2.2.1.2.2.1))
              clear HE tb
              go_wp2_with fail
              clear y0 y1 y2 zc0 zc1 zc2 zc3 zc4 zc5 zcf
              obtain ⟨zz, hzz⟩ : ∃ z, ((z1.setCell ⟨r, 0, none⟩ (.bool r2)).setCell ⟨r, 1, none⟩ (.slice D2 n2' c2')).setCell ⟨r, 2, none⟩ (.int .i64 E2) = z := ⟨_, rfl⟩
              rw [hzz]
              have HE : Hid (EndsR w q r r0 D0 n0 c0 E0 r1 D1 n1' c1' E1 r2 D2 n2' c2' E2 r3 D3 n3 c3 E3 p0 p1 p2 p3 r2 D2 n2' c2' E2 p2 k' B' m' d' G' (mxP p0 p1 p2 p3 2) zz) := by rw [← hzz]; exact HE2.out
              clear HE2 hzz
              have PL := Lib.hid (show p2 = mnP p0 p1 p2 p3 3 by have h := of_decide_eq_true HBb.out; simp [mnP] at h ⊢; omega)
              clear HBb
              obtain ⟨bq, hb⟩ : ∃ b, decide (mxP p0 p1 p2 p3 2 < p2) = b := ⟨_, rfl⟩
              have HBq := Lib.hid hb
              clear hb
              obtain ⟨vq, hv⟩ : ∃ v, cmpI p2 (mxP p0 p1 p2 p3 2) = v := ⟨_, rfl⟩
              have tq : decide (0 < vq) = bq := by rw [← HBq.out, ← hv]; exact decide_eq_decide.2 cmpI_above
              have CC : Hid (∀ u, Below zz.heap.size zz u → Calls Tryd.prog 10 #[.agg #[.bool r2, .slice D2 n2' c2', .int .i64 E2], .agg #[.bool k', .slice B' m' d', .int .i64 G']] u (fun e w' => e = .returned (.int .i64 vq) ∧ Below u.heap.size u w')) := fun u hu => by rw [← hv]; exact wn_cmp ((HE.out.2.2.2.1.2.2.1).below hu) ((HE.out.2.2.2.2.2.1.2).below hu)
              clear hv
              have HV : Hid (∀ u, Below zz.heap.size zz u → u.cell? ⟨q, 6, none⟩ = some (.bool r2) ∧ u.cell? ⟨q, 7, none⟩ = some (.slice D2 n2' c2') ∧ u.cell? ⟨q, 8, none⟩ = some (.int .i64 E2) ∧ u.cell? ⟨r, 3, none⟩ = some (.bool k') ∧ u.cell? ⟨r, 4, none⟩ = some (.slice B' m' d') ∧ u.cell? ⟨r, 5, none⟩ = some (.int .i64 G')) := fun u hu => ⟨(HE.out.2.2.1.below hu).at2.1, (HE.out.2.2.1.below hu).at2.2.1, (HE.out.2.2.1.below hu).at2.2.2, (HE.out.2.2.2.2.1.below hu).x3, (HE.out.2.2.2.2.1.below hu).x4, (HE.out.2.2.2.2.1.below hu).x5⟩
              have cur := Lib.hid (below_drew zz)
              go_wp2_with fail
              go_region_held3 (fun u => u.cell? ⟨q, 6, none⟩ = some (.bool r2) ∧ u.cell? ⟨q, 7, none⟩ = some (.slice D2 n2' c2') ∧ u.cell? ⟨q, 8, none⟩ = some (.int .i64 E2) ∧ u.cell? ⟨r, 3, none⟩ = some (.bool k') ∧ u.cell? ⟨r, 4, none⟩ = some (.slice B' m' d') ∧ u.cell? ⟨r, 5, none⟩ = some (.int .i64 G')) (first | (with_reducible exact HV.out _ cur.out)) (first | (go_at_call 10; (with_reducible refine (CC.out _ cur.out).mono ?_); rintro e z3 ⟨rfl, hB⟩; replace cur := Lib.hid (cur.out.trans (hB.mono cur.out.size)); clear hB))
              clear CC HV
              replace HE := Lib.hid (HE.out.below cur.out)
              clear cur
              cases bq
              · skip
                have HE2 := HE
                have PH : mxP p0 p1 p2 p3 2 = mxP p0 p1 p2 p3 3 := by have h := of_decide_eq_false HBq.out; simp [mxP] at h ⊢; omega
                have PH2 := Lib.hid PH
                clear PH HBq
                go_wp2
                go_roundw
                case rel => exact ⟨3, r2, D2, n2', c2', E2, k', B', m', d', G', rfl, by decide, by decide, by rw [← PL.out, ← PH2.out]; exact HE2⟩
                case measure => simp [intOf]
              · skip
                have y0 := HE.out.2.2.1.at2.1
                have y1 := HE.out.2.2.1.at2.2.1
                have y2 := HE.out.2.2.1.at2.2.2
                have zc0 := HE.out.2.2.2.2.1.x0
                have zc1 := HE.out.2.2.2.2.1.x1
                have zc2 := HE.out.2.2.2.2.1.x2
                have zc3 := HE.out.2.2.2.2.1.x3
                have zc4 := HE.out.2.2.2.2.1.x4
                have zc5 := HE.out.2.2.2.2.1.x5
                have zcf := HE.out.2.2.2.2.1.fz
                have HE2 := Lib.hid (HE.out.putU (HE.out.2.2.2.1.2.2.1))
                clear HE
                have PH : p2 = mxP p0 p1 p2 p3 3 := by have h := of_decide_eq_true HBq.out; simp [mxP] at h ⊢; omega
                have PH2 := Lib.hid PH
                clear PH HBq
                go_wp2
                go_roundw
                case rel => exact ⟨3, r2, D2, n2', c2', E2, r2, D2, n2', c2', E2, rfl, by decide, by decide, by rw [← PL.out, ← PH2.out]; exact HE2⟩
                case measure => simp [intOf]
          · obtain ⟨u9, rfl⟩ : ∃ u, u = wr := ⟨_, rfl⟩
            obtain ⟨b, hb⟩ : ∃ b, decide (p3 < mnP p0 p1 p2 p3 3) = b := ⟨_, rfl⟩
            have HBb := Lib.hid hb
            clear hb
            obtain ⟨v, hv⟩ : ∃ v, cmpI p3 (mnP p0 p1 p2 p3 3) = v := ⟨_, rfl⟩
            have tb : decide (v < 0) = b := by rw [← HBb.out, ← hv]; exact decide_eq_decide.2 cmpI_below
            have CC : Hid (∀ u, Below u9.heap.size u9 u → Calls Tryd.prog 10 #[.agg #[.bool r3, .slice D3 n3 c3, .int .i64 E3], .agg #[.bool k, .slice B m d, .int .i64 G]] u (fun e w' => e = .returned (.int .i64 v) ∧ Below u.heap.size u w')) := fun u hu => by rw [← hv]; exact wn_cmp ((HE.out.2.2.2.1.2.2.2).below hu) ((HE.out.2.2.2.2.2.1.1).below hu)
            clear hv
            have HV : Hid (∀ u, Below u9.heap.size u9 u → u.cell? ⟨q, 9, none⟩ = some (.bool r3) ∧ u.cell? ⟨q, 10, none⟩ = some (.slice D3 n3 c3) ∧ u.cell? ⟨q, 11, none⟩ = some (.int .i64 E3) ∧ u.cell? ⟨r, 0, none⟩ = some (.bool k) ∧ u.cell? ⟨r, 1, none⟩ = some (.slice B m d) ∧ u.cell? ⟨r, 2, none⟩ = some (.int .i64 G)) := fun u hu => ⟨(HE.out.2.2.1.below hu).at3.1, (HE.out.2.2.1.below hu).at3.2.1, (HE.out.2.2.1.below hu).at3.2.2, (HE.out.2.2.2.2.1.below hu).x0, (HE.out.2.2.2.2.1.below hu).x1, (HE.out.2.2.2.2.1.below hu).x2⟩
            have cur := Lib.hid (below_drew u9)
            go_wp2_with fail
            go_region_held3 (fun u => u.cell? ⟨q, 9, none⟩ = some (.bool r3) ∧ u.cell? ⟨q, 10, none⟩ = some (.slice D3 n3 c3) ∧ u.cell? ⟨q, 11, none⟩ = some (.int .i64 E3) ∧ u.cell? ⟨r, 0, none⟩ = some (.bool k) ∧ u.cell? ⟨r, 1, none⟩ = some (.slice B m d) ∧ u.cell? ⟨r, 2, none⟩ = some (.int .i64 G)) (first | (with_reducible exact HV.out _ cur.out)) (first | (go_at_call 10; (with_reducible refine (CC.out _ cur.out).mono ?_); rintro e z1 ⟨rfl, hB⟩; replace cur := Lib.hid (cur.out.trans (hB.mono cur.out.size)); clear hB))
            clear CC HV
            replace HE := Lib.hid (HE.out.below cur.out)
            clear cur
            cases b
            · skip
              clear tb
              go_wp2_with fail
              obtain ⟨zz, rfl⟩ : ∃ z, z = z1 := ⟨_, rfl⟩
              have PL := Lib.hid (show mnP p0 p1 p2 p3 3 = mnP p0 p1 p2 p3 4 by have h := of_decide_eq_false HBb.out; simp [mnP] at h ⊢; omega)
              clear HBb
              obtain ⟨bq, hb⟩ : ∃ b, decide (mxP p0 p1 p2 p3 3 < p3) = b := ⟨_, rfl⟩
              have HBq := Lib.hid hb
              clear hb
              obtain ⟨vq, hv⟩ : ∃ v, cmpI p3 (mxP p0 p1 p2 p3 3) = v := ⟨_, rfl⟩
              have tq : decide (0 < vq) = bq := by rw [← HBq.out, ← hv]; exact decide_eq_decide.2 cmpI_above
              have CC : Hid (∀ u, Below zz.heap.size zz u → Calls Tryd.prog 10 #[.agg #[.bool r3, .slice D3 n3 c3, .int .i64 E3], .agg #[.bool k', .slice B' m' d', .int .i64 G']] u (fun e w' => e = .returned (.int .i64 vq) ∧ Below u.heap.size u w')) := fun u hu => by rw [← hv]; exact wn_cmp ((HE.out.2.2.2.1.2.2.2).below hu) ((HE.out.2.2.2.2.2.1.2).below hu)
              clear hv
              have HV : Hid (∀ u, Below zz.heap.size zz u → u.cell? ⟨q, 9, none⟩ = some (.bool r3) ∧ u.cell? ⟨q, 10, none⟩ = some (.slice D3 n3 c3) ∧ u.cell? ⟨q, 11, none⟩ = some (.int .i64 E3) ∧ u.cell? ⟨r, 3, none⟩ = some (.bool k') ∧ u.cell? ⟨r, 4, none⟩ = some (.slice B' m' d') ∧ u.cell? ⟨r, 5, none⟩ = some (.int .i64 G')) := fun u hu => ⟨(HE.out.2.2.1.below hu).at3.1, (HE.out.2.2.1.below hu).at3.2.1, (HE.out.2.2.1.below hu).at3.2.2, (HE.out.2.2.2.2.1.below hu).x3, (HE.out.2.2.2.2.1.below hu).x4, (HE.out.2.2.2.2.1.below hu).x5⟩
              have cur := Lib.hid (below_drew zz)
              go_wp2_with fail
              go_region_held3 (fun u => u.cell? ⟨q, 9, none⟩ = some (.bool r3) ∧ u.cell? ⟨q, 10, none⟩ = some (.slice D3 n3 c3) ∧ u.cell? ⟨q, 11, none⟩ = some (.int .i64 E3) ∧ u.cell? ⟨r, 3, none⟩ = some (.bool k') ∧ u.cell? ⟨r, 4, none⟩ = some (.slice B' m' d') ∧ u.cell? ⟨r, 5, none⟩ = some (.int .i64 G')) (first | (with_reducible exact HV.out _ cur.out)) (first | (go_at_call 10; (with_reducible refine (CC.out _ cur.out).mono ?_); rintro e z3 ⟨rfl, hB⟩; replace cur := Lib.hid (cur.out.trans (hB.mono cur.out.size)); clear hB))
              clear CC HV
              replace HE := Lib.hid (HE.out.below cur.out)
              clear cur
              cases bq
              · skip
                have HE2 := HE
                have PH : mxP p0 p1 p2 p3 3 = mxP p0 p1 p2 p3 4 := by have h := of_decide_eq_false HBq.out; simp [mxP] at h ⊢; omega
                have PH2 := Lib.hid PH
                clear PH HBq
                go_wp2
                go_roundw
                case rel => exact ⟨4, k, B, m, d, G, k', B', m', d', G', rfl, by decide, by decide, by rw [← PL.out, ← PH2.out]; exact HE2⟩
                case measure => simp [intOf]
              · skip
                have y0 := HE.out.2.2.1.at3.1
                have y1 := HE.out.2.2.1.at3.2.1
                have y2 := HE.out.2.2.1.at3.2.2
                have zc0 := HE.out.2.2.2.2.1.x0
                have zc1 := HE.out.2.2.2.2.1.x1
                have zc2 := HE.out.2.2.2.2.1.x2
                have zc3 := HE.out.2.2.2.2.1.x3
                have zc4 := HE.out.2.2.2.2.1.x4
                have zc5 := HE.out.2.2.2.2.1.x5
                have zcf := HE.out.2.2.2.2.1.fz
                have HE2 := Lib.hid (HE.out.putU (HE.out.2.2.2.1.2.2.2))
                clear HE
                have PH : p3 = mxP p0 p1 p2 p3 4 := by have h := of_decide_eq_true HBq.out; simp [mxP] at h ⊢; omega
                have PH2 := Lib.hid PH
                clear PH HBq
                go_wp2
                go_roundw
                case rel => exact ⟨4, k, B, m, d, G, r3, D3, n3, c3, E3, rfl, by decide, by decide, by rw [← PL.out, ← PH2.out]; exact HE2⟩
                case measure => simp [intOf]
            · skip
              have y0 := HE.out.2.2.1.at3.1
              have y1 := HE.out.2.2.1.at3.2.1
              have y2 := HE.out.2.2.1.at3.2.2
              have zc0 := HE.out.2.2.2.2.1.x0
              have zc1 := HE.out.2.2.2.2.1.x1
              have zc2 := HE.out.2.2.2.2.1.x2
              have zc3 := HE.out.2.2.2.2.1.x3
              have zc4 := HE.out.2.2.2.2.1.x4
              have zc5 := HE.out.2.2.2.2.1.x5
              have zcf := HE.out.2.2.2.2.1.fz
              have HE2 := Lib.hid (HE.out.putL (HE.out.2.2.2.1.2.2.2))
              clear HE tb
              go_wp2_with fail
              clear y0 y1 y2 zc0 zc1 zc2 zc3 zc4 zc5 zcf
              obtain ⟨zz, hzz⟩ : ∃ z, ((z1.setCell ⟨r, 0, none⟩ (.bool r3)).setCell ⟨r, 1, none⟩ (.slice D3 n3 c3)).setCell ⟨r, 2, none⟩ (.int .i64 E3) = z := ⟨_, rfl⟩
              rw [hzz]
              have HE : Hid (EndsR w q r r0 D0 n0 c0 E0 r1 D1 n1' c1' E1 r2 D2 n2' c2' E2 r3 D3 n3 c3 E3 p0 p1 p2 p3 r3 D3 n3 c3 E3 p3 k' B' m' d' G' (mxP p0 p1 p2 p3 3) zz) := by rw [← hzz]; exact HE2.out
              clear HE2 hzz
              have PL := Lib.hid (show p3 = mnP p0 p1 p2 p3 4 by have h := of_decide_eq_true HBb.out; simp [mnP] at h ⊢; omega)
              clear HBb
              obtain ⟨bq, hb⟩ : ∃ b, decide (mxP p0 p1 p2 p3 3 < p3) = b := ⟨_, rfl⟩
              have HBq := Lib.hid hb
              clear hb
              obtain ⟨vq, hv⟩ : ∃ v, cmpI p3 (mxP p0 p1 p2 p3 3) = v := ⟨_, rfl⟩
              have tq : decide (0 < vq) = bq := by rw [← HBq.out, ← hv]; exact decide_eq_decide.2 cmpI_above
              have CC : Hid (∀ u, Below zz.heap.size zz u → Calls Tryd.prog 10 #[.agg #[.bool r3, .slice D3 n3 c3, .int .i64 E3], .agg #[.bool k', .slice B' m' d', .int .i64 G']] u (fun e w' => e = .returned (.int .i64 vq) ∧ Below u.heap.size u w')) := fun u hu => by rw [← hv]; exact wn_cmp ((HE.out.2.2.2.1.2.2.2).below hu) ((HE.out.2.2.2.2.2.1.2).below hu)
              clear hv
              have HV : Hid (∀ u, Below zz.heap.size zz u → u.cell? ⟨q, 9, none⟩ = some (.bool r3) ∧ u.cell? ⟨q, 10, none⟩ = some (.slice D3 n3 c3) ∧ u.cell? ⟨q, 11, none⟩ = some (.int .i64 E3) ∧ u.cell? ⟨r, 3, none⟩ = some (.bool k') ∧ u.cell? ⟨r, 4, none⟩ = some (.slice B' m' d') ∧ u.cell? ⟨r, 5, none⟩ = some (.int .i64 G')) := fun u hu => ⟨(HE.out.2.2.1.below hu).at3.1, (HE.out.2.2.1.below hu).at3.2.1, (HE.out.2.2.1.below hu).at3.2.2, (HE.out.2.2.2.2.1.below hu).x3, (HE.out.2.2.2.2.1.below hu).x4, (HE.out.2.2.2.2.1.below hu).x5⟩
              have cur := Lib.hid (below_drew zz)
              go_wp2_with fail
              go_region_held3 (fun u => u.cell? ⟨q, 9, none⟩ = some (.bool r3) ∧ u.cell? ⟨q, 10, none⟩ = some (.slice D3 n3 c3) ∧ u.cell? ⟨q, 11, none⟩ = some (.int .i64 E3) ∧ u.cell? ⟨r, 3, none⟩ = some (.bool k') ∧ u.cell? ⟨r, 4, none⟩ = some (.slice B' m' d') ∧ u.cell? ⟨r, 5, none⟩ = some (.int .i64 G')) (first | (with_reducible exact HV.out _ cur.out)) (first | (go_at_call 10; (with_reducible refine (CC.out _ cur.out).mono ?_); rintro e z3 ⟨rfl, hB⟩; replace cur := Lib.hid (cur.out.trans (hB.mono cur.out.size)); clear hB))
              clear CC HV
              replace HE := Lib.hid (HE.out.below cur.out)
              clear cur
              cases bq
              · skip
                have HE2 := HE
                have PH : mxP p0 p1 p2 p3 3 = mxP p0 p1 p2 p3 4 := by have h := of_decide_eq_false HBq.out; simp [mxP] at h ⊢; omega
                have PH2 := Lib.hid PH
                clear PH HBq
                go_wp2
                go_roundw
                case rel => exact ⟨4, r3, D3, n3, c3, E3, k', B', m', d', G', rfl, by decide, by decide, by rw [← PL.out, ← PH2.out]; exact HE2⟩
                case measure => simp [intOf]
              · skip
                have y0 := HE.out.2.2.1.at3.1
                have y1 := HE.out.2.2.1.at3.2.1
                have y2 := HE.out.2.2.1.at3.2.2
                have zc0 := HE.out.2.2.2.2.1.x0
                have zc1 := HE.out.2.2.2.2.1.x1
                have zc2 := HE.out.2.2.2.2.1.x2
                have zc3 := HE.out.2.2.2.2.1.x3
                have zc4 := HE.out.2.2.2.2.1.x4
                have zc5 := HE.out.2.2.2.2.1.x5
                have zcf := HE.out.2.2.2.2.1.fz
                have HE2 := Lib.hid (HE.out.putU (HE.out.2.2.2.1.2.2.2))
                clear HE
                have PH : p3 = mxP p0 p1 p2 p3 4 := by have h := of_decide_eq_true HBq.out; simp [mxP] at h ⊢; omega
                have PH2 := Lib.hid PH
                clear PH HBq
                go_wp2
                go_roundw
                case rel => exact ⟨4, r3, D3, n3, c3, E3, r3, D3, n3, c3, E3, rfl, by decide, by decide, by rw [← PL.out, ← PH2.out]; exact HE2⟩
                case measure => simp [intOf]
end Go.Proofs.YtafgooiakmmfkaaDoor
