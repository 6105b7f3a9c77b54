/- Words for the laws of layer 15: a pair of plain dyads in its box; intervals told without an error, short ones; regions that only read. -/
import Derived.Test.YtafgooiakmmfkaaDoorIvInner
import Derived.Test.YtafgooiakmmfkaaDoorIvAlive
import Derived.Test.YtafgooiakmmfkaaDoorIvNear
import Derived.Deep.QuietTactic
namespace Go.Proofs.YtafgooiakmmfkaaDoor
open Go.RowKit

def Jb (w : World) (b : Nat) (g1 : Bool) (A1 : Option Addr) (m1 c1 : Nat) (e1 : Int) (g2 : Bool) (A2 : Option Addr) (m2 c2 : Nat) (e2 : Int) : Prop :=
  w.heap[b]? = some (.cells #[.bool g1, .slice A1 m1 c1, .int .i64 e1, .bool g2, .slice A2 m2 c2, .int .i64 e2] 26)
section
variable {w w' u : World} {b : Nat} {g1 : Bool} {A1 : Option Addr} {m1 c1 : Nat} {e1 : Int} {g2 : Bool} {A2 : Option Addr} {m2 c2 : Nat} {e2 : Int}
theorem Jb.lt (h : Jb w b g1 A1 m1 c1 e1 g2 A2 m2 c2 e2) : b < w.heap.size := by
  rcases Nat.lt_or_ge b w.heap.size with h' | h'
  · exact h'
  · rw [Jb, Array.getElem?_eq_none h'] at h; cases h
theorem Jb.new (w : World) (g1 : Bool) (A1 : Option Addr) (m1 c1 : Nat) (e1 : Int) (g2 : Bool) (A2 : Option Addr) (m2 c2 : Nat) (e2 : Int) : Jb (w.alloc (.cells #[.bool g1, .slice A1 m1 c1, .int .i64 e1, .bool g2, .slice A2 m2 c2, .int .i64 e2] 26)) w.heap.size g1 A1 m1 c1 e1 g2 A2 m2 c2 e2 := by
  show (w.heap.push _)[w.heap.size]? = _
  simp
theorem Jb.below (h : Jb w b g1 A1 m1 c1 e1 g2 A2 m2 c2 e2) (hb : Below w.heap.size w w') : Jb w' b g1 A1 m1 c1 e1 g2 A2 m2 c2 e2 := by
  rw [Jb, hb.block b h.lt]; exact h
theorem Jb.x0 (h : Jb w b g1 A1 m1 c1 e1 g2 A2 m2 c2 e2) : w.cell? ⟨b, 0, none⟩ = some (.bool g1) := by simp [World.cell?, show w.heap[b]? = _ from h]
theorem Jb.x1 (h : Jb w b g1 A1 m1 c1 e1 g2 A2 m2 c2 e2) : w.cell? ⟨b, 1, none⟩ = some (.slice A1 m1 c1) := by simp [World.cell?, show w.heap[b]? = _ from h]
theorem Jb.x2 (h : Jb w b g1 A1 m1 c1 e1 g2 A2 m2 c2 e2) : w.cell? ⟨b, 2, none⟩ = some (.int .i64 e1) := by simp [World.cell?, show w.heap[b]? = _ from h]
theorem Jb.x3 (h : Jb w b g1 A1 m1 c1 e1 g2 A2 m2 c2 e2) : w.cell? ⟨b, 3, none⟩ = some (.bool g2) := by simp [World.cell?, show w.heap[b]? = _ from h]
theorem Jb.x4 (h : Jb w b g1 A1 m1 c1 e1 g2 A2 m2 c2 e2) : w.cell? ⟨b, 4, none⟩ = some (.slice A2 m2 c2) := by simp [World.cell?, show w.heap[b]? = _ from h]
theorem Jb.x5 (h : Jb w b g1 A1 m1 c1 e1 g2 A2 m2 c2 e2) : w.cell? ⟨b, 5, none⟩ = some (.int .i64 e2) := by simp [World.cell?, show w.heap[b]? = _ from h]
theorem Jb.all6 (h : Jb w b g1 A1 m1 c1 e1 g2 A2 m2 c2 e2) (hb : Below w.heap.size w u) : All6 u b g1 A1 m1 c1 e1 g2 A2 m2 c2 e2 := ⟨(h.below hb).x0, (h.below hb).x1, (h.below hb).x2, (h.below hb).x3, (h.below hb).x4, (h.below hb).x5⟩
end
theorem win_next {base u1 : World} (s : WIn (Below base.heap.size base)) (hB : Below s.u.heap.size s.u u1) : Below base.heap.size base u1 := s.h.trans (hB.mono s.h.size)
/-- An interval and no error, its ends short. -/
def STold (w : World) (Q : Dy → Dy → Prop) (e : Ending) (w' : World) : Prop :=
  ∃ g1 A1 m1 c1 zs e1 g2 A2 m2 c2 us e2, e = .returned (.tuple #[.agg #[.bool g1, .slice A1 m1 c1, .int .i64 e1, .bool g2, .slice A2 m2 c2, .int .i64 e2], .int .i64 0]) ∧ m1 ≤ 300 ∧ m2 ≤ 300 ∧ Lim w' A1 m1 c1 zs ∧ Lim w' A2 m2 c2 us ∧ Bare zs ∧ Bare us ∧ Below w.heap.size w w' ∧ Q ⟨g1, val zs, e1⟩ ⟨g2, val us, e2⟩
theorem vtold_short {w : World} {Q : Dy → Dy → Prop} {e : Ending} {w' : World} (h : VTold w (fun X Y r _ _ => r = 0 ∧ Q X Y) e w') (hq : ∀ X Y, Q X Y → Sp 9000 X ∧ Sp 9000 Y) : STold w Q e w' := by
  obtain ⟨g1, A1, m1, c1, zs, e1, g2, A2, m2, c2, us, e2, r, rfl, h1, h2, l1, l2, b1, b2, hB, rfl, hQ⟩ := h
  obtain ⟨s1, s2⟩ := hq _ _ hQ
  exact ⟨g1, A1, m1, c1, zs, e1, g2, A2, m2, c2, us, e2, rfl, by rw [← l1.len]; exact sp_len s1 l1.words b1 rfl (by decide), by rw [← l2.len]; exact sp_len s2 l2.words b2 rfl (by decide), l1, l2, b1, b2, hB, hQ⟩
theorem stold_imp {w : World} {Q R : Dy → Dy → Prop} {e : Ending} {w' : World} (h : STold w Q e w') (hq : ∀ X Y, Q X Y → R X Y) : STold w R e w' := by
  obtain ⟨g1, A1, m1, c1, zs, e1, g2, A2, m2, c2, us, e2, rfl, h1, h2, l1, l2, b1, b2, hB, hQ⟩ := h
  exact ⟨g1, A1, m1, c1, zs, e1, g2, A2, m2, c2, us, e2, rfl, h1, h2, l1, l2, b1, b2, hB, hq _ _ hQ⟩
/-- A number by its cells: what it is told as. -/
def Nm (k : Nat) (g : Bool) (V : Nat) (e : Int) (d : Dy) : Prop := mk g V e = some d ∧ Sp k d ∧ dw g V e = dwD d
theorem nm_raw {n c : Nat} {A : Option Addr} {xs : List Nat} {e : Int} {w : World} (g : Bool) (hl : Lim w A n c xs) (h : Near15 n e) : ∃ d, Nm 3640 g (val xs) e d := by
  have hb := hl.blen_le
  have h1 := h.1
  obtain ⟨d, h2, h3, h4⟩ := sp_near (g := g) (V := val xs) (e := e) (by omega) h.2.1 h.2.2
  exact ⟨d, h2, h3, h4.symm⟩
theorem nm_bare {k : Nat} {d : Dy} (h : Sp k d) : Nm k d.neg d.V d.e d := ⟨h.1, h, rfl⟩
theorem nm_eq {k : Nat} {g : Bool} {V : Nat} {e : Int} {d : Dy} (h : (⟨g, V, e⟩ : Dy) = d) (hs : Sp k d) : Nm k g V e d := by subst h; exact nm_bare hs
theorem nm_val {k : Nat} {V : Nat} {d : Dy} (h : V = d.V) (hs : Sp k d) : Nm k d.neg V d.e d := by rw [h]; exact nm_bare hs
theorem Nm.mono {k j : Nat} {g : Bool} {V : Nat} {e : Int} {d : Dy} (h : Nm k g V e d) (hj : k ≤ j) : Nm j g V e d := ⟨h.1, h.2.1.mono hj, h.2.2⟩
theorem nm_add {k : Nat} {g1 g2 : Bool} {V1 V2 : Nat} {e1 e2 : Int} {d1 d2 : Dy} (h1 : Nm k g1 V1 e1 d1) (h2 : Nm k g2 V2 e2 d2) (hk : k ≤ 30000) : ∃ s, addO (mk g1 V1 e1) (mk g2 V2 e2) = some s ∧ Sp (k + 1) s ∧ dwD s = dwD d1 + dwD d2 := by
  obtain ⟨s, a, b, c⟩ := sp_add h1.2.1 h2.2.1 hk
  exact ⟨s, by rw [h1.1, h2.1]; rw [h1.2.1.1, h2.2.1.1] at a; exact a, b, c⟩
theorem nm_mul {k j : Nat} {g1 g2 : Bool} {V1 V2 : Nat} {e1 e2 : Int} {d1 d2 : Dy} (h1 : Nm k g1 V1 e1 d1) (h2 : Nm j g2 V2 e2 d2) (hk : k + j ≤ 30000) : ∃ s, mulO (mk g1 V1 e1) (mk g2 V2 e2) = some s ∧ Sp (k + j) s ∧ dwD s * (uK : Int) = dwD d1 * dwD d2 := by
  obtain ⟨s, a, b, c⟩ := sp_mul h1.2.1 h2.2.1 hk
  exact ⟨s, by rw [h1.1, h2.1]; rw [h1.2.1.1, h2.2.1.1] at a; exact a, b, c⟩
/-- The sum of two intervals, their product: what is told of numbers that are near. -/
theorem nadd_ex {k : Nat} {g1 g2 g3 g4 : Bool} {V1 V2 V3 V4 : Nat} {e1 e2 e3 e4 : Int} {d1 d2 d3 d4 : Dy} (h1 : Nm k g1 V1 e1 d1) (h2 : Nm k g2 V2 e2 d2) (h3 : Nm k g3 V3 e3 d3) (h4 : Nm k g4 V4 e4 d4) (hk : k ≤ 8000) :
    ∃ s t, addO (mk g1 V1 e1) (mk g3 V3 e3) = some s ∧ addO (mk g2 V2 e2) (mk g4 V4 e4) = some t ∧ Sp 9000 s ∧ Sp 9000 t ∧ dwD s = dwD d1 + dwD d3 ∧ dwD t = dwD d2 + dwD d4 := by
  obtain ⟨s, a, b, c⟩ := nm_add h1 h3 (by omega)
  obtain ⟨t, a', b', c'⟩ := nm_add h2 h4 (by omega)
  exact ⟨s, t, a, a', b.mono (by omega), b'.mono (by omega), c, c'⟩
def MulS (m0 m1 m2 m3 X Y : Dy) : Prop := MulV m0 m1 m2 m3 X Y ∧ Sp 9000 X ∧ Sp 9000 Y
theorem nmul_ex {k j : Nat} {g1 g2 g3 g4 : Bool} {V1 V2 V3 V4 : Nat} {e1 e2 e3 e4 : Int} {d1 d2 d3 d4 : Dy} (h1 : Nm k g1 V1 e1 d1) (h2 : Nm k g2 V2 e2 d2) (h3 : Nm j g3 V3 e3 d3) (h4 : Nm j g4 V4 e4 d4) (hk : k + j ≤ 9000) :
    ∃ m0 m1 m2 m3, mulO (mk g1 V1 e1) (mk g3 V3 e3) = some m0 ∧ mulO (mk g1 V1 e1) (mk g4 V4 e4) = some m1 ∧ mulO (mk g2 V2 e2) (mk g3 V3 e3) = some m2 ∧ mulO (mk g2 V2 e2) (mk g4 V4 e4) = some m3 ∧
      ∀ X Y, MulV m0 m1 m2 m3 X Y → (Sp 9000 X ∧ Sp 9000 Y) ∧ dwD X * (uK : Int) = lo4 (dwD d1) (dwD d2) (dwD d3) (dwD d4) ∧ dwD Y * (uK : Int) = hi4 (dwD d1) (dwD d2) (dwD d3) (dwD d4) := by
  obtain ⟨m0, a0, b0, c0⟩ := nm_mul h1 h3 (by omega)
  obtain ⟨m1, a1, b1, c1⟩ := nm_mul h1 h4 (by omega)
  obtain ⟨m2, a2, b2, c2⟩ := nm_mul h2 h3 (by omega)
  obtain ⟨m3, a3, b3, c3⟩ := nm_mul h2 h4 (by omega)
  refine ⟨m0, m1, m2, m3, a0, a1, a2, a3, fun X Y h => ⟨⟨?_, ?_⟩, ?_⟩⟩
  · rcases h.1 with e | e | e | e <;> rw [e]
    · exact b0.mono (by omega)
    · exact b1.mono (by omega)
    · exact b2.mono (by omega)
    · exact b3.mono (by omega)
  · rcases h.2.1 with e | e | e | e <;> rw [e]
    · exact b0.mono (by omega)
    · exact b1.mono (by omega)
    · exact b2.mono (by omega)
    · exact b3.mono (by omega)
  · rw [h.2.2.1, h.2.2.2]
    exact ends_of uK_pos c0 c1 c2 c3
end Go.Proofs.YtafgooiakmmfkaaDoor
