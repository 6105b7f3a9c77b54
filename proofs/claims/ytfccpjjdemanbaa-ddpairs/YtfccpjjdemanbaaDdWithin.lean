/- The walk of planimeterlaw09.within; the words for a number that is laid into a new block. -/
import Derived.Test.YtfccpjjdemanbaaDdHold
import Derived.Test.YtfccpjjdemanbaaDdMul
import Derived.Test.YtfccpjjdemanbaaDdProdM
namespace Go.Proofs.Ytfccpjjdemanbaa
open Go.RowKit

/-- All that lies below u0, and new blocks that hold a 0 yet. -/
def HoldR (u0 : World) (bs : List Nat) (w : World) : Prop := Below u0.heap.size u0 w ∧ (∀ p ∈ bs, Bd w p 29 false none 0 0 0 ∧ u0.heap.size ≤ p)
section
variable {u0 : World} {bs : List Nat} {w w' : World} {b h l : Nat}
theorem HoldR.below (hh : HoldR u0 bs w) (hb : Below w.heap.size w w') : HoldR u0 bs w' := ⟨hh.1.trans (hb.mono hh.1.size), fun p hp => ⟨(hh.2 p hp).1.below hb, (hh.2 p hp).2⟩⟩
theorem HoldR.one (hh : HoldR u0 bs w) : HoldR u0 (w.heap.size :: bs) (w.alloc (.cells #[.bool false, .slice none 0 0, .int .i64 0] 29)) := by
  have h2 := hh.below (below1 w (.cells #[.bool false, .slice none 0 0, .int .i64 0] 29))
  refine ⟨h2.1, fun p hp => ?_⟩
  rcases List.mem_cons.1 hp with rfl | hp
  · exact ⟨Bd.new w _ _ _ _ _ _, hh.1.size⟩
  · exact h2.2 p hp
theorem HoldR.first {X : Nat} (hh : HoldR u0 (X :: bs) w) : Bd w X 29 false none 0 0 0 ∧ u0.heap.size ≤ X := hh.2 X (List.mem_cons.2 (Or.inl rfl))
theorem HoldR.start (u0 : World) : HoldR u0 [] u0 := ⟨Below.refl _ _, fun _ hp => absurd hp (List.not_mem_nil)⟩
theorem HoldR.put {X : Nat} (hh : HoldR u0 (X :: bs) w) (g : Bool) (A : Option Addr) (n c : Nat) (e : Int) : Below u0.heap.size u0 (World.put w X g A n c e) := below_put hh.1 hh.first.2 _ _ _ _ _
end
/-- The number lies in its block. -/
def RelR (u0 : World) (p : Nat) (g : Bool) (A : Option Addr) (m c : Nat) (E : Int) (V : Nat) (es : List Nat) (w : World) : Prop :=
  Below u0.heap.size u0 w ∧ Bd w p 29 g A m c E ∧ Mn w V A m c es ∧ u0.heap.size ≤ p
theorem RelR.last {u0 w : World} {g : Bool} {A : Option Addr} {m c : Nat} {E : Int} {V : Nat} {es : List Nat} (hh : HoldR u0 [] w) (h1 : Mn w V A m c es) : RelR u0 w.heap.size g A m c E V es (w.alloc (.cells #[.bool g, .slice A m c, .int .i64 E] 29)) :=
  ⟨hh.1.trans ((below1 w _).mono hh.1.size), Bd.new w _ _ _ _ _ _, h1.below (below1 w _), hh.1.size⟩
theorem RelR.ahead {u0 w : World} {X : Nat} {g : Bool} {A : Option Addr} {m c : Nat} {E : Int} {V : Nat} {es : List Nat} (hh : HoldR u0 [X] w) (h1 : Mn w V A m c es) : RelR u0 X g A m c E V es (World.put w X g A m c E) :=
  ⟨hh.put _ _ _ _ _, hh.first.1.put _ _ _ _ _, h1.put hh.first.1 _ _ _ _ _, hh.first.2⟩
theorem RelR.below {u0 w w' : World} {p : Nat} {g : Bool} {A : Option Addr} {m c : Nat} {E : Int} {V : Nat} {es : List Nat} (hh : RelR u0 p g A m c E V es w) (hb : Below w.heap.size w w') : RelR u0 p g A m c E V es w' :=
  ⟨hh.1.trans (hb.mono hh.1.size), hh.2.1.below hb, hh.2.2.1.below hb, hh.2.2.2⟩

/-- One cell turned. -/
theorem Bd.set0 {w : World} {b t : Nat} {g : Bool} {A : Option Addr} {n c : Nat} {e : Int} (h : Bd w b t g A n c e) (g' : Bool) : Bd (w.setCell ⟨b, 0, none⟩ (.bool g')) b t g' A n c e := by
  unfold Bd at *
  simp [World.setCell, Array.getElem?_modify, h]
theorem Bd.set2 {w : World} {b t : Nat} {g : Bool} {A : Option Addr} {n c : Nat} {e : Int} (h : Bd w b t g A n c e) (e' : Int) : Bd (w.setCell ⟨b, 2, none⟩ (.int .i64 e')) b t g A n c e' := by
  unfold Bd at *
  simp [World.setCell, Array.getElem?_modify, h]
theorem Bd.oth {w : World} {b t : Nat} {g : Bool} {A : Option Addr} {n c : Nat} {e : Int} (h : Bd w b t g A n c e) {b' : Nat} (hb : b ≠ b') (o : Nat) (v : Value) : Bd (w.setCell ⟨b', o, none⟩ v) b t g A n c e := by
  unfold Bd
  rw [Below.heap_setCell _ _ _ _ hb]
  exact h
theorem Bd.dig1 {w : World} {b t : Nat} {g : Bool} {A : Option Addr} {n c : Nat} {e : Int} (h : Bd w b t g A n c e) {A1 : Option Addr} {n1 c1 : Nat} {ds : List Nat} (hA : Dig w A1 n1 c1 ds) (o : Nat) (v : Value) : Dig (w.setCell ⟨b, o, none⟩ v) A1 n1 c1 ds :=
  ⟨⟨hA.1.1, hA.1.2.1, fun hn => by
    obtain ⟨k, o', ek, hk, hc⟩ := hA.at_ hn
    have hne : k ≠ b := by
      rintro rfl
      have := h.not (hc 0 hn)
      cases this
    exact ⟨k, o', ek, by simp [World.setCell]; exact hk, fun j hj => by
      have := World.cell?_of_block (w := w) (w' := w.setCell ⟨b, o, none⟩ v) (a := ⟨k, o' + j, none⟩) (Below.heap_setCell _ _ _ _ hne)
      rw [this]; exact hc j hj⟩⟩, hA.2⟩

theorem sz_down {V b : Nat} {e E : Int} (h1 : -1073741824 ≤ E) (h2 : e ≤ 1073741824) (h : e = E + b) : sz V e = sz V E * 2 ^ b := by
  have k1 := kb_sh (e := e) (by omega) h2
  have k2 := kb_sh (e := E) h1 (by omega)
  have k3 : sh e = sh E + b := by omega
  unfold sz
  rw [k3, Nat.pow_add, Nat.mul_assoc]
/-- How many bits a number has at most, by its worth. -/
theorem dw_bits {V k q : Nat} {e : Int} (h1 : -1073741824 ≤ e) (h2 : e ≤ 1073741824) (hk : sz V e ≤ 2 ^ k * 2 ^ kb) (hq : -1074 - (q : Int) ≤ e) (hq2 : q ≤ 100000) : V ≤ 2 ^ (k + q) := by
  have k1 := kb_sh h1 h2
  have k2 := kb_eq
  have h3 : V * 2 ^ (kb - q) ≤ 2 ^ (k + q) * 2 ^ (kb - q) := by
    rw [← Nat.pow_add, show k + q + (kb - q) = k + kb by omega, Nat.pow_add]
    refine Nat.le_trans (Nat.mul_le_mul_left V (Nat.pow_le_pow_right (by decide) ?_)) hk
    omega
  exact Nat.le_of_mul_le_mul_right h3 (Nat.two_pow_pos _)

/-- What within rests on. -/
theorem within_o {h l k K b : Nat} {g : Bool} {V : Nat} {e0 : Int} (hh : Nb k h) (hl : Nb k l) (hb : b ≤ 100) (h1 : -2148 ≤ e0) (h2 : e0 ≤ 2048) (hD : dw g V e0 = (sz V e0 : Int)) (hK : sz V e0 ≤ 2 ^ K * 2 ^ kb)
    (hc : ((fvI h + fvI l) * ((2 ^ kb : Nat) : Int) - (sz V e0 : Int)).natAbs * 2 ^ b ≤ sz V e0) : ∃ o1 o2 : Dy, o1.V ≤ 2 ^ (k + 1) ∧ -1074 ≤ o1.e ∧ o1.e ≤ 1024 ∧ AddsTo (fO h).neg (fO l).neg (fO h).V (fO l).V (fO h).e (fO l).e o1 ∧
      AddsTo o1.neg (!g) o1.V V o1.e e0 o2 ∧ o2.V ≤ 2 ^ (K + 1074) ∧ -2148 ≤ o2.e ∧ o2.e ≤ 2048 ∧ cmpI (dw false o2.V o2.e) (dw false V (e0 - b)) ≤ 0 := by
  obtain ⟨o1, i1, i2, i3, i4, i5⟩ := sum_o hh hl
  obtain ⟨o2, j1, j2, j3, j4, j5, j6, j7⟩ := gadd_spec o1.neg (!g) o1.V V o1.e e0 (by omega) (by omega) (by omega) (by omega) (by omega) (by omega)
  have i1' : dw o1.neg o1.V o1.e = _ := i1
  rw [dw_neg, hD, i1'] at j1
  have ha := congrArg Int.natAbs j1
  rw [dw_abs, ← Int.sub_eq_add_neg] at ha
  rw [← ha] at hc
  have hs := sz_down (V := V) (b := b) (e := e0) (E := e0 - b) (by omega) (by omega) (by omega)
  have hle : sz o2.V o2.e ≤ sz V (e0 - b) := by
    rw [hs] at hc
    exact Nat.le_of_mul_le_mul_right hc (Nat.two_pow_pos b)
  have hle2 : sz o2.V o2.e ≤ sz V e0 := by
    rw [hs]
    exact Nat.le_trans hle (Nat.le_mul_of_pos_right _ (Nat.two_pow_pos b))
  refine ⟨o1, o2, i2, i3, i4, i5, j7, dw_bits (q := 1074) j2 j3 (Nat.le_trans hle2 hK) (by omega) (by decide), by omega, by omega, ?_⟩
  rw [dw_pos, dw_pos]
  rcases Nat.lt_or_ge (sz o2.V o2.e) (sz V (e0 - b)) with h9 | h9
  · rw [cmpI_lt (by omega)]; decide
  · rw [cmpI_eq (by omega)]; decide
end Go.Proofs.Ytfccpjjdemanbaa
