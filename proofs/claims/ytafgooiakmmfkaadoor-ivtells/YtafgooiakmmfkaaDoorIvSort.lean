/- slices.SortFunc of four dyads that lie in one block, by dyad.Cmp (written by law_isort.py). -/
import Derived.Test.YtafgooiakmmfkaaDoorIvRight
import Derived.Deep.RegionHeld3
import Derived.Deep.LoopGhost
import Derived.Deep.QuietTactic
namespace Go.Proofs.YtafgooiakmmfkaaDoor
open Go.RowKit

/-- A region that only reads, its callees lay blocks of their own: walked once. -/
structure WIn (C : World → Prop) where
  u : World
  h : C u
theorem wp_region_quietC {P : Program} {C : World → Prop} {id : Nat} {Q : Exit → Act → World → Prop} {a : Act} {w : World} {l : List Oper} (hm : P.follows .mixedOrders = true) (hB : Region.lexB .any l.toArray = true) (hC : C { w with drawn := w.drawn + 1 })
    (h : wpQuiet P l.toArray (fun u => ∃ s : WIn C, u = s.u) (fun a' => ∀ w', (∃ s : WIn C, w' = s.u) → Q .normal a' w') l a) : (Code.region id l.toArray true).wp P Q a w :=
  wp_region_quiet (C := fun u => ∃ s : WIn C, u = s.u) hm hB ⟨⟨_, hC⟩, rfl⟩ (by simpa using h)
/-- A dyad by its cells and its limbs. -/
structure Ce where
  g : Bool
  A : Option Addr
  n : Nat
  c : Nat
  xs : List Nat
  e : Int
def Ce.w (d : Ce) : Int := dw d.g (val d.xs) d.e
/-- Four of them in a block. -/
def Row4 (u : World) (b t : Nat) (p : Nat → Ce) : Prop := u.heap[b]? = some (.cells #[.bool (p 0).g, .slice (p 0).A (p 0).n (p 0).c, .int .i64 (p 0).e, .bool (p 1).g, .slice (p 1).A (p 1).n (p 1).c, .int .i64 (p 1).e, .bool (p 2).g, .slice (p 2).A (p 2).n (p 2).c, .int .i64 (p 2).e, .bool (p 3).g, .slice (p 3).A (p 3).n (p 3).c, .int .i64 (p 3).e] t)
def Lim4 (u : World) (q : Nat → Ce) : Prop := ∀ k, k < 4 → Lim u (q k).A (q k).n (q k).c (q k).xs ∧ (q k).n ≤ 100000
def Same4 (q p : Nat → Ce) : Prop := (∀ k, k < 4 → ∃ m, m < 4 ∧ p k = q m) ∧ (∀ m, m < 4 → ∃ k, k < 4 ∧ p k = q m)
def sw (p : Nat → Ce) (j : Nat) : Nat → Ce := fun k => if k = j then p (j - 1) else if k = j - 1 then p j else p k
/-- In order up to there. -/
def Up (i : Nat) (p : Nat → Ce) : Prop := ∀ a b, a < b → b < i → (p a).w ≤ (p b).w
def In (i j : Nat) (p : Nat → Ce) : Prop := (∀ a b, a < b → b ≤ i → a ≠ j → b ≠ j → (p a).w ≤ (p b).w) ∧ (∀ b, j < b → b ≤ i → (p j).w ≤ (p b).w)
theorem same4_refl (q : Nat → Ce) : Same4 q q := ⟨fun k h => ⟨k, h, rfl⟩, fun m h => ⟨m, h, rfl⟩⟩
theorem same4_sw {q p : Nat → Ce} {j : Nat} (h : Same4 q p) (h1 : 1 ≤ j) (h2 : j < 4) : Same4 q (sw p j) := by
  have e1 : sw p j j = p (j - 1) := by unfold sw; rw [if_pos rfl]
  have e2 : sw p j (j - 1) = p j := by unfold sw; rw [if_neg (by omega), if_pos rfl]
  have e3 : ∀ k, k ≠ j → k ≠ j - 1 → sw p j k = p k := fun k a b => by unfold sw; rw [if_neg a, if_neg b]
  constructor
  · intro k hk
    by_cases a : k = j
    · rw [a, e1]; exact h.1 _ (by omega)
    · by_cases b : k = j - 1
      · rw [b, e2]; exact h.1 _ h2
      · rw [e3 k a b]; exact h.1 _ hk
  · intro m hm
    obtain ⟨k, hk, e⟩ := h.2 m hm
    by_cases a : k = j
    · exact ⟨j - 1, by omega, by rw [e2, ← a]; exact e⟩
    · by_cases b : k = j - 1
      · exact ⟨j, h2, by rw [e1, ← b]; exact e⟩
      · exact ⟨k, hk, by rw [e3 k a b]; exact e⟩
theorem in_start {i : Nat} {p : Nat → Ce} (h : Up i p) : In i i p := ⟨fun a b h1 h2 _ h4 => h a b h1 (by omega), fun b h1 h2 => by omega⟩
theorem in_nought {i : Nat} {p : Nat → Ce} (h : In i 0 p) : Up (i + 1) p := fun a b h1 h2 => by
  by_cases e : a = 0
  · rw [e]; exact h.2 b (by omega) (by omega)
  · exact h.1 a b h1 (by omega) e (by omega)
theorem in_stop {i j : Nat} {p : Nat → Ce} (h : In i j p) (h1 : 1 ≤ j) (hs : (p (j - 1)).w ≤ (p j).w) : Up (i + 1) p := fun a b h2 h3 => by
  by_cases e : a = j
  · rw [e]; exact h.2 b (by omega) (by omega)
  · by_cases f : b = j
    · rw [f]
      by_cases k : a = j - 1
      · rw [k]; exact hs
      · have := h.1 a (j - 1) (by omega) (by omega) e (by omega)
        omega
    · exact h.1 a b h2 (by omega) e f
theorem in_step {i j : Nat} {p : Nat → Ce} (h : In i j p) (h1 : 1 ≤ j) (hj : j ≤ i) (hs : (p j).w < (p (j - 1)).w) : In i (j - 1) (sw p j) := by
  have e1 : sw p j j = p (j - 1) := by unfold sw; rw [if_pos rfl]
  have e2 : sw p j (j - 1) = p j := by unfold sw; rw [if_neg (by omega), if_pos rfl]
  have e3 : ∀ k, k ≠ j → k ≠ j - 1 → sw p j k = p k := fun k a b => by unfold sw; rw [if_neg a, if_neg b]
  constructor
  · intro a b h2 h3 h4 h5
    by_cases ea : a = j
    · rw [ea, e1, e3 b (by omega) h5]; exact h.1 _ b (by omega) h3 (by omega) (by omega)
    · by_cases eb : b = j
      · rw [eb, e1, e3 a ea h4]; exact h.1 a _ (by omega) (by omega) ea (by omega)
      · rw [e3 a ea h4, e3 b eb h5]; exact h.1 a b h2 h3 ea eb
  · intro b h2 h3
    rw [e2]
    by_cases eb : b = j
    · rw [eb, e1]; exact Int.le_of_lt hs
    · rw [e3 b eb (by omega)]; exact h.2 b (by omega) h3
theorem lim4_of {u : World} {q p : Nat → Ce} (h : Lim4 u q) (hs : Same4 q p) : Lim4 u p := fun k hk => by
  obtain ⟨m, hm, e⟩ := hs.1 k hk
  rw [e]; exact h m hm

/-- Three cells laid into a block. -/
abbrev World.put3 (w : World) (b o : Nat) (d : Ce) : World := ((w.setCell ⟨b, o, none⟩ (.bool d.g)).setCell ⟨b, o + 1, none⟩ (.slice d.A d.n d.c)).setCell ⟨b, o + 2, none⟩ (.int .i64 d.e)
theorem put3_heap (w : World) (b o : Nat) (d : Ce) (k : Nat) (hk : k ≠ b) : (World.put3 w b o d).heap[k]? = w.heap[k]? := by
  unfold World.put3
  rw [Below.heap_setCell _ _ _ _ hk, Below.heap_setCell _ _ _ _ hk, Below.heap_setCell _ _ _ _ hk]
theorem put3_size (w : World) (b o : Nat) (d : Ce) : (World.put3 w b o d).heap.size = w.heap.size := by simp [World.put3, World.setCell]
theorem below_put3 {B : Nat} {a w : World} (h : Below B a w) {b : Nat} (hb : B ≤ b) (o : Nat) (d : Ce) : Below B a (World.put3 w b o d) :=
  ((h.setCell (p := ⟨b, o, none⟩) hb _).setCell (p := ⟨b, o + 1, none⟩) hb _).setCell (p := ⟨b, o + 2, none⟩) hb _
section
variable {u : World} {b t : Nat} {p : Nat → Ce}
theorem Row4.lt (h : Row4 u b t p) : b < u.heap.size := by
  rcases Nat.lt_or_ge b u.heap.size with h' | h'
  · exact h'
  · rw [Row4, Array.getElem?_eq_none h'] at h; cases h
theorem Row4.below (h : Row4 u b t p) {u' : World} (hb : Below u.heap.size u u') : Row4 u' b t p := by
  rw [Row4, hb.block b h.lt]; exact h
theorem Row4.fz (h : Row4 u b t p) (o : Nat) : u.frozen? ⟨b, o, none⟩ = false := by simp [World.frozen?, show u.heap[b]? = _ from h]
theorem Row4.not (h : Row4 u b t p) {o : Nat} {k : IntKind} {z : Int} (hc : u.cell? ⟨b, o, none⟩ = some (.int k z)) : k = .i64 := by
  simp only [World.cell?, show u.heap[b]? = _ from h] at hc
  rcases o with _ | _ | _ | _ | _ | _ | _ | _ | _ | _ | _ | _ | o
  · simp at hc
  · simp at hc
  · simp at hc; exact hc.1.symm
  · simp at hc
  · simp at hc
  · simp at hc; exact hc.1.symm
  · simp at hc
  · simp at hc
  · simp at hc; exact hc.1.symm
  · simp at hc
  · simp at hc
  · simp at hc; exact hc.1.symm
  · simp at hc
theorem Row4.c0 (h : Row4 u b t p) : u.cell? ⟨b, 0, none⟩ = some (.bool (p 0).g) ∧ u.cell? ⟨b, 1, none⟩ = some (.slice (p 0).A (p 0).n (p 0).c) ∧ u.cell? ⟨b, 2, none⟩ = some (.int .i64 (p 0).e) := ⟨by simp [World.cell?, show u.heap[b]? = _ from h], by simp [World.cell?, show u.heap[b]? = _ from h], by simp [World.cell?, show u.heap[b]? = _ from h]⟩
theorem Row4.c1 (h : Row4 u b t p) : u.cell? ⟨b, 3, none⟩ = some (.bool (p 1).g) ∧ u.cell? ⟨b, 4, none⟩ = some (.slice (p 1).A (p 1).n (p 1).c) ∧ u.cell? ⟨b, 5, none⟩ = some (.int .i64 (p 1).e) := ⟨by simp [World.cell?, show u.heap[b]? = _ from h], by simp [World.cell?, show u.heap[b]? = _ from h], by simp [World.cell?, show u.heap[b]? = _ from h]⟩
theorem Row4.c2 (h : Row4 u b t p) : u.cell? ⟨b, 6, none⟩ = some (.bool (p 2).g) ∧ u.cell? ⟨b, 7, none⟩ = some (.slice (p 2).A (p 2).n (p 2).c) ∧ u.cell? ⟨b, 8, none⟩ = some (.int .i64 (p 2).e) := ⟨by simp [World.cell?, show u.heap[b]? = _ from h], by simp [World.cell?, show u.heap[b]? = _ from h], by simp [World.cell?, show u.heap[b]? = _ from h]⟩
theorem Row4.c3 (h : Row4 u b t p) : u.cell? ⟨b, 9, none⟩ = some (.bool (p 3).g) ∧ u.cell? ⟨b, 10, none⟩ = some (.slice (p 3).A (p 3).n (p 3).c) ∧ u.cell? ⟨b, 11, none⟩ = some (.int .i64 (p 3).e) := ⟨by simp [World.cell?, show u.heap[b]? = _ from h], by simp [World.cell?, show u.heap[b]? = _ from h], by simp [World.cell?, show u.heap[b]? = _ from h]⟩
/-- Only that block turns. -/
theorem Row4.lim (h : Row4 u b t p) {u' : World} (hs : u'.heap.size = u.heap.size) (ho : ∀ k, k ≠ b → u'.heap[k]? = u.heap[k]?) {A : Option Addr} {n c : Nat} {xs : List Nat} (hA : Lim u A n c xs) : Lim u' A n c xs :=
  ⟨hA.1, hA.2.1, hA.2.2.1, fun hn => by
    obtain ⟨k, o, ek, hk, hc⟩ := hA.at_ hn
    have hne : k ≠ b := by
      rintro rfl
      have := h.not (hc 0 hn)
      cases this
    exact ⟨k, o, ek, by rw [hs]; exact hk, fun j hj => by rw [World.cell?_of_block (w := u) (a := ⟨k, o + j, none⟩) (ho k hne)]; exact hc j hj⟩⟩
theorem Row4.tab (h : Row4 u b t p) {u' : World} (ho : ∀ k, k ≠ b → u'.heap[k]? = u.heap[k]?) (hT : Tab u) : Tab u' := fun j hj => by
  have hc := hT j hj
  have hne : (Addr.mk 0 j none).block ≠ b := by
    intro e
    have e' : b = 0 := e.symm
    subst e'
    have := h.not hc
    cases this
  rw [World.cell?_of_block (w := u) (ho _ hne)]; exact hc
end

/-- What is held while they are sorted. -/
def HoldS4 (w : World) (b t : Nat) (q p : Nat → Ce) (u : World) : Prop := Row4 u b t p ∧ Lim4 u q ∧ Tab u ∧ Below b w u
section
variable {w u u' : World} {b t : Nat} {q p : Nat → Ce}
theorem HoldS4.below (h : HoldS4 w b t q p u) (hb : Below u.heap.size u u') : HoldS4 w b t q p u' :=
  ⟨h.1.below hb, fun k hk => ⟨(h.2.1 k hk).1.below hb, (h.2.1 k hk).2⟩, h.2.2.1.below hb, h.2.2.2.trans (hb.mono (Nat.le_of_lt h.1.lt))⟩
theorem HoldS4.drew4 (h : HoldS4 w b t q p u) : HoldS4 w b t q p u.drew := h.below (below_drew u)
theorem HoldS4.turn (h : HoldS4 w b t q p u) (hs : u'.heap.size = u.heap.size) (ho : ∀ k, k ≠ b → u'.heap[k]? = u.heap[k]?) (hb : Below b u u') {p' : Nat → Ce} (hr : Row4 u' b t p') : HoldS4 w b t q p' u' :=
  ⟨hr, fun k hk => ⟨h.1.lim hs ho (h.2.1 k hk).1, (h.2.1 k hk).2⟩, h.1.tab ho h.2.2.1, h.2.2.2.trans hb⟩

theorem HoldS4.sw1a (h : HoldS4 w b t q p u) : HoldS4 w b t q (sw p 1) (((((((u.setCell ⟨b, 3, none⟩ (.bool (p 0).g)).setCell ⟨b, 4, none⟩ (.slice (p 0).A (p 0).n (p 0).c)).setCell ⟨b, 5, none⟩ (.int .i64 (p 0).e)).setCell ⟨b, 0, none⟩ (.bool (p 1).g)).setCell ⟨b, 1, none⟩ (.slice (p 1).A (p 1).n (p 1).c)).setCell ⟨b, 2, none⟩ (.int .i64 (p 1).e))) := by
  show HoldS4 w b t q (sw p 1) (World.put3 (World.put3 u b 3 (p 0)) b 0 (p 1))
  refine h.turn (by rw [put3_size, put3_size]) (fun k hk => by rw [put3_heap _ _ _ _ _ hk, put3_heap _ _ _ _ _ hk]) (below_put3 (below_put3 (Below.refl _ _) (Nat.le_refl _) _ _) (Nat.le_refl _) _ _) ?_
  have e := h.1
  unfold Row4 at e ⊢
  simp [World.setCell, Array.getElem?_modify, e, sw]
theorem HoldS4.sw1b (h : HoldS4 w b t q p u) : HoldS4 w b t q (sw p 1) (((((((u.setCell ⟨b, 0, none⟩ (.bool (p 1).g)).setCell ⟨b, 1, none⟩ (.slice (p 1).A (p 1).n (p 1).c)).setCell ⟨b, 2, none⟩ (.int .i64 (p 1).e)).setCell ⟨b, 3, none⟩ (.bool (p 0).g)).setCell ⟨b, 4, none⟩ (.slice (p 0).A (p 0).n (p 0).c)).setCell ⟨b, 5, none⟩ (.int .i64 (p 0).e))) := by
  show HoldS4 w b t q (sw p 1) (World.put3 (World.put3 u b 0 (p 1)) b 3 (p 0))
  refine h.turn (by rw [put3_size, put3_size]) (fun k hk => by rw [put3_heap _ _ _ _ _ hk, put3_heap _ _ _ _ _ hk]) (below_put3 (below_put3 (Below.refl _ _) (Nat.le_refl _) _ _) (Nat.le_refl _) _ _) ?_
  have e := h.1
  unfold Row4 at e ⊢
  simp [World.setCell, Array.getElem?_modify, e, sw]
theorem HoldS4.sw2a (h : HoldS4 w b t q p u) : HoldS4 w b t q (sw p 2) (((((((u.setCell ⟨b, 6, none⟩ (.bool (p 1).g)).setCell ⟨b, 7, none⟩ (.slice (p 1).A (p 1).n (p 1).c)).setCell ⟨b, 8, none⟩ (.int .i64 (p 1).e)).setCell ⟨b, 3, none⟩ (.bool (p 2).g)).setCell ⟨b, 4, none⟩ (.slice (p 2).A (p 2).n (p 2).c)).setCell ⟨b, 5, none⟩ (.int .i64 (p 2).e))) := by
  show HoldS4 w b t q (sw p 2) (World.put3 (World.put3 u b 6 (p 1)) b 3 (p 2))
  refine h.turn (by rw [put3_size, put3_size]) (fun k hk => by rw [put3_heap _ _ _ _ _ hk, put3_heap _ _ _ _ _ hk]) (below_put3 (below_put3 (Below.refl _ _) (Nat.le_refl _) _ _) (Nat.le_refl _) _ _) ?_
  have e := h.1
  unfold Row4 at e ⊢
  simp [World.setCell, Array.getElem?_modify, e, sw]
theorem HoldS4.sw2b (h : HoldS4 w b t q p u) : HoldS4 w b t q (sw p 2) (((((((u.setCell ⟨b, 3, none⟩ (.bool (p 2).g)).setCell ⟨b, 4, none⟩ (.slice (p 2).A (p 2).n (p 2).c)).setCell ⟨b, 5, none⟩ (.int .i64 (p 2).e)).setCell ⟨b, 6, none⟩ (.bool (p 1).g)).setCell ⟨b, 7, none⟩ (.slice (p 1).A (p 1).n (p 1).c)).setCell ⟨b, 8, none⟩ (.int .i64 (p 1).e))) := by
  show HoldS4 w b t q (sw p 2) (World.put3 (World.put3 u b 3 (p 2)) b 6 (p 1))
  refine h.turn (by rw [put3_size, put3_size]) (fun k hk => by rw [put3_heap _ _ _ _ _ hk, put3_heap _ _ _ _ _ hk]) (below_put3 (below_put3 (Below.refl _ _) (Nat.le_refl _) _ _) (Nat.le_refl _) _ _) ?_
  have e := h.1
  unfold Row4 at e ⊢
  simp [World.setCell, Array.getElem?_modify, e, sw]
theorem HoldS4.sw3a (h : HoldS4 w b t q p u) : HoldS4 w b t q (sw p 3) (((((((u.setCell ⟨b, 9, none⟩ (.bool (p 2).g)).setCell ⟨b, 10, none⟩ (.slice (p 2).A (p 2).n (p 2).c)).setCell ⟨b, 11, none⟩ (.int .i64 (p 2).e)).setCell ⟨b, 6, none⟩ (.bool (p 3).g)).setCell ⟨b, 7, none⟩ (.slice (p 3).A (p 3).n (p 3).c)).setCell ⟨b, 8, none⟩ (.int .i64 (p 3).e))) := by
  show HoldS4 w b t q (sw p 3) (World.put3 (World.put3 u b 9 (p 2)) b 6 (p 3))
  refine h.turn (by rw [put3_size, put3_size]) (fun k hk => by rw [put3_heap _ _ _ _ _ hk, put3_heap _ _ _ _ _ hk]) (below_put3 (below_put3 (Below.refl _ _) (Nat.le_refl _) _ _) (Nat.le_refl _) _ _) ?_
  have e := h.1
  unfold Row4 at e ⊢
  simp [World.setCell, Array.getElem?_modify, e, sw]
theorem HoldS4.sw3b (h : HoldS4 w b t q p u) : HoldS4 w b t q (sw p 3) (((((((u.setCell ⟨b, 6, none⟩ (.bool (p 3).g)).setCell ⟨b, 7, none⟩ (.slice (p 3).A (p 3).n (p 3).c)).setCell ⟨b, 8, none⟩ (.int .i64 (p 3).e)).setCell ⟨b, 9, none⟩ (.bool (p 2).g)).setCell ⟨b, 10, none⟩ (.slice (p 2).A (p 2).n (p 2).c)).setCell ⟨b, 11, none⟩ (.int .i64 (p 2).e))) := by
  show HoldS4 w b t q (sw p 3) (World.put3 (World.put3 u b 6 (p 3)) b 9 (p 2))
  refine h.turn (by rw [put3_size, put3_size]) (fun k hk => by rw [put3_heap _ _ _ _ _ hk, put3_heap _ _ _ _ _ hk]) (below_put3 (below_put3 (Below.refl _ _) (Nat.le_refl _) _ _) (Nat.le_refl _) _ _) ?_
  have e := h.1
  unfold Row4 at e ⊢
  simp [World.setCell, Array.getElem?_modify, e, sw]
theorem HoldS4.c0 (h : HoldS4 w b t q p u) : u.cell? ⟨b, 0, none⟩ = some (.bool (p 0).g) ∧ u.cell? ⟨b, 1, none⟩ = some (.slice (p 0).A (p 0).n (p 0).c) ∧ u.cell? ⟨b, 2, none⟩ = some (.int .i64 (p 0).e) := h.1.c0
theorem HoldS4.c1 (h : HoldS4 w b t q p u) : u.cell? ⟨b, 3, none⟩ = some (.bool (p 1).g) ∧ u.cell? ⟨b, 4, none⟩ = some (.slice (p 1).A (p 1).n (p 1).c) ∧ u.cell? ⟨b, 5, none⟩ = some (.int .i64 (p 1).e) := h.1.c1
theorem HoldS4.c2 (h : HoldS4 w b t q p u) : u.cell? ⟨b, 6, none⟩ = some (.bool (p 2).g) ∧ u.cell? ⟨b, 7, none⟩ = some (.slice (p 2).A (p 2).n (p 2).c) ∧ u.cell? ⟨b, 8, none⟩ = some (.int .i64 (p 2).e) := h.1.c2
theorem HoldS4.c3 (h : HoldS4 w b t q p u) : u.cell? ⟨b, 9, none⟩ = some (.bool (p 3).g) ∧ u.cell? ⟨b, 10, none⟩ = some (.slice (p 3).A (p 3).n (p 3).c) ∧ u.cell? ⟨b, 11, none⟩ = some (.int .i64 (p 3).e) := h.1.c3
theorem HoldS4.s1 (h : HoldS4 w b t q p u) : u.cell? ⟨b, 3, none⟩ = some (.bool (p 1).g) ∧ u.cell? ⟨b, 4, none⟩ = some (.slice (p 1).A (p 1).n (p 1).c) ∧ u.cell? ⟨b, 5, none⟩ = some (.int .i64 (p 1).e) ∧ u.cell? ⟨b, 0, none⟩ = some (.bool (p 0).g) ∧ u.cell? ⟨b, 1, none⟩ = some (.slice (p 0).A (p 0).n (p 0).c) ∧ u.cell? ⟨b, 2, none⟩ = some (.int .i64 (p 0).e) := ⟨h.1.c1.1, h.1.c1.2.1, h.1.c1.2.2, h.1.c0⟩
theorem HoldS4.s2 (h : HoldS4 w b t q p u) : u.cell? ⟨b, 6, none⟩ = some (.bool (p 2).g) ∧ u.cell? ⟨b, 7, none⟩ = some (.slice (p 2).A (p 2).n (p 2).c) ∧ u.cell? ⟨b, 8, none⟩ = some (.int .i64 (p 2).e) ∧ u.cell? ⟨b, 3, none⟩ = some (.bool (p 1).g) ∧ u.cell? ⟨b, 4, none⟩ = some (.slice (p 1).A (p 1).n (p 1).c) ∧ u.cell? ⟨b, 5, none⟩ = some (.int .i64 (p 1).e) := ⟨h.1.c2.1, h.1.c2.2.1, h.1.c2.2.2, h.1.c1⟩
theorem HoldS4.s3 (h : HoldS4 w b t q p u) : u.cell? ⟨b, 9, none⟩ = some (.bool (p 3).g) ∧ u.cell? ⟨b, 10, none⟩ = some (.slice (p 3).A (p 3).n (p 3).c) ∧ u.cell? ⟨b, 11, none⟩ = some (.int .i64 (p 3).e) ∧ u.cell? ⟨b, 6, none⟩ = some (.bool (p 2).g) ∧ u.cell? ⟨b, 7, none⟩ = some (.slice (p 2).A (p 2).n (p 2).c) ∧ u.cell? ⟨b, 8, none⟩ = some (.int .i64 (p 2).e) := ⟨h.1.c3.1, h.1.c3.2.1, h.1.c3.2.2, h.1.c2⟩
end

set_option maxHeartbeats 4000000 in
set_option maxRecDepth 20000 in
theorem insert4_l (q : Nat → Ce) (b t : Nat) (w : World) (hr : Row4 w b t q) (hl : Lim4 w q) (hT : Tab w) :
    Calls Tryd.prog 89 #[.slice (some ⟨b, 0, none⟩) 4 4, .int .i64 0, .int .i64 4, .func (.func 25) #[] #[]] w fun e w' => e = .returned (.tuple #[]) ∧ ∃ p, Same4 q p ∧ Up 4 p ∧ HoldS4 w b t q p w' := by
  have K0 : Hid (HoldS4 w b t q q w) := ⟨hr, hl, hT, Below.refl _ _⟩
  have u0 : Hid (Up 1 q) := fun a c h1 h2 => by omega
  clear hr hl hT
  go_enter Tryd.func89, Tryd.ntmps89
  go_wp2
  go_loopg [8] 4 (fun g1 vi wr => ∃ (i : Nat) (p : Nat → Ce), vi = .int .i64 i ∧ 1 ≤ i ∧ i ≤ 4 ∧ 4 - i ≤ g1 ∧ Hid (Same4 q p ∧ Up i p ∧ HoldS4 w b t q p wr))
  case atStart => exact ⟨1, q, by go_num, by omega, by omega, by omega, same4_refl q, u0.out, K0.out⟩
  case round =>
    obtain ⟨i, p, rfl, hi1, hi2, hg1, HO⟩ := hrel
    clear K0 u0
    by_cases hlt : i < 4
    · have hltz : (i : Int) < 4 := by omega
      go_wp2
      go_loopg [9] i (fun g2 vj wr2 => ∃ (j : Nat) (r : Nat → Ce), vj = .int .i64 j ∧ j ≤ i ∧ j ≤ g2 ∧ Hid (Same4 q r ∧ In i j r ∧ HoldS4 w b t q r wr2))
      case atStart => exact ⟨i, p, rfl, Nat.le_refl _, Nat.le_refl _, HO.out.1, in_start HO.out.2.1, HO.out.2.2⟩
      case round =>
        obtain ⟨j, r, rfl, hji, hg2, HI⟩ := hrel
        clear HO
        have h4 : j = 0 ∨ j = 1 ∨ j = 2 ∨ j = 3 := by omega
        rcases h4 with rfl | rfl | rfl | rfl
        · have K0 := Lib.hid HI.out.2.2
          have U0 : Hid (Same4 q r ∧ Up (i + 1) r) := ⟨HI.out.1, in_nought HI.out.2.1⟩
          clear HI
          go_wp2_with fail
          go_region
          all_goals (replace K0 := Lib.hid (K0.out.below (below_drew _)))
          all_goals go_wp2
          go_roundg (4 - (i + 1))
          case measure => omega
          case rel => exact ⟨i + 1, r, by go_num, by omega, by omega, by omega, U0.out.1, U0.out.2, K0.out⟩
        · obtain ⟨v, hv⟩ : ∃ v, cmpI (r 1).w (r 0).w = v := ⟨_, rfl⟩
          have C : Hid (∀ u, HoldS4 w b t q r u → Calls Tryd.prog 25 #[.agg #[.bool (r 1).g, .slice (r 1).A (r 1).n (r 1).c, .int .i64 (r 1).e], .agg #[.bool (r 0).g, .slice (r 0).A (r 0).n (r 0).c, .int .i64 (r 0).e]] u fun e w' => e = .returned (.int .i64 v) ∧ Below u.heap.size u w') := fun u hu => by
            have l := lim4_of hu.2.1 HI.out.1
            exact dcmp_l v (r 1).g (r 1).A (r 1).n (r 1).c (r 1).xs (r 1).e (r 0).g (r 0).A (r 0).n (r 0).c (r 0).xs (r 0).e u (l 1 (by omega)).1 (l 0 (by omega)).1 (by have := (l 1 (by omega)).2; omega) (by have := (l 0 (by omega)).2; omega) hu.2.2.1 hv
          have K0 := Lib.hid (HI.out.2.2.below (below_drew _))
          by_cases hc : (r 1).w < (r 0).w
          · have cv : decide (v < (0 : Int)) = true := decide_eq_true (by rw [← hv, cmpI_lt hc]; decide)
            have U0 : Hid (Same4 q (sw r 1) ∧ In i 0 (sw r 1)) := ⟨same4_sw HI.out.1 (by omega) (by omega), in_step HI.out.2.1 (by omega) hji hc⟩
            clear HI hv hc
            have x0 : ∀ s : WIn (HoldS4 w b t q r), s.u.cell? ⟨b, 3, none⟩ = some (.bool (r 1).g) := fun s => s.h.s1.1
            have x1 : ∀ s : WIn (HoldS4 w b t q r), s.u.cell? ⟨b, 4, none⟩ = some (.slice (r 1).A (r 1).n (r 1).c) := fun s => s.h.s1.2.1
            have x2 : ∀ s : WIn (HoldS4 w b t q r), s.u.cell? ⟨b, 5, none⟩ = some (.int .i64 (r 1).e) := fun s => s.h.s1.2.2.1
            have x3 : ∀ s : WIn (HoldS4 w b t q r), s.u.cell? ⟨b, 0, none⟩ = some (.bool (r 0).g) := fun s => s.h.s1.2.2.2.1
            have x4 : ∀ s : WIn (HoldS4 w b t q r), s.u.cell? ⟨b, 1, none⟩ = some (.slice (r 0).A (r 0).n (r 0).c) := fun s => s.h.s1.2.2.2.2.1
            have x5 : ∀ s : WIn (HoldS4 w b t q r), s.u.cell? ⟨b, 2, none⟩ = some (.int .i64 (r 0).e) := fun s => s.h.s1.2.2.2.2.2
            have w1 : IntKind.i64.wrap ((1 : Int) - 1) = 0 := by rfl
            have w2 : IntKind.i64.wrap (0 : Int) = 0 := by rfl
            haveI : Nonempty (WIn (HoldS4 w b t q r)) := ⟨⟨_, K0.out⟩⟩
            go_wp2_with fail
            refine wp_region_quietC (C := HoldS4 w b t q r) (by kernel_rfl) (by kernel_rfl) K0.out ?_
            repeat (quiet_step (first | (go_at_call 25; refine (C.out _ (WIn.h _)).mono ?_; rintro e u1 ⟨rfl, hB⟩; exact ⟨rfl, ⟨⟨u1, HoldS4.below (WIn.h _) hB⟩, rfl⟩⟩)))
            refine wpQuiet_nil ?_
            rintro _ ⟨⟨u1, k1⟩, rfl⟩
            clear x0 x1 x2 x3 x4 x5 this
            replace K0 := Lib.hid k1
            clear k1
            obtain ⟨y0, y1, y2, z0, z1, z2⟩ := K0.out.s1
            have yf := K0.out.1.fz
            go_wp2_with fail
            go_region
            all_goals go_wp2
            all_goals (go_roundg 0)
            case measure => omega
            case rel => exact ⟨0, sw r 1, by go_num, by omega, by omega, U0.out.1, U0.out.2, by first | (with_reducible exact K0.out.sw1a.drew4) | (with_reducible exact K0.out.sw1b.drew4)⟩
          · have cv : decide (v < (0 : Int)) = false := decide_eq_false (by have h2 := cmpI_swap (r 1).w (r 0).w; have h3 := cmpI_leB (x := (r 0).w) (y := (r 1).w) (b := true) (decide_eq_true (by omega)); have h4 := of_decide_eq_true h3; omega)
            have U0 : Hid (Same4 q r ∧ Up (i + 1) r) := ⟨HI.out.1, in_stop HI.out.2.1 (by omega) (by show (r 0).w ≤ _; omega)⟩
            clear HI hv hc
            have x0 : ∀ s : WIn (HoldS4 w b t q r), s.u.cell? ⟨b, 3, none⟩ = some (.bool (r 1).g) := fun s => s.h.s1.1
            have x1 : ∀ s : WIn (HoldS4 w b t q r), s.u.cell? ⟨b, 4, none⟩ = some (.slice (r 1).A (r 1).n (r 1).c) := fun s => s.h.s1.2.1
            have x2 : ∀ s : WIn (HoldS4 w b t q r), s.u.cell? ⟨b, 5, none⟩ = some (.int .i64 (r 1).e) := fun s => s.h.s1.2.2.1
            have x3 : ∀ s : WIn (HoldS4 w b t q r), s.u.cell? ⟨b, 0, none⟩ = some (.bool (r 0).g) := fun s => s.h.s1.2.2.2.1
            have x4 : ∀ s : WIn (HoldS4 w b t q r), s.u.cell? ⟨b, 1, none⟩ = some (.slice (r 0).A (r 0).n (r 0).c) := fun s => s.h.s1.2.2.2.2.1
            have x5 : ∀ s : WIn (HoldS4 w b t q r), s.u.cell? ⟨b, 2, none⟩ = some (.int .i64 (r 0).e) := fun s => s.h.s1.2.2.2.2.2
            have w1 : IntKind.i64.wrap ((1 : Int) - 1) = 0 := by rfl
            have w2 : IntKind.i64.wrap (0 : Int) = 0 := by rfl
            haveI : Nonempty (WIn (HoldS4 w b t q r)) := ⟨⟨_, K0.out⟩⟩
            go_wp2_with fail
            refine wp_region_quietC (C := HoldS4 w b t q r) (by kernel_rfl) (by kernel_rfl) K0.out ?_
            repeat (quiet_step (first | (go_at_call 25; refine (C.out _ (WIn.h _)).mono ?_; rintro e u1 ⟨rfl, hB⟩; exact ⟨rfl, ⟨⟨u1, HoldS4.below (WIn.h _) hB⟩, rfl⟩⟩)))
            refine wpQuiet_nil ?_
            rintro _ ⟨⟨u1, k1⟩, rfl⟩
            clear x0 x1 x2 x3 x4 x5 this
            replace K0 := Lib.hid k1
            clear k1
            go_wp2
            go_roundg (4 - (i + 1))
            case measure => omega
            case rel => exact ⟨i + 1, r, by go_num, by omega, by omega, by omega, U0.out.1, U0.out.2, K0.out⟩
        · obtain ⟨v, hv⟩ : ∃ v, cmpI (r 2).w (r 1).w = v := ⟨_, rfl⟩
          have C : Hid (∀ u, HoldS4 w b t q r u → Calls Tryd.prog 25 #[.agg #[.bool (r 2).g, .slice (r 2).A (r 2).n (r 2).c, .int .i64 (r 2).e], .agg #[.bool (r 1).g, .slice (r 1).A (r 1).n (r 1).c, .int .i64 (r 1).e]] u fun e w' => e = .returned (.int .i64 v) ∧ Below u.heap.size u w') := fun u hu => by
            have l := lim4_of hu.2.1 HI.out.1
            exact dcmp_l v (r 2).g (r 2).A (r 2).n (r 2).c (r 2).xs (r 2).e (r 1).g (r 1).A (r 1).n (r 1).c (r 1).xs (r 1).e u (l 2 (by omega)).1 (l 1 (by omega)).1 (by have := (l 2 (by omega)).2; omega) (by have := (l 1 (by omega)).2; omega) hu.2.2.1 hv
          have K0 := Lib.hid (HI.out.2.2.below (below_drew _))
          by_cases hc : (r 2).w < (r 1).w
          · have cv : decide (v < (0 : Int)) = true := decide_eq_true (by rw [← hv, cmpI_lt hc]; decide)
            have U0 : Hid (Same4 q (sw r 2) ∧ In i 1 (sw r 2)) := ⟨same4_sw HI.out.1 (by omega) (by omega), in_step HI.out.2.1 (by omega) hji hc⟩
            clear HI hv hc
            have x0 : ∀ s : WIn (HoldS4 w b t q r), s.u.cell? ⟨b, 6, none⟩ = some (.bool (r 2).g) := fun s => s.h.s2.1
            have x1 : ∀ s : WIn (HoldS4 w b t q r), s.u.cell? ⟨b, 7, none⟩ = some (.slice (r 2).A (r 2).n (r 2).c) := fun s => s.h.s2.2.1
            have x2 : ∀ s : WIn (HoldS4 w b t q r), s.u.cell? ⟨b, 8, none⟩ = some (.int .i64 (r 2).e) := fun s => s.h.s2.2.2.1
            have x3 : ∀ s : WIn (HoldS4 w b t q r), s.u.cell? ⟨b, 3, none⟩ = some (.bool (r 1).g) := fun s => s.h.s2.2.2.2.1
            have x4 : ∀ s : WIn (HoldS4 w b t q r), s.u.cell? ⟨b, 4, none⟩ = some (.slice (r 1).A (r 1).n (r 1).c) := fun s => s.h.s2.2.2.2.2.1
            have x5 : ∀ s : WIn (HoldS4 w b t q r), s.u.cell? ⟨b, 5, none⟩ = some (.int .i64 (r 1).e) := fun s => s.h.s2.2.2.2.2.2
            have w1 : IntKind.i64.wrap ((2 : Int) - 1) = 1 := by rfl
            have w2 : IntKind.i64.wrap (1 : Int) = 1 := by rfl
            haveI : Nonempty (WIn (HoldS4 w b t q r)) := ⟨⟨_, K0.out⟩⟩
            go_wp2_with fail
            refine wp_region_quietC (C := HoldS4 w b t q r) (by kernel_rfl) (by kernel_rfl) K0.out ?_
            repeat (quiet_step (first | (go_at_call 25; refine (C.out _ (WIn.h _)).mono ?_; rintro e u1 ⟨rfl, hB⟩; exact ⟨rfl, ⟨⟨u1, HoldS4.below (WIn.h _) hB⟩, rfl⟩⟩)))
            refine wpQuiet_nil ?_
            rintro _ ⟨⟨u1, k1⟩, rfl⟩
            clear x0 x1 x2 x3 x4 x5 this
            replace K0 := Lib.hid k1
            clear k1
            obtain ⟨y0, y1, y2, z0, z1, z2⟩ := K0.out.s2
            have yf := K0.out.1.fz
            go_wp2_with fail
            go_region
            all_goals go_wp2
            all_goals (go_roundg 1)
            case measure => omega
            case rel => exact ⟨1, sw r 2, by go_num, by omega, by omega, U0.out.1, U0.out.2, by first | (with_reducible exact K0.out.sw2a.drew4) | (with_reducible exact K0.out.sw2b.drew4)⟩
          · have cv : decide (v < (0 : Int)) = false := decide_eq_false (by have h2 := cmpI_swap (r 2).w (r 1).w; have h3 := cmpI_leB (x := (r 1).w) (y := (r 2).w) (b := true) (decide_eq_true (by omega)); have h4 := of_decide_eq_true h3; omega)
            have U0 : Hid (Same4 q r ∧ Up (i + 1) r) := ⟨HI.out.1, in_stop HI.out.2.1 (by omega) (by show (r 1).w ≤ _; omega)⟩
            clear HI hv hc
            have x0 : ∀ s : WIn (HoldS4 w b t q r), s.u.cell? ⟨b, 6, none⟩ = some (.bool (r 2).g) := fun s => s.h.s2.1
            have x1 : ∀ s : WIn (HoldS4 w b t q r), s.u.cell? ⟨b, 7, none⟩ = some (.slice (r 2).A (r 2).n (r 2).c) := fun s => s.h.s2.2.1
            have x2 : ∀ s : WIn (HoldS4 w b t q r), s.u.cell? ⟨b, 8, none⟩ = some (.int .i64 (r 2).e) := fun s => s.h.s2.2.2.1
            have x3 : ∀ s : WIn (HoldS4 w b t q r), s.u.cell? ⟨b, 3, none⟩ = some (.bool (r 1).g) := fun s => s.h.s2.2.2.2.1
            have x4 : ∀ s : WIn (HoldS4 w b t q r), s.u.cell? ⟨b, 4, none⟩ = some (.slice (r 1).A (r 1).n (r 1).c) := fun s => s.h.s2.2.2.2.2.1
            have x5 : ∀ s : WIn (HoldS4 w b t q r), s.u.cell? ⟨b, 5, none⟩ = some (.int .i64 (r 1).e) := fun s => s.h.s2.2.2.2.2.2
            have w1 : IntKind.i64.wrap ((2 : Int) - 1) = 1 := by rfl
            have w2 : IntKind.i64.wrap (1 : Int) = 1 := by rfl
            haveI : Nonempty (WIn (HoldS4 w b t q r)) := ⟨⟨_, K0.out⟩⟩
            go_wp2_with fail
            refine wp_region_quietC (C := HoldS4 w b t q r) (by kernel_rfl) (by kernel_rfl) K0.out ?_
            repeat (quiet_step (first | (go_at_call 25; refine (C.out _ (WIn.h _)).mono ?_; rintro e u1 ⟨rfl, hB⟩; exact ⟨rfl, ⟨⟨u1, HoldS4.below (WIn.h _) hB⟩, rfl⟩⟩)))
            refine wpQuiet_nil ?_
            rintro _ ⟨⟨u1, k1⟩, rfl⟩
            clear x0 x1 x2 x3 x4 x5 this
            replace K0 := Lib.hid k1
            clear k1
            go_wp2
            go_roundg (4 - (i + 1))
            case measure => omega
            case rel => exact ⟨i + 1, r, by go_num, by omega, by omega, by omega, U0.out.1, U0.out.2, K0.out⟩
        · obtain ⟨v, hv⟩ : ∃ v, cmpI (r 3).w (r 2).w = v := ⟨_, rfl⟩
          have C : Hid (∀ u, HoldS4 w b t q r u → Calls Tryd.prog 25 #[.agg #[.bool (r 3).g, .slice (r 3).A (r 3).n (r 3).c, .int .i64 (r 3).e], .agg #[.bool (r 2).g, .slice (r 2).A (r 2).n (r 2).c, .int .i64 (r 2).e]] u fun e w' => e = .returned (.int .i64 v) ∧ Below u.heap.size u w') := fun u hu => by
            have l := lim4_of hu.2.1 HI.out.1
            exact dcmp_l v (r 3).g (r 3).A (r 3).n (r 3).c (r 3).xs (r 3).e (r 2).g (r 2).A (r 2).n (r 2).c (r 2).xs (r 2).e u (l 3 (by omega)).1 (l 2 (by omega)).1 (by have := (l 3 (by omega)).2; omega) (by have := (l 2 (by omega)).2; omega) hu.2.2.1 hv
          have K0 := Lib.hid (HI.out.2.2.below (below_drew _))
          by_cases hc : (r 3).w < (r 2).w
          · have cv : decide (v < (0 : Int)) = true := decide_eq_true (by rw [← hv, cmpI_lt hc]; decide)
            have U0 : Hid (Same4 q (sw r 3) ∧ In i 2 (sw r 3)) := ⟨same4_sw HI.out.1 (by omega) (by omega), in_step HI.out.2.1 (by omega) hji hc⟩
            clear HI hv hc
            have x0 : ∀ s : WIn (HoldS4 w b t q r), s.u.cell? ⟨b, 9, none⟩ = some (.bool (r 3).g) := fun s => s.h.s3.1
            have x1 : ∀ s : WIn (HoldS4 w b t q r), s.u.cell? ⟨b, 10, none⟩ = some (.slice (r 3).A (r 3).n (r 3).c) := fun s => s.h.s3.2.1
            have x2 : ∀ s : WIn (HoldS4 w b t q r), s.u.cell? ⟨b, 11, none⟩ = some (.int .i64 (r 3).e) := fun s => s.h.s3.2.2.1
            have x3 : ∀ s : WIn (HoldS4 w b t q r), s.u.cell? ⟨b, 6, none⟩ = some (.bool (r 2).g) := fun s => s.h.s3.2.2.2.1
            have x4 : ∀ s : WIn (HoldS4 w b t q r), s.u.cell? ⟨b, 7, none⟩ = some (.slice (r 2).A (r 2).n (r 2).c) := fun s => s.h.s3.2.2.2.2.1
            have x5 : ∀ s : WIn (HoldS4 w b t q r), s.u.cell? ⟨b, 8, none⟩ = some (.int .i64 (r 2).e) := fun s => s.h.s3.2.2.2.2.2
            have w1 : IntKind.i64.wrap ((3 : Int) - 1) = 2 := by rfl
            have w2 : IntKind.i64.wrap (2 : Int) = 2 := by rfl
            haveI : Nonempty (WIn (HoldS4 w b t q r)) := ⟨⟨_, K0.out⟩⟩
            go_wp2_with fail
            refine wp_region_quietC (C := HoldS4 w b t q r) (by kernel_rfl) (by kernel_rfl) K0.out ?_
            repeat (quiet_step (first | (go_at_call 25; refine (C.out _ (WIn.h _)).mono ?_; rintro e u1 ⟨rfl, hB⟩; exact ⟨rfl, ⟨⟨u1, HoldS4.below (WIn.h _) hB⟩, rfl⟩⟩)))
            refine wpQuiet_nil ?_
            rintro _ ⟨⟨u1, k1⟩, rfl⟩
            clear x0 x1 x2 x3 x4 x5 this
            replace K0 := Lib.hid k1
            clear k1
            obtain ⟨y0, y1, y2, z0, z1, z2⟩ := K0.out.s3
            have yf := K0.out.1.fz
            go_wp2_with fail
            go_region
            all_goals go_wp2
            all_goals (go_roundg 2)
            case measure => omega
            case rel => exact ⟨2, sw r 3, by go_num, by omega, by omega, U0.out.1, U0.out.2, by first | (with_reducible exact K0.out.sw3a.drew4) | (with_reducible exact K0.out.sw3b.drew4)⟩
          · have cv : decide (v < (0 : Int)) = false := decide_eq_false (by have h2 := cmpI_swap (r 3).w (r 2).w; have h3 := cmpI_leB (x := (r 2).w) (y := (r 3).w) (b := true) (decide_eq_true (by omega)); have h4 := of_decide_eq_true h3; omega)
            have U0 : Hid (Same4 q r ∧ Up (i + 1) r) := ⟨HI.out.1, in_stop HI.out.2.1 (by omega) (by show (r 2).w ≤ _; omega)⟩
            clear HI hv hc
            have x0 : ∀ s : WIn (HoldS4 w b t q r), s.u.cell? ⟨b, 9, none⟩ = some (.bool (r 3).g) := fun s => s.h.s3.1
            have x1 : ∀ s : WIn (HoldS4 w b t q r), s.u.cell? ⟨b, 10, none⟩ = some (.slice (r 3).A (r 3).n (r 3).c) := fun s => s.h.s3.2.1
            have x2 : ∀ s : WIn (HoldS4 w b t q r), s.u.cell? ⟨b, 11, none⟩ = some (.int .i64 (r 3).e) := fun s => s.h.s3.2.2.1
            have x3 : ∀ s : WIn (HoldS4 w b t q r), s.u.cell? ⟨b, 6, none⟩ = some (.bool (r 2).g) := fun s => s.h.s3.2.2.2.1
            have x4 : ∀ s : WIn (HoldS4 w b t q r), s.u.cell? ⟨b, 7, none⟩ = some (.slice (r 2).A (r 2).n (r 2).c) := fun s => s.h.s3.2.2.2.2.1
            have x5 : ∀ s : WIn (HoldS4 w b t q r), s.u.cell? ⟨b, 8, none⟩ = some (.int .i64 (r 2).e) := fun s => s.h.s3.2.2.2.2.2
            have w1 : IntKind.i64.wrap ((3 : Int) - 1) = 2 := by rfl
            have w2 : IntKind.i64.wrap (2 : Int) = 2 := by rfl
            haveI : Nonempty (WIn (HoldS4 w b t q r)) := ⟨⟨_, K0.out⟩⟩
            go_wp2_with fail
            refine wp_region_quietC (C := HoldS4 w b t q r) (by kernel_rfl) (by kernel_rfl) K0.out ?_
            repeat (quiet_step (first | (go_at_call 25; refine (C.out _ (WIn.h _)).mono ?_; rintro e u1 ⟨rfl, hB⟩; exact ⟨rfl, ⟨⟨u1, HoldS4.below (WIn.h _) hB⟩, rfl⟩⟩)))
            refine wpQuiet_nil ?_
            rintro _ ⟨⟨u1, k1⟩, rfl⟩
            clear x0 x1 x2 x3 x4 x5 this
            replace K0 := Lib.hid k1
            clear k1
            go_wp2
            go_roundg (4 - (i + 1))
            case measure => omega
            case rel => exact ⟨i + 1, r, by go_num, by omega, by omega, by omega, U0.out.1, U0.out.2, K0.out⟩
    · have hltz : ¬ (i : Int) < 4 := by omega
      obtain rfl : i = 4 := by omega
      go_wp2
      go_end0
      exact ⟨rfl, p, HO.out⟩

end Go.Proofs.YtafgooiakmmfkaaDoor
