/- Words for a dyad in a block of its own; what tells a dyad. -/
import Derived.Test.YtgacafdkhailmaaDoorPAlive
import Derived.Test.YtgacafdkhailmaaDoorWShr
import Derived.Test.YtgacafdkhailmaaDoorWShl
import Derived.Test.YtgacafdkhailmaaDoorDyMath
namespace Go.Proofs.YtgacafdkhailmaaDoor
open Go.RowKit

/-- Block b is a variable of type t that holds a dyad. -/
def Bd (w : World) (b t : Nat) (g : Bool) (A : Option Addr) (n c : Nat) (e : Int) : Prop := w.heap[b]? = some (.cells #[.bool g, .slice A n c, .int .i64 e] t)

section
variable {w w' : World} {b t : Nat} {g : Bool} {A : Option Addr} {n c : Nat} {e : Int}
theorem Bd.lt (h : Bd w b t g A n c e) : b < w.heap.size := by
  rcases Nat.lt_or_ge b w.heap.size with h' | h'
  · exact h'
  · rw [Bd, Array.getElem?_eq_none h'] at h; cases h
theorem Bd.new (w : World) (t : Nat) (g : Bool) (A : Option Addr) (n c : Nat) (e : Int) : Bd (w.alloc (.cells #[.bool g, .slice A n c, .int .i64 e] t)) w.heap.size t g A n c e := by
  show (w.heap.push _)[w.heap.size]? = _
  simp
theorem Bd.below (h : Bd w b t g A n c e) (hb : Below w.heap.size w w') : Bd w' b t g A n c e := by
  rw [Bd, hb.block b h.lt]; exact h
theorem Bd.alloc (h : Bd w b t g A n c e) (o : Obj) : Bd (w.alloc o) b t g A n c e := h.below ((Below.refl _ _).alloc (Nat.le_refl _) o)
theorem Bd.c0 (h : Bd w b t g A n c e) : w.cell? ⟨b, 0, none⟩ = some (.bool g) := by simp [World.cell?, show w.heap[b]? = _ from h]
theorem Bd.c1 (h : Bd w b t g A n c e) : w.cell? ⟨b, 1, none⟩ = some (.slice A n c) := by simp [World.cell?, show w.heap[b]? = _ from h]
theorem Bd.c2 (h : Bd w b t g A n c e) : w.cell? ⟨b, 2, none⟩ = some (.int .i64 e) := by simp [World.cell?, show w.heap[b]? = _ from h]
theorem Bd.fz (h : Bd w b t g A n c e) (o : Nat) : w.frozen? ⟨b, o, none⟩ = false := by simp [World.frozen?, show w.heap[b]? = _ from h]
/-- No cell of it is of kind k ≠ i64. -/
theorem Bd.not (h : Bd w b t g A n c e) {o : Nat} {k : IntKind} {z : Int} (hc : w.cell? ⟨b, o, none⟩ = some (.int k z)) : k = .i64 := by
  simp only [World.cell?, show w.heap[b]? = _ from h] at hc
  rcases o with _ | _ | _ | o
  · simp at hc
  · simp at hc
  · simp at hc; exact hc.1.symm
  · simp at hc

/-- A dyad laid into block b. -/
abbrev World.put (w : World) (b : Nat) (g : Bool) (A : Option Addr) (n c : Nat) (e : Int) : World :=
  ((w.setCell ⟨b, 0, none⟩ (.bool g)).setCell ⟨b, 1, none⟩ (.slice A n c)).setCell ⟨b, 2, none⟩ (.int .i64 e)
theorem put_heap (w : World) (b : Nat) (g : Bool) (A : Option Addr) (n c : Nat) (e : Int) (k : Nat) (hk : k ≠ b) : (World.put w b g A n c e).heap[k]? = w.heap[k]? := by
  unfold World.put
  rw [Below.heap_setCell _ _ _ _ hk, Below.heap_setCell _ _ _ _ hk, Below.heap_setCell _ _ _ _ hk]
theorem put_size (w : World) (b : Nat) (g : Bool) (A : Option Addr) (n c : Nat) (e : Int) : (World.put w b g A n c e).heap.size = w.heap.size := by
  simp [World.put, World.setCell]
theorem put_cell (w : World) (b : Nat) (g : Bool) (A : Option Addr) (n c : Nat) (e : Int) (p : Addr) (hp : p.block ≠ b) : (World.put w b g A n c e).cell? p = w.cell? p :=
  World.cell?_of_block (w := w) (put_heap w b g A n c e p.block hp)
theorem below_put {B : Nat} {a w : World} (h : Below B a w) {b : Nat} (hb : B ≤ b) (g : Bool) (A : Option Addr) (n c : Nat) (e : Int) : Below B a (World.put w b g A n c e) :=
  ((h.setCell (p := ⟨b, 0, none⟩) hb _).setCell (p := ⟨b, 1, none⟩) hb _).setCell (p := ⟨b, 2, none⟩) hb _
theorem Bd.put (h : Bd w b t g A n c e) (g' : Bool) (A' : Option Addr) (n' c' : Nat) (e' : Int) : Bd (World.put w b g' A' n' c' e') b t g' A' n' c' e' := by
  unfold Bd at h ⊢
  unfold World.put
  simp [World.setCell, Array.getElem?_modify, h]
theorem Bd.other (h : Bd w b t g A n c e) {b' : Nat} (hb : b ≠ b') (g' : Bool) (A' : Option Addr) (n' c' : Nat) (e' : Int) : Bd (World.put w b' g' A' n' c' e') b t g A n c e := by
  unfold Bd; rw [put_heap _ _ _ _ _ _ _ _ hb]; exact h
/-- A list isn't in such a block. -/
theorem Bd.lim (h : Bd w b t g A n c e) {A1 : Option Addr} {n1 c1 : Nat} {xs : List Nat} (hA : Lim w A1 n1 c1 xs) (g' : Bool) (A' : Option Addr) (n' c' : Nat) (e' : Int) : Lim (World.put w b g' A' n' c' e') A1 n1 c1 xs :=
  ⟨hA.1, hA.2.1, hA.2.2.1, fun hn => by
    obtain ⟨k, o, ek, hk, hc⟩ := hA.at_ hn
    have hne : k ≠ b := by
      rintro rfl
      have := h.not (hc 0 hn)
      cases this
    exact ⟨k, o, ek, by rw [put_size]; exact hk, fun j hj => by rw [put_cell _ _ _ _ _ _ _ _ hne]; exact hc j hj⟩⟩
theorem Bd.tab (h : Bd w b t g A n c e) (hT : Tab w) (g' : Bool) (A' : Option Addr) (n' c' : Nat) (e' : Int) : Tab (World.put w b g' A' n' c' e') := fun j hj => by
  have hne : 0 ≠ b := by
    intro hb
    have hc := hT j hj
    rw [hb] at hc
    have := h.not hc
    cases this
  rw [put_cell _ _ _ _ _ _ _ _ hne]; exact hT j hj
end

/-- The cells of two dyads. -/
abbrev Six (w' : World) (b1 : Nat) (g : Bool) (A : Option Addr) (n c : Nat) (e1 : Int) (b2 : Nat) (k : Bool) (B : Option Addr) (m d : Nat) (e2 : Int) : Prop :=
  w'.cell? ⟨b1, 0, none⟩ = some (.bool g) ∧ w'.cell? ⟨b1, 1, none⟩ = some (.slice A n c) ∧ w'.cell? ⟨b1, 2, none⟩ = some (.int .i64 e1) ∧ w'.cell? ⟨b2, 0, none⟩ = some (.bool k) ∧ w'.cell? ⟨b2, 1, none⟩ = some (.slice B m d) ∧ w'.cell? ⟨b2, 2, none⟩ = some (.int .i64 e2)
theorem Bd.six {w : World} {b1 t1 : Nat} {g : Bool} {A : Option Addr} {n c : Nat} {e1 : Int} {b2 t2 : Nat} {k : Bool} {B : Option Addr} {m d : Nat} {e2 : Int} (h1 : Bd w b1 t1 g A n c e1) (h2 : Bd w b2 t2 k B m d e2) : Six w b1 g A n c e1 b2 k B m d e2 :=
  ⟨h1.c0, h1.c1, h1.c2, h2.c0, h2.c1, h2.c2⟩
theorem Lim.drew {w : World} {A : Option Addr} {n c : Nat} {xs : List Nat} (h : Lim w A n c xs) : Lim w.drew A n c xs := h
theorem Bd.drew {w : World} {b t : Nat} {g : Bool} {A : Option Addr} {n c : Nat} {e : Int} (h : Bd w b t g A n c e) : Bd w.drew b t g A n c e := h

/-- What 'o' says of what was told. -/
def Is (o : Option Dy) (g : Bool) (V : Nat) (E r : Int) : Prop :=
  match o with
  | none => r = 2 ∧ g = false ∧ V = 0 ∧ E = 0
  | some d => r = 0 ∧ g = d.neg ∧ V = d.V ∧ E = d.e
/-- A dyad and an error. -/
def Told (w : World) (o : Option Dy) (L : Nat) (e : Ending) (w' : World) : Prop :=
  ∃ g A m c zs E r, e = .returned (.tuple #[.agg #[.bool g, .slice A m c, .int .i64 E], .int .i64 r]) ∧ m ≤ L ∧ Lim w' A m c zs ∧ Bare zs ∧ Is o g (val zs) E r ∧ Below w.heap.size w w'

theorem bits_l (v : Nat) (A : Option Addr) (n c : Nat) (xs : List Nat) (w : World) (hA : Lim w A n c xs) (hn : n ≤ 4398046511104) (hv : Hid (blen (val xs) = v)) :
    Calls Tryd.prog 64 #[.slice A n c] w fun e w' => e = .returned (.int .i64 (v : Int)) ∧ w = w' := by
  rw [← hv.out]; exact bits_any A n c xs w hA hn
theorem low_l (v : Nat) (A : Option Addr) (n c : Nat) (xs : List Nat) (w : World) (hA : Lim w A n c xs) (hn : n ≤ 4398046511104) (hT : Tab w) (hv : Hid (low (val xs) = v)) :
    Calls Tryd.prog 55 #[.slice A n c] w fun e w' => e = .returned (.int .i64 (v : Int)) ∧ w = w' := by
  rw [← hv.out]; exact low_any A n c xs w hA hn hT
theorem shr_l (N : Nat) (A : Option Addr) (n c : Nat) (xs : List Nat) (w : World) (hA : Lim w A n c xs) (hn : n ≤ 1099511627776) (hT : Tab w) (hN : N ≤ 9223372036854775807) (bb : Bool) (hbb : Hid (decide (val xs % 2 ^ N ≠ 0) = bb)) :
    Calls Tryd.prog 56 #[.slice A n c, .int .i64 (N : Int)] w (Tells2 w (val xs / 2 ^ N) n (.bool bb)) := by
  have h := shr_all A n c xs w hA hn hT (N : Int) (by omega)
  rw [Int.toNat_natCast, hbb.out] at h
  exact h
theorem below_box {w w' : World} {o : Obj} (h : Below (w.alloc o).heap.size (w.alloc o) w') : Below w.heap.size w w' := ((Below.refl _ _).alloc (Nat.le_refl _) _).trans (h.mono (by simp))

theorem held_l (e0 h : Int) (w : World) (hh : Hid (held e0 = h)) : Calls Tryd.prog 58 #[.int .i64 e0] w fun e w' => e = .returned (.int .i64 h) ∧ w = w' := by
  have H : Hid (min (max e0 (-2147483648)) 2147483648 = h) := hh
  go_enter Tryd.func58, Tryd.ntmps58
  go_wp2
  go_ret
  exact ⟨ret_int H.out, rfl⟩
end Go.Proofs.YtgacafdkhailmaaDoor
