/- Words for memory: a slice value that holds limbs; what keeps it. -/
import Derived.Test.YtgacafdkhailmaaDoorLimbs
import Derived.WalkKit
import Derived.Deep.OwnRows
import Derived.Deep.Draws
import Derived.Lib.Hide
namespace Go.Proofs.YtgacafdkhailmaaDoor
open Go.RowKit

/-- The slice value '.slice A n c' holds the limbs xs. -/
def Lim (w : World) (A : Option Addr) (n c : Nat) (xs : List Nat) : Prop :=
  xs.length = n ∧ n ≤ c ∧ Words xs ∧ (0 < n → ∃ b o, A = some ⟨b, o, none⟩ ∧ b < w.heap.size ∧ ∀ k, k < n → w.cell? ⟨b, o + k, none⟩ = some (.int .u64 ((xs.getD k 0 : Nat) : Int)))

section
variable {w w' : World} {A : Option Addr} {n c : Nat} {xs : List Nat}
theorem Lim.len (h : Lim w A n c xs) : xs.length = n := h.1
theorem Lim.le (h : Lim w A n c xs) : n ≤ c := h.2.1
theorem Lim.words (h : Lim w A n c xs) : Words xs := h.2.2.1
theorem Lim.at_ (h : Lim w A n c xs) (hn : 0 < n) : ∃ b o, A = some ⟨b, o, none⟩ ∧ b < w.heap.size ∧ ∀ k, k < n → w.cell? ⟨b, o + k, none⟩ = some (.int .u64 ((xs.getD k 0 : Nat) : Int)) := h.2.2.2 hn
theorem Lim.keep (h : Lim w A n c xs) (hs : w.heap.size ≤ w'.heap.size) (hk : ∀ p : Addr, p.block < w.heap.size → w'.cell? p = w.cell? p) : Lim w' A n c xs :=
  ⟨h.1, h.2.1, h.2.2.1, fun hn => by
    obtain ⟨b, o, e, hb, hc⟩ := h.at_ hn
    exact ⟨b, o, e, Nat.lt_of_lt_of_le hb hs, fun k hk' => (hk ⟨b, o + k, none⟩ hb).trans (hc k hk')⟩⟩
theorem Lim.below (h : Lim w A n c xs) (hb : Below w.heap.size w w') : Lim w' A n c xs := h.keep hb.size fun _ hp => hb.cell hp
theorem Lim.drewN (h : Lim w A n c xs) (k : Nat) : Lim (w.drewN k) A n c xs := h
theorem Lim.alloc (h : Lim w A n c xs) (o : Obj) : Lim (w.alloc o) A n c xs := h.below ((Below.refl _ _).alloc (Nat.le_refl _) o)
theorem Lim.nil (w : World) (A : Option Addr) (c : Nat) : Lim w A 0 c [] := ⟨rfl, Nat.zero_le _, Words.nil, fun h => absurd h (by omega)⟩
/-- A piece from the front: 's[:m]'. -/
theorem Lim.take (h : Lim w A n c xs) {m : Nat} (hm : m ≤ n) : Lim w A m c (xs.take m) :=
  ⟨by rw [List.length_take, h.1]; omega, Nat.le_trans hm h.2.1, h.2.2.1.take m, fun hn => by
    obtain ⟨b, o, e, hb, hc⟩ := h.at_ (by omega)
    refine ⟨b, o, e, hb, fun k hk => ?_⟩
    rw [hc k (by omega), List.getD_eq_getElem?_getD, List.getD_eq_getElem?_getD, List.getElem?_take_of_lt hk]⟩
theorem Lim.trim (h : Lim w A n c xs) : Lim w A (tl xs) c (xs.take (tl xs)) := h.take (by have := tl_le xs; rw [h.1] at this; exact this)
theorem Lim.tl_le (h : Lim w A n c xs) : tl xs ≤ n := by have := YtgacafdkhailmaaDoor.tl_le xs; rw [h.1] at this; exact this
/-- A row of the call's own that was filled. -/
theorem Lim.row {g : Nat} {t : TypeId} {f : Nat → Value} (h : w.rowIs g t n f) (hl : xs.length = n) (hw : Words xs) (hf : ∀ k, k < n → f k = .int .u64 ((xs.getD k 0 : Nat) : Int)) : Lim w (some ⟨g, 0, none⟩) n n xs :=
  ⟨hl, Nat.le_refl _, hw, fun _ => ⟨g, 0, rfl, h.lt, fun k hk => by rw [Nat.zero_add, h.cell hk, hf k hk]⟩⟩
end

/-- What a call tells that hands back a natural number: bare limbs of value V, at most L of them, nothing old has turned. -/
def Tells (w : World) (V L : Nat) (e : Ending) (w' : World) : Prop :=
  ∃ A m c zs, e = .returned (.slice A m c) ∧ m ≤ L ∧ Lim w' A m c zs ∧ Bare zs ∧ val zs = V ∧ Below w.heap.size w w'
/-- .. with a second result. -/
def Tells2 (w : World) (V L : Nat) (u : Value) (e : Ending) (w' : World) : Prop :=
  ∃ A m c zs, e = .returned (.tuple #[.slice A m c, u]) ∧ m ≤ L ∧ Lim w' A m c zs ∧ Bare zs ∧ val zs = V ∧ Below w.heap.size w w'

theorem Tells.wider {w w' : World} {V L M : Nat} {e : Ending} (h : Tells w V L e w') (hM : L ≤ M) : Tells w V M e w' := by
  obtain ⟨A, m, c, zs, h1, h2, h3⟩ := h
  exact ⟨A, m, c, zs, h1, Nat.le_trans h2 hM, h3⟩
theorem Tells2.wider {w w' : World} {V L M : Nat} {u : Value} {e : Ending} (h : Tells2 w V L u e w') (hM : L ≤ M) : Tells2 w V M u e w' := by
  obtain ⟨A, m, c, zs, h1, h2, h3⟩ := h
  exact ⟨A, m, c, zs, h1, Nat.le_trans h2 hM, h3⟩

theorem below_drewN {B : Nat} {a w : World} (h : Below B a w) (n : Nat) : Below B a (w.drewN n) := ⟨h.os, h.tape, h.output, h.size, h.block⟩


/-- A row of the call's own, L limbs long, that is being filled: its limbs are zs, and 0 behind them; below block g nothing has turned. -/
def Fill (w wr : World) (g t L : Nat) (zs : List Nat) : Prop :=
  Below g w wr ∧ wr.rowIs g t L (fun j => .int .u64 ((zs.getD j 0 : Nat) : Int)) ∧ zs.length ≤ L ∧ Words zs

section
variable {w wr : World} {g t L : Nat} {zs : List Nat}
theorem Fill.below (h : Fill w wr g t L zs) : Below g w wr := h.1
theorem Fill.cell (h : Fill w wr g t L zs) {j : Nat} (hj : j < L) : wr.cell? ⟨g, j, none⟩ = some (.int .u64 ((zs.getD j 0 : Nat) : Int)) := h.2.1.cell hj
theorem Fill.frozen (h : Fill w wr g t L zs) (j : Nat) : wr.frozen? ⟨g, j, none⟩ = false := h.2.1.frozen j
theorem getD_snoc (zs : List Nat) (z j : Nat) : (zs ++ [z]).getD j 0 = if j = zs.length then z else zs.getD j 0 := by
  rw [List.getD_eq_getElem?_getD, List.getD_eq_getElem?_getD, List.getElem?_append]
  split
  · rw [if_neg (by omega)]
  · split
    · rename_i h1 h2; subst h2; simp
    · rename_i h1 h2
      rw [List.getElem?_eq_none (by simp; omega), List.getElem?_eq_none (by omega)]
theorem Fill.start (w : World) (t L : Nat) : Fill w (w.alloc (.cells (madeCells #[.int .u64 0] L) t)) w.heap.size t L [] :=
  ⟨(Below.refl _ _).alloc (Nat.le_refl _) _, (World.rowIs_made w (.int .u64 0) L t).congr (fun _ _ => by simp), Nat.zero_le _, Words.nil⟩
/-- The next limb. -/
theorem Fill.push (h : Fill w wr g t L zs) {z k : Nat} (hk : k = zs.length) (hL : k < L) (hz : z < 18446744073709551616) : Fill w (wr.setCell ⟨g, k, none⟩ (.int .u64 (z : Int))) g t L (zs ++ [z]) := by
  subst hk
  refine ⟨h.1.setCell (Nat.le_refl _) _, (h.2.1.set _ _).congr (fun j _ => ?_), by simp; omega, h.2.2.2.append (Words.one hz)⟩
  rw [getD_snoc]
  split <;> rfl
/-- The last limb anew. -/
theorem Fill.again {q : Nat} (h : Fill w wr g t L (zs ++ [q])) {z k : Nat} (hk : k = zs.length) (hz : z < 18446744073709551616) : Fill w (wr.setCell ⟨g, k, none⟩ (.int .u64 (z : Int))) g t L (zs ++ [z]) := by
  subst hk
  refine ⟨h.1.setCell (Nat.le_refl _) _, (h.2.1.set _ _).congr (fun j _ => ?_), by have := h.2.2.1; simpa using this, fun x hx => ?_⟩
  · rw [getD_snoc, getD_snoc]
    split <;> simp_all
  · rcases List.mem_append.1 hx with hx | hx
    · exact h.2.2.2 x (List.mem_append_left _ hx)
    · rw [List.mem_singleton.1 hx]; exact hz
theorem Fill.drewN (h : Fill w wr g t L zs) (k : Nat) : Fill w (wr.drewN k) g t L zs := ⟨below_drewN h.1 k, h.2.1, h.2.2⟩
/-- Full: it is a number. -/
theorem Fill.done (h : Fill w wr g t L zs) (hl : zs.length = L) : Lim wr (some ⟨g, 0, none⟩) L L zs := Lim.row h.2.1 hl h.2.2.2 (fun _ _ => rfl)
theorem Fill.lim {A : Option Addr} {n c : Nat} {xs : List Nat} (h : Fill w wr w.heap.size t L zs) (ha : Lim w A n c xs) : Lim wr A n c xs := ha.below h.1
end

/-- How a call ends that trims what it has filled. -/
theorem tells_trim {w wr w' : World} {g L V M : Nat} {zs : List Nat} (hl : Lim wr (some ⟨g, 0, none⟩) L L zs) (hb : Below w.heap.size w wr) (hV : val zs = V) (hM : L ≤ M) (hw : wr = w') :
    Tells w V M (.returned (.slice (some ⟨g, 0, none⟩) (tl zs) L)) w' := by
  subst hw
  exact ⟨_, _, _, _, rfl, Nat.le_trans hl.tl_le hM, hl.trim, bare_take zs, by rw [val_take_tl, hV], hb⟩
theorem tells2_trim {w wr w' : World} {g L V M : Nat} {zs : List Nat} {u : Value} (hl : Lim wr (some ⟨g, 0, none⟩) L L zs) (hb : Below w.heap.size w wr) (hV : val zs = V) (hM : L ≤ M) (hw : wr = w') :
    Tells2 w V M u (.returned (.tuple #[.slice (some ⟨g, 0, none⟩) (tl zs) L, u])) w' := by
  subst hw
  exact ⟨_, _, _, _, rfl, Nat.le_trans hl.tl_le hM, hl.trim, bare_take zs, by rw [val_take_tl, hV], hb⟩

end Go.Proofs.YtgacafdkhailmaaDoor
