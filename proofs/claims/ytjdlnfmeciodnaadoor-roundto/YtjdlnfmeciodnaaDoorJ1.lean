/- Texts joined into one, in build order: Mem, WBits, Open, WTrim, WCmp, WAdd, WSub, WSmall, Laws, DyMath, FlMath, PMath, PBits, PCols, PMul, Digs, WApp, DMem, WNorm. -/
import Derived.Test.YtjdlnfmeciodnaaDoorLimbs
import Derived.WalkKit
import Derived.Deep.OwnRows
import Derived.Deep.Draws
import Derived.Lib.Hide
import Derived.Test.YtjdlnfmeciodnaaDoorProg
import Derived.Laws.Externs
import Derived.Laws.Bits64b
import Derived.Lib.TrailingZeros
import Derived.Shelf.Spec.BitsCarry
import Derived.Shelf.Spec.TrailingZeros
import Derived.Test.YtjdlnfmeciodnaaDoorWLen
import Derived.Test.YtjdlnfmeciodnaaDoorRows
import Derived.ProofKit
import Derived.OpenShut
import Derived.Lib.LaidTab
import Derived.BigQuiet
import Derived.Deep.QuietTactic
import Derived.Laws.CopyOwn
import Derived.Lib.Mul64
import Derived.Maps.AppendAt
import Derived.OwnWalk
import Derived.Deep.RegionHeld3
/- Words for memory: a slice value that holds limbs; what keeps it. -/
namespace Go.Proofs.YtjdlnfmeciodnaaDoor
open Go.RowKit

/-- The slice value '.slice A n c' holds the limbs xs. -/
def Lim (w : World) (A : Option Addr) (n c : Nat) (xs : List Nat) : Prop :=
  xs.length = n ∧ n ≤ c ∧ Words xs ∧ (0 < n → ∃ b o, A = some ⟨b, o, none⟩ ∧ b < w.heap.size ∧ ∀ k, k < n → w.cell? ⟨b, o + k, none⟩ = some (.int .u64 ((xs.getD k 0 : Nat) : Int)))

section
variable {w w' : World} {A : Option Addr} {n c : Nat} {xs : List Nat}
theorem Lim.len (h : Lim w A n c xs) : xs.length = n := h.1
theorem Lim.le (h : Lim w A n c xs) : n ≤ c := h.2.1
theorem Lim.words (h : Lim w A n c xs) : Words xs := h.2.2.1
theorem Lim.at_ (h : Lim w A n c xs) (hn : 0 < n) : ∃ b o, A = some ⟨b, o, none⟩ ∧ b < w.heap.size ∧ ∀ k, k < n → w.cell? ⟨b, o + k, none⟩ = some (.int .u64 ((xs.getD k 0 : Nat) : Int)) := h.2.2.2 hn
theorem Lim.keep (h : Lim w A n c xs) (hs : w.heap.size ≤ w'.heap.size) (hk : ∀ p : Addr, p.block < w.heap.size → w'.cell? p = w.cell? p) : Lim w' A n c xs :=
  ⟨h.1, h.2.1, h.2.2.1, fun hn => by
    obtain ⟨b, o, e, hb, hc⟩ := h.at_ hn
    exact ⟨b, o, e, Nat.lt_of_lt_of_le hb hs, fun k hk' => (hk ⟨b, o + k, none⟩ hb).trans (hc k hk')⟩⟩
theorem Lim.below (h : Lim w A n c xs) (hb : Below w.heap.size w w') : Lim w' A n c xs := h.keep hb.size fun _ hp => hb.cell hp
theorem Lim.drewN (h : Lim w A n c xs) (k : Nat) : Lim (w.drewN k) A n c xs := h
theorem Lim.alloc (h : Lim w A n c xs) (o : Obj) : Lim (w.alloc o) A n c xs := h.below ((Below.refl _ _).alloc (Nat.le_refl _) o)
theorem Lim.nil (w : World) (A : Option Addr) (c : Nat) : Lim w A 0 c [] := ⟨rfl, Nat.zero_le _, Words.nil, fun h => absurd h (by omega)⟩
/-- A piece from the front: 's[:m]'. -/
theorem Lim.take (h : Lim w A n c xs) {m : Nat} (hm : m ≤ n) : Lim w A m c (xs.take m) :=
  ⟨by rw [List.length_take, h.1]; omega, Nat.le_trans hm h.2.1, h.2.2.1.take m, fun hn => by
    obtain ⟨b, o, e, hb, hc⟩ := h.at_ (by omega)
    refine ⟨b, o, e, hb, fun k hk => ?_⟩
    rw [hc k (by omega), List.getD_eq_getElem?_getD, List.getD_eq_getElem?_getD, List.getElem?_take_of_lt hk]⟩
theorem Lim.trim (h : Lim w A n c xs) : Lim w A (tl xs) c (xs.take (tl xs)) := h.take (by have := tl_le xs; rw [h.1] at this; exact this)
theorem Lim.tl_le (h : Lim w A n c xs) : tl xs ≤ n := by have := YtjdlnfmeciodnaaDoor.tl_le xs; rw [h.1] at this; exact this
/-- A row of the call's own that was filled. -/
theorem Lim.row {g : Nat} {t : TypeId} {f : Nat → Value} (h : w.rowIs g t n f) (hl : xs.length = n) (hw : Words xs) (hf : ∀ k, k < n → f k = .int .u64 ((xs.getD k 0 : Nat) : Int)) : Lim w (some ⟨g, 0, none⟩) n n xs :=
  ⟨hl, Nat.le_refl _, hw, fun _ => ⟨g, 0, rfl, h.lt, fun k hk => by rw [Nat.zero_add, h.cell hk, hf k hk]⟩⟩
end

/-- What a call tells that hands back a natural number: bare limbs of value V, at most L of them, nothing old has turned. -/
def Tells (w : World) (V L : Nat) (e : Ending) (w' : World) : Prop :=
  ∃ A m c zs, e = .returned (.slice A m c) ∧ m ≤ L ∧ Lim w' A m c zs ∧ Bare zs ∧ val zs = V ∧ Below w.heap.size w w'
/-- .. with a second result. -/
def Tells2 (w : World) (V L : Nat) (u : Value) (e : Ending) (w' : World) : Prop :=
  ∃ A m c zs, e = .returned (.tuple #[.slice A m c, u]) ∧ m ≤ L ∧ Lim w' A m c zs ∧ Bare zs ∧ val zs = V ∧ Below w.heap.size w w'

theorem Tells.wider {w w' : World} {V L M : Nat} {e : Ending} (h : Tells w V L e w') (hM : L ≤ M) : Tells w V M e w' := by
  obtain ⟨A, m, c, zs, h1, h2, h3⟩ := h
  exact ⟨A, m, c, zs, h1, Nat.le_trans h2 hM, h3⟩
theorem Tells2.wider {w w' : World} {V L M : Nat} {u : Value} {e : Ending} (h : Tells2 w V L u e w') (hM : L ≤ M) : Tells2 w V M u e w' := by
  obtain ⟨A, m, c, zs, h1, h2, h3⟩ := h
  exact ⟨A, m, c, zs, h1, Nat.le_trans h2 hM, h3⟩

theorem below_drewN {B : Nat} {a w : World} (h : Below B a w) (n : Nat) : Below B a (w.drewN n) := ⟨h.os, h.tape, h.output, h.size, h.block⟩


/-- A row of the call's own, L limbs long, that is being filled: its limbs are zs, and 0 behind them; below block g nothing has turned. -/
def Fill (w wr : World) (g t L : Nat) (zs : List Nat) : Prop :=
  Below g w wr ∧ wr.rowIs g t L (fun j => .int .u64 ((zs.getD j 0 : Nat) : Int)) ∧ zs.length ≤ L ∧ Words zs

section
variable {w wr : World} {g t L : Nat} {zs : List Nat}
theorem Fill.below (h : Fill w wr g t L zs) : Below g w wr := h.1
theorem Fill.cell (h : Fill w wr g t L zs) {j : Nat} (hj : j < L) : wr.cell? ⟨g, j, none⟩ = some (.int .u64 ((zs.getD j 0 : Nat) : Int)) := h.2.1.cell hj
theorem Fill.frozen (h : Fill w wr g t L zs) (j : Nat) : wr.frozen? ⟨g, j, none⟩ = false := h.2.1.frozen j
theorem getD_snoc (zs : List Nat) (z j : Nat) : (zs ++ [z]).getD j 0 = if j = zs.length then z else zs.getD j 0 := by
  rw [List.getD_eq_getElem?_getD, List.getD_eq_getElem?_getD, List.getElem?_append]
  split
  · rw [if_neg (by omega)]
  · split
    · rename_i h1 h2; subst h2; simp
    · rename_i h1 h2
      rw [List.getElem?_eq_none (by simp; omega), List.getElem?_eq_none (by omega)]
theorem Fill.start (w : World) (t L : Nat) : Fill w (w.alloc (.cells (madeCells #[.int .u64 0] L) t)) w.heap.size t L [] :=
  ⟨(Below.refl _ _).alloc (Nat.le_refl _) _, (World.rowIs_made w (.int .u64 0) L t).congr (fun _ _ => by simp), Nat.zero_le _, Words.nil⟩
/-- The next limb. -/
theorem Fill.push (h : Fill w wr g t L zs) {z k : Nat} (hk : k = zs.length) (hL : k < L) (hz : z < 18446744073709551616) : Fill w (wr.setCell ⟨g, k, none⟩ (.int .u64 (z : Int))) g t L (zs ++ [z]) := by
  subst hk
  refine ⟨h.1.setCell (Nat.le_refl _) _, (h.2.1.set _ _).congr (fun j _ => ?_), by simp; omega, h.2.2.2.append (Words.one hz)⟩
  rw [getD_snoc]
  split <;> rfl
/-- The last limb anew. -/
theorem Fill.again {q : Nat} (h : Fill w wr g t L (zs ++ [q])) {z k : Nat} (hk : k = zs.length) (hz : z < 18446744073709551616) : Fill w (wr.setCell ⟨g, k, none⟩ (.int .u64 (z : Int))) g t L (zs ++ [z]) := by
  subst hk
  refine ⟨h.1.setCell (Nat.le_refl _) _, (h.2.1.set _ _).congr (fun j _ => ?_), by have := h.2.2.1; simpa using this, fun x hx => ?_⟩
  · rw [getD_snoc, getD_snoc]
    split <;> simp_all
  · rcases List.mem_append.1 hx with hx | hx
    · exact h.2.2.2 x (List.mem_append_left _ hx)
    · rw [List.mem_singleton.1 hx]; exact hz
theorem Fill.drewN (h : Fill w wr g t L zs) (k : Nat) : Fill w (wr.drewN k) g t L zs := ⟨below_drewN h.1 k, h.2.1, h.2.2⟩
/-- Full: it is a number. -/
theorem Fill.done (h : Fill w wr g t L zs) (hl : zs.length = L) : Lim wr (some ⟨g, 0, none⟩) L L zs := Lim.row h.2.1 hl h.2.2.2 (fun _ _ => rfl)
theorem Fill.lim {A : Option Addr} {n c : Nat} {xs : List Nat} (h : Fill w wr w.heap.size t L zs) (ha : Lim w A n c xs) : Lim wr A n c xs := ha.below h.1
end

/-- How a call ends that trims what it has filled. -/
theorem tells_trim {w wr w' : World} {g L V M : Nat} {zs : List Nat} (hl : Lim wr (some ⟨g, 0, none⟩) L L zs) (hb : Below w.heap.size w wr) (hV : val zs = V) (hM : L ≤ M) (hw : wr = w') :
    Tells w V M (.returned (.slice (some ⟨g, 0, none⟩) (tl zs) L)) w' := by
  subst hw
  exact ⟨_, _, _, _, rfl, Nat.le_trans hl.tl_le hM, hl.trim, bare_take zs, by rw [val_take_tl, hV], hb⟩
theorem tells2_trim {w wr w' : World} {g L V M : Nat} {zs : List Nat} {u : Value} (hl : Lim wr (some ⟨g, 0, none⟩) L L zs) (hb : Below w.heap.size w wr) (hV : val zs = V) (hM : L ≤ M) (hw : wr = w') :
    Tells2 w V M u (.returned (.tuple #[.slice (some ⟨g, 0, none⟩) (tl zs) L, u])) w' := by
  subst hw
  exact ⟨_, _, _, _, rfl, Nat.le_trans hl.tl_le hM, hl.trim, bare_take zs, by rw [val_take_tl, hV], hb⟩

end Go.Proofs.YtjdlnfmeciodnaaDoor

/- math/bits.Add64, Sub64 (the model's own entries), TrailingZeros64, Len64 (walked). -/
namespace Go.Proofs.YtjdlnfmeciodnaaDoor
open Go.RowKit

/-- x + y + c, the limb and the carry, each a letter. -/
theorem add64 (x y c s t : Nat) (hc : c ≤ 1) (hs : Hid (s + 18446744073709551616 * t = x + y + c)) (hs' : s < 18446744073709551616) (w : World) :
    (callFunc 67 #[.int .u64 (x : Int), .int .u64 (y : Int), .int .u64 (c : Int)]).run Tryd.prog w = .ok (.value (.tuple #[.int .u64 (s : Int), .int .u64 (t : Int)])) w := by
  rw [run_callFunc_extern Tryd.func67 (by kernel_rfl) (by kernel_rfl) (by kernel_rfl) (e := add64Entry) (by kernel_rfl), run_add64 x y c (by omega) (by omega) (by omega) (by omega)]
  simp only [Result.andThen]
  have := hs.out
  have e1 : ((x : Int) + y + c) % 18446744073709551616 = s := by omega
  have e2 : ((x : Int) + y + c) / 18446744073709551616 = t := by omega
  rw [e1, e2]

/-- x - y - b, the limb and the borrow, each a letter. -/
theorem sub64 (x y b s t : Nat) (hb : b ≤ 1) (hs : Hid (s + y + b = x + 18446744073709551616 * t)) (hs' : s < 18446744073709551616) (hx : x < 18446744073709551616) (hy : y < 18446744073709551616) (w : World) :
    (callFunc 81 #[.int .u64 (x : Int), .int .u64 (y : Int), .int .u64 (b : Int)]).run Tryd.prog w = .ok (.value (.tuple #[.int .u64 (s : Int), .int .u64 (t : Int)])) w := by
  rw [run_callFunc_extern Tryd.func81 (by kernel_rfl) (by kernel_rfl) (by kernel_rfl) (e := sub64Entry) (by kernel_rfl), run_sub64 x y b hb]
  simp only [Result.andThen]
  have := hs.out
  have e1 : (x + 18446744073709551616 - y - b) % 18446744073709551616 = s := by omega
  have e2 : (if x < y + b then 1 else 0) = t := by split <;> omega
  rw [e1, e2]

/-- The table of math/bits, as its initialiser lays it. -/
def Tab (w : World) : Prop := ∀ j, j < Lib.deBruijn64tab.length → w.cell? ⟨0, j, none⟩ = some (.int .u8 ((Lib.deBruijn64tab.getD j 0 : Nat) : Int))

set_option maxHeartbeats 1000000 in
theorem tz_core (x k idx : Nat) (w : World) (hx0 : ((x : Int) == 0) = false)
    (key : IntKind.u64.wrap (bits BinOp.and IntKind.u64 (x : Int) (IntKind.u64.wrap (-(x : Int))) * 285870213051353865) / 288230376151711744 = (idx : Int))
    (hi : idx < 64) (hk : k < 64) (hcell : w.cell? ⟨0, idx, none⟩ = some (.int .u8 (k : Int))) :
    Calls Tryd.prog 79 #[.int .u64 (x : Int)] w fun e w' => e = .returned (.int .i64 (k : Int)) ∧ w = w' := by
  go_enter Tryd.func79, Tryd.ntmps79
  go_wp2_with (simp only [key])
  go_ret
  exact ⟨rfl, rfl⟩

/-- TrailingZeros64 of a limb that is not 0: k, where x = 2^k times an odd number. -/
theorem tz_any (x : Nat) (hx0 : 0 < x) (hx : x < 18446744073709551616) (w : World) (hT : Tab w) :
    ∃ k m : Nat, k < 64 ∧ x = 2 ^ k * (2 * m + 1) ∧ Calls Tryd.prog 79 #[.int .u64 (x : Int)] w fun e w' => e = .returned (.int .i64 (k : Int)) ∧ w = w' := by
  have hne : x ≠ 0 := by omega
  obtain ⟨hlow, hk⟩ := Lib.lowest_bit 64 x hne hx
  obtain ⟨hi, htab⟩ := Lib.deBruijn64_at _ hk
  have hcell := hT _ hi
  rw [htab] at hcell
  obtain ⟨m, hm, hkk⟩ := Lib.ctzFrom_spec 64 x hx0 hx
  have hc := tz_core x _ _ w (by simp; omega) (tz64_key x _ hx hne hlow) hi hk hcell
  have e : Lib.ctz 64 x = Lib.ctzFrom 64 x := by simp [Lib.ctz, hne]
  rw [e] at hc
  exact ⟨Lib.ctzFrom 64 x, m, hkk, hm, hc⟩

end Go.Proofs.YtjdlnfmeciodnaaDoor

/- From what the form reads to what the walks ask: a slice of limbs that came in; the table of math/bits. -/
namespace Go.Proofs.YtjdlnfmeciodnaaDoor
open Go.ChangeShapes Go.WideShapes Go.ChangeAt Go.RowKit

theorem own : ownKnob Tryd.prog.godebug = none := by kernel_rfl
theorem laidOut : laidOutB Tryd.prog = true := by kernel_rfl
theorem gTab : Tryd.prog.globalNamed "math/bits.deBruijn64tab" = some 0 := by kernel_rfl
theorem gTabType : (Tryd.prog.globals[0]?).map (·.type) = some 113 := by kernel_rfl
theorem cellsTab : Tryd.prog.cellsOf 113 = 64 := by kernel_rfl
theorem cellsByte : Tryd.prog.cellsOf 5 = 1 := by kernel_rfl

theorem tab_of_laid {W : World} (h : laidMet Tryd.prog [("math/bits.deBruijn64tab", Rows.laid_math_bits_deBruijn64tab)] W) : Tab W := by
  have hT : Lib.TabIs Tryd.prog W "math/bits.deBruijn64tab" .u8 (Lib.deBruijn64tab.map (fun (z : Nat) => (z : Int))) :=
    Lib.tabIs_of_head (rest := []) gTab gTabType Tryd.underlying113 Tryd.underlying5 cellsByte cellsTab h
  intro j hj
  have := hT.cell gTab j (by simpa using hj)
  rw [this]
  simp only [List.getD_eq_getElem?_getD, List.getElem?_map, List.getElem?_eq_getElem hj, Option.map_some, Option.getD_some]

theorem lim_of_trod {H : Type} {enc : TypeId × Value → H} {W : World} {a : Option Addr} {len cap : Nat} {d : DataW H} {p : List MemPlace}
    (h : DataW.Trod enc Tryd.prog W 0 (fun _ => true) true 22 (.slice a len cap) d p) : ∃ xs, Lim W a len cap xs ∧ len ≤ 9223372036854775807 := by
  obtain ⟨fuel, hf⟩ := h
  rcases open_ints Tryd.underlying22 Tryd.underlying30 (by kernel_rfl) hf with ⟨hcs, _⟩ | ⟨x, l, c, zs, hcs, _, hl, hm, hz, _, hcell, hwz⟩
  · simp [Value.cells] at hcs
    obtain ⟨rfl, rfl, rfl⟩ := hcs
    exact ⟨[], Lim.nil _ _ _, by omega⟩
  · simp [Value.cells] at hcs
    obtain ⟨rfl, rfl, rfl⟩ := hcs
    have hz' : zs.length = cap := by simpa using hz
    unfold maxLen at hm
    have hb : ∀ j, j < zs.length → 0 ≤ zs.getD j 0 ∧ zs.getD j 0 ≤ 18446744073709551615 := fun j hj => by
      rw [List.getD_eq_getElem?_getD, List.getElem?_eq_getElem hj, Option.getD_some]
      exact bounds_u64 (hwz _ (List.getElem_mem hj))
    refine ⟨(zs.take len).map Int.toNat, ⟨by simp; omega, hl, ?_, fun hn => ?_⟩, by omega⟩
    · intro y hy
      obtain ⟨z, hzm, rfl⟩ := List.mem_map.1 hy
      have := bounds_u64 (hwz z (List.mem_of_mem_take hzm))
      omega
    · obtain ⟨b, off, spot⟩ := x
      have hc0 := hcell 0 (by omega)
      have hspot : spot = none := by simpa [Addr.add] using World.cell?_spot hc0
      subst hspot
      have hblk : b < W.heap.size := by
        have hc := hcell 0 (by omega)
        have := World.block_lt_of_cell? _ _ hc
        simpa [Addr.add] using this
      refine ⟨b, off, rfl, hblk, fun k hk => ?_⟩
      have hc := hcell k (by omega)
      have e : (⟨b, off, none⟩ : Addr).add k = ⟨b, off + k, none⟩ := by
        unfold Addr.add
        split
        · rename_i h; subst h; rfl
        · rfl
      rw [e] at hc
      rw [hc]
      have hbk := hb k (by omega)
      have e2 : ((zs.take len).map Int.toNat).getD k 0 = (zs.getD k 0).toNat := by
        rw [List.getD_eq_getElem?_getD, List.getElem?_map, List.getElem?_take_of_lt hk, List.getElem?_eq_getElem (by omega), List.getD_eq_getElem?_getD, List.getElem?_eq_getElem (by omega)]; rfl
      rw [e2, Int.toNat_of_nonneg hbk.1]
end Go.Proofs.YtjdlnfmeciodnaaDoor

/- The walks of nat.trim, nat.at, nat.order. -/
namespace Go.Proofs.YtjdlnfmeciodnaaDoor
open Go.RowKit

set_option maxHeartbeats 400000 in
theorem trim_any (A : Option Addr) (n c : Nat) (xs : List Nat) (w : World) (h : Lim w A n c xs) (hn : n ≤ 4398046511104) :
    Calls Tryd.prog 64 #[.slice A n c] w fun e w' => e = .returned (.slice A (tl xs) c) ∧ w = w' := by
  obtain ⟨hl, hc, hw, hcell⟩ := h
  have Hcell := Lib.hid hcell
  have Hl := Lib.hid hl
  clear hcell hl hw
  go_enter Tryd.func64, Tryd.ntmps64
  go_wp2
  go_loop [3] (fun i => ∃ k : Nat, k ≤ n ∧ i = .int .i64 k ∧ Hid (∀ j, k ≤ j → j < xs.length → xs.getD j 0 = 0)) (fun i => (intOf i).toNat)
  case atStart => exact ⟨n, Nat.le_refl _, rfl, fun j h1 h2 => by have := Hl.out; omega⟩
  case round =>
    obtain ⟨k, hk, rfl, hz⟩ := hrel
    cases k with
    | zero =>
      have H := Lib.hid (tl_eq (k := 0) (xs := xs) hz.out (fun j hj => by omega))
      go_wp2
      go_ret
      exact ⟨by rw [H.out]; rfl, rfl⟩
    | succ k =>
      obtain ⟨b, o, rfl, hb, hcl⟩ := Hcell.out (by omega)
      have c1 := hcl k (by omega)
      clear hcl
      have hx0 : ∃ x, x = xs.getD k 0 := ⟨_, rfl⟩
      obtain ⟨x, hx⟩ := hx0
      rw [← hx] at c1
      have Hx := Lib.hid hx
      clear hx
      by_cases h0 : x = 0
      · subst h0
        go_wp2
        go_round
        case rel => exact ⟨k, by omega, by go_num, fun j h1 h2 => by
          by_cases e : j = k
          · rw [e]; exact Hx.out.symm
          · exact hz.out j (by omega) h2⟩
        case measure => simp [intOf]
      · have hb0 : ((x : Int) == 0) = false := beq_eq_false_iff_ne.2 (by omega)
        have H := Lib.hid (tl_eq (k := k + 1) (xs := xs) hz.out (fun j hj => by obtain rfl : j = k := (by omega); rw [← Hx.out]; exact h0))
        clear h0
        go_wp2
        go_ret
        exact ⟨by rw [H.out]; rfl, rfl⟩

theorem at_any (A : Option Addr) (n c : Nat) (xs : List Nat) (i : Nat) (w : World) (h : Lim w A n c xs) (hn : n ≤ 4398046511104) (hi : i ≤ 4398046511104) :
    Calls Tryd.prog 68 #[.slice A n c, .int .i64 (i : Int)] w fun e w' => e = .returned (.int .u64 ((xs.getD i 0 : Nat) : Int)) ∧ w = w' := by
  obtain ⟨hl, hc, hw, hcell⟩ := h
  have Hl := Lib.hid hl
  clear hl hw
  obtain ⟨x, hx⟩ : ∃ x, x = xs.getD i 0 := ⟨_, rfl⟩
  rw [← hx]
  have Hx := Lib.hid hx
  clear hx
  by_cases hlt : i < n
  · obtain ⟨b, o, rfl, hb, hcl⟩ := hcell (by omega)
    have c1 := hcl i hlt
    rw [← Hx.out] at c1
    clear hcl hcell
    go_enter Tryd.func68, Tryd.ntmps68
    go_wp2
    go_ret
    exact ⟨rfl, rfl⟩
  · have H0 : Hid (x = 0) := Hx.out.trans (by rw [List.getD_eq_getElem?_getD, List.getElem?_eq_none (by have := Hl.out; omega)]; rfl)
    clear hcell
    go_enter Tryd.func68, Tryd.ntmps68
    go_wp2
    go_ret
    exact ⟨by rw [H0.out]; rfl, rfl⟩

theorem order_true (w : World) : Calls Tryd.prog 80 #[.bool true] w fun e w' => e = .returned (.int .i64 (-1)) ∧ w = w' := by
  go_enter Tryd.func80, Tryd.ntmps80
  go_wp2
  go_ret
  exact ⟨rfl, rfl⟩
theorem order_false (w : World) : Calls Tryd.prog 80 #[.bool false] w fun e w' => e = .returned (.int .i64 1) ∧ w = w' := by
  go_enter Tryd.func80, Tryd.ntmps80
  go_wp2
  go_ret
  exact ⟨rfl, rfl⟩
end Go.Proofs.YtjdlnfmeciodnaaDoor

/- The walk of nat.Cmp: the order of any two numbers. -/
namespace Go.Proofs.YtjdlnfmeciodnaaDoor
open Go.RowKit

theorem trim_to (m : Nat) (A : Option Addr) (n c : Nat) (xs : List Nat) (w : World) (h : Lim w A n c xs) (hn : n ≤ 4398046511104) (hm : Hid (tl xs = m)) :
    Calls Tryd.prog 64 #[.slice A n c] w fun e w' => e = .returned (.slice A m c) ∧ w = w' := by
  rw [← hm.out]; exact trim_any A n c xs w h hn

/-- A callee that leaves the world alone, in a quiet region behind other draws. -/
theorem quiet_more {P : Program} {f : FuncId} {args : Array Value} {w : World} {a n : Nat} {v : Value}
    (h : Calls P f args (w.drewN (a + n)) fun e w' => e = .returned v ∧ w.drewN (a + n) = w') : Calls P f args (w.drewN (a + n)) fun e w'' => e = .returned v ∧ ∃ m, w'' = w.drewN (a + m) :=
  h.mono fun _ _ ⟨he, hm⟩ => ⟨he, n, hm.symm⟩

set_option maxHeartbeats 1000000 in
theorem cmp_any (A : Option Addr) (n c : Nat) (xs : List Nat) (B : Option Addr) (m d : Nat) (ys : List Nat) (w : World) (hA : Lim w A n c xs) (hB : Lim w B m d ys) (hn : n ≤ 1099511627776) (hm : m ≤ 1099511627776) :
    Calls Tryd.prog 69 #[.slice A n c, .slice B m d] w fun e w' => e = .returned (.int .i64 (cmpZ (val xs) (val ys))) ∧ ∃ q, w' = w.drewN q := by
  have hwx := hA.words
  have hwy := hB.words
  have tlx := hA.tl_le
  have tly := hB.tl_le
  rcases Nat.lt_trichotomy (tl xs) (tl ys) with hlt | heq | hgt
  · have HV := Lib.hid (cmpZ_lt (val_lt_of_tl_lt hwx hlt))
    clear hwx hwy
    obtain ⟨l, hl⟩ : ∃ l, tl xs = l := ⟨_, rfl⟩
    obtain ⟨k, hk⟩ : ∃ k, tl ys = k := ⟨_, rfl⟩
    rw [hl] at hlt tlx
    rw [hk] at hlt tly
    have Hl := Lib.hid hl
    have Hk := Lib.hid hk
    clear hl hk
    have b1 : ((l : Int) != (k : Int)) = true := by rw [bne_iff_ne]; omega
    have b2 : decide (l < k) = true := by simp; omega
    go_enter Tryd.func69, Tryd.ntmps69
    go_wp2_with fail
    refine (trim_to l A n c xs _ hA (by omega) Hl).mono ?_
    rintro e w' ⟨rfl, rfl⟩
    go_wp2_with fail
    refine (trim_to k B m d ys _ hB (by omega) Hk).mono ?_
    rintro e w' ⟨rfl, rfl⟩
    go_wp2_with fail
    refine (order_true _).mono ?_
    rintro e w' ⟨rfl, rfl⟩
    go_wp2
    go_ret
    exact ⟨by rw [HV.out]; rfl, 0, rfl⟩
  · obtain ⟨l, hk⟩ : ∃ l, tl ys = l := ⟨_, rfl⟩
    have hl : tl xs = l := heq.trans hk
    have HVx := Lib.hid (val_take_tl xs)
    have HVy := Lib.hid (val_take_tl ys)
    rw [hl] at HVx tlx
    rw [hk] at HVy tly
    have Hl := Lib.hid hl
    have Hk := Lib.hid hk
    have Hlx := Lib.hid hA.len
    have Hly := Lib.hid hB.len
    have Hwx := Lib.hid hwx
    have Hwy := Lib.hid hwy
    have Hax := Lib.hid (hA.2.2.2)
    have Hay := Lib.hid (hB.2.2.2)
    clear heq hl hk hwx hwy
    have b1 : ((l : Int) != (l : Int)) = false := by simp
    go_enter Tryd.func69, Tryd.ntmps69
    go_wp2_with fail
    refine (trim_to l A n c xs _ hA (by omega) Hl).mono ?_
    rintro e w' ⟨rfl, rfl⟩
    go_wp2_with fail
    refine (trim_to l B m d ys _ hB (by omega) Hk).mono ?_
    rintro e w' ⟨rfl, rfl⟩
    go_wp2_with fail
    clear b1 hA hB
    go_loopw [5] (fun i wr => ∃ k q : Nat, k ≤ l ∧ i = .int .i64 ((k : Int) - 1) ∧ wr = w.drewN q ∧ Hid (∀ j, k ≤ j → j < l → xs.getD j 0 = ys.getD j 0)) (fun i _ => (intOf i + 1).toNat)
    case atStart => exact ⟨l, 0, Nat.le_refl _, rfl, rfl, fun j h1 h2 => by omega⟩
    case round =>
      obtain ⟨k, q, hk, rfl, rfl, hz⟩ := hrel
      cases k with
      | zero =>
        have HV := Lib.hid (cmpZ_eq (HVx.out.symm.trans ((take_congr (fun j hj => hz.out j (Nat.zero_le _) hj)).trans HVy.out)))
        go_wp2
        go_ret
        exact ⟨by rw [HV.out]; rfl, q, rfl⟩
      | succ k =>
        rw [show (((k + 1 : Nat) : Int) - 1) = (k : Int) from by omega]
        obtain ⟨b, o, rfl, hb, hcl⟩ := Hax.out (by omega)
        have c1 := hcl k (by omega)
        clear hcl
        obtain ⟨b', o', rfl, hb', hcl⟩ := Hay.out (by omega)
        have c2 := hcl k (by omega)
        clear hcl
        obtain ⟨x, hx⟩ : ∃ x, xs.getD k 0 = x := ⟨_, rfl⟩
        obtain ⟨y, hy⟩ : ∃ y, ys.getD k 0 = y := ⟨_, rfl⟩
        rw [hx] at c1
        rw [hy] at c2
        have Hx := Lib.hid hx
        have Hy := Lib.hid hy
        clear hx hy
        have hk1 : (k : Int) < (l : Int) := by omega
        rcases Nat.lt_trichotomy x y with hlt | heq | hgt
        · have b3 : ((x : Int) != (y : Int)) = true := by rw [bne_iff_ne]; omega
          have b4 : decide (x < y) = true := by simp; omega
          have HV := Lib.hid (cmpZ_lt (show val xs < val ys by
            rw [← HVx.out, ← HVy.out]
            exact val_lt_of_digit Hwx.out (i := k) (by omega) (by have := Hlx.out; omega) (by have := Hly.out; omega) (fun j h1 h2 => hz.out j (by omega) h2) (by rw [Hx.out, Hy.out]; exact hlt)))
          go_wp2
          go_quiet (fail)
          go_wp2
          go_quiet ((go_at_call 80; exact quiet_more (order_true _)))
          go_wp2
          go_ret
          exact ⟨by rw [HV.out]; rfl, _, by simp only [World.drewN_drewN]; rfl⟩
        · subst heq
          have b3 : ((x : Int) != (x : Int)) = false := by simp
          go_wp2
          go_quiet (fail)
          go_wp2
          go_roundw
          case rel => exact ⟨k, _, by omega, by go_num, rfl, fun j h1 h2 => by
            by_cases e : j = k
            · rw [e, Hx.out, Hy.out]
            · exact hz.out j (by omega) h2⟩
          case measure => simp [intOf]
        · have b3 : ((x : Int) != (y : Int)) = true := by rw [bne_iff_ne]; omega
          have b4 : decide (x < y) = false := by simp; omega
          have HV := Lib.hid (cmpZ_gt (show val ys < val xs by
            rw [← HVx.out, ← HVy.out]
            exact val_lt_of_digit Hwy.out (i := k) (by omega) (by have := Hly.out; omega) (by have := Hlx.out; omega) (fun j h1 h2 => (hz.out j (by omega) h2).symm) (by rw [Hx.out, Hy.out]; exact hgt)))
          go_wp2
          go_quiet (fail)
          go_wp2
          go_quiet ((go_at_call 80; exact quiet_more (order_false _)))
          go_wp2
          go_ret
          exact ⟨by rw [HV.out]; rfl, _, by simp only [World.drewN_drewN]; rfl⟩
  · have HV := Lib.hid (cmpZ_gt (val_lt_of_tl_lt hwy hgt))
    clear hwx hwy
    obtain ⟨l, hl⟩ : ∃ l, tl xs = l := ⟨_, rfl⟩
    obtain ⟨k, hk⟩ : ∃ k, tl ys = k := ⟨_, rfl⟩
    rw [hl] at hgt tlx
    rw [hk] at hgt tly
    have Hl := Lib.hid hl
    have Hk := Lib.hid hk
    clear hl hk
    have b1 : ((l : Int) != (k : Int)) = true := by rw [bne_iff_ne]; omega
    have b2 : decide (l < k) = false := by simp; omega
    go_enter Tryd.func69, Tryd.ntmps69
    go_wp2_with fail
    refine (trim_to l A n c xs _ hA (by omega) Hl).mono ?_
    rintro e w' ⟨rfl, rfl⟩
    go_wp2_with fail
    refine (trim_to k B m d ys _ hB (by omega) Hk).mono ?_
    rintro e w' ⟨rfl, rfl⟩
    go_wp2_with fail
    refine (order_false _).mono ?_
    rintro e w' ⟨rfl, rfl⟩
    go_wp2
    go_ret
    exact ⟨by rw [HV.out]; rfl, 0, rfl⟩
end Go.Proofs.YtjdlnfmeciodnaaDoor

/- The walk of nat.Add: the sum of any two numbers. -/
namespace Go.Proofs.YtjdlnfmeciodnaaDoor
open Go.RowKit

theorem info64 : (Tryd.prog.info? 30).map (fun i => (i.zero, i.size, i.bytes)) = some (some (.int .u64 0), 1, 8) := by kernel_rfl

theorem add_step {x y cn s t k X Y Z : Nat} (hs : s + 18446744073709551616 * t = x + y + cn) (h : Z + pw k * cn = X + Y) : Z + pw k * s + pw (k + 1) * t = X + pw k * x + (Y + pw k * y) := by
  have e : pw (k + 1) * t = pw k * (18446744073709551616 * t) := by rw [pw_succ, Nat.mul_assoc, ← Nat.mul_assoc, ← Nat.mul_assoc, Nat.mul_comm (pw k)]
  have e2 : pw k * (s + 18446744073709551616 * t) = pw k * (x + y + cn) := by rw [hs]
  rw [Nat.mul_add, Nat.mul_add, Nat.mul_add] at e2
  omega

set_option maxHeartbeats 2000000 in
theorem add_ge (A : Option Addr) (n c : Nat) (xs : List Nat) (B : Option Addr) (m d : Nat) (ys : List Nat) (w : World) (hA : Lim w A n c xs) (hB : Lim w B m d ys) (hn : n ≤ 1099511627776) (hm : m ≤ 1099511627776) (hle : tl ys ≤ tl xs) :
    Calls Tryd.prog 43 #[.slice A n c, .slice B m d] w (Tells w (val xs + val ys) (tl xs + 1)) := by
  have hP := hA.trim
  have hQ := hB.trim
  have HX := Lib.hid (val_take_tl xs)
  have HY := Lib.hid (val_take_tl ys)
  have l1 := hA.tl_le
  have l2 := hB.tl_le
  obtain ⟨la, hla⟩ : ∃ l, tl xs = l := ⟨_, rfl⟩
  obtain ⟨lb, hlb⟩ : ∃ l, tl ys = l := ⟨_, rfl⟩
  rw [hla] at hle l1 hP HX
  rw [hlb] at hle l2 hQ HY
  rw [hla]
  have Hla := Lib.hid hla
  have Hlb := Lib.hid hlb
  clear hla hlb
  generalize xs.take la = ps at hP HX
  generalize ys.take lb = qs at hQ HY
  have hmk := run_make_row' (P := Tryd.prog) 22 30 (.int .u64 0) 8 Tryd.underlying22 info64 rfl .i64 .i64 (la + 1) (by omega) (by omega)
  rw [show ((la + 1 : Nat) : Int) = (la : Int) + 1 from by omega] at hmk
  have b1 : decide (la < lb) = false := by simp; omega
  go_enter Tryd.func43, Tryd.ntmps43
  go_wp2_with fail
  refine (trim_to la A n c xs _ hA (by omega) Hla).mono ?_
  rintro e w' ⟨rfl, rfl⟩
  go_wp2_with fail
  refine (trim_to lb B m d ys _ hB (by omega) Hlb).mono ?_
  rintro e w' ⟨rfl, rfl⟩
  go_wp2_with fail
  clear hmk b1
  go_loopw [6, 26] (fun cy i wr => ∃ (k cn : Nat) (zs : List Nat), k ≤ la ∧ i = .int .i64 k ∧ cy = .int .u64 cn ∧ cn ≤ 1 ∧ Hid (zs.length = k) ∧ Fill w wr w.heap.size 30 (la + 1) zs ∧ Hid (val zs + pw k * cn = val (ps.take k) + val (qs.take k))) (fun _ i _ => la - (intOf i).toNat)
  case atStart => exact ⟨0, 0, [], Nat.zero_le _, rfl, rfl, Nat.zero_le _, rfl, Fill.start w _ _, by simp [Hid, val]⟩
  case round =>
    obtain ⟨k, cn, zs, hk, rfl, rfl, hcn, Hzl, hF, HE⟩ := hrel
    by_cases hlt : k < la
    · have hQr := hF.lim hQ
      obtain ⟨b, o, hAe, hb, hcl⟩ := (hF.lim hP).at_ (by omega)
      subst hAe
      have c1 := hcl k hlt
      clear hcl
      have c2 := hF.cell (j := k) (by omega)
      have c3 := hF.frozen k
      have hxw := hP.words.getD k
      have hyw := hQ.words.getD k
      obtain ⟨x, hx⟩ : ∃ x, ps.getD k 0 = x := ⟨_, rfl⟩
      obtain ⟨y, hy⟩ : ∃ y, qs.getD k 0 = y := ⟨_, rfl⟩
      rw [hx] at c1 hxw
      rw [hy] at hyw
      obtain ⟨s, t, hst, hs, ht⟩ : ∃ s t, s + 18446744073709551616 * t = x + y + cn ∧ s < 18446744073709551616 ∧ t ≤ 1 := ⟨(x + y + cn) % 18446744073709551616, (x + y + cn) / 18446744073709551616, by omega, by omega, by omega⟩
      have HE' := Lib.hid (add_step hst HE.out)
      rw [← hx, ← hy, ← val_take_succ', ← val_take_succ'] at HE'
      have hadd := add64 x y cn s t hcn hst hs
      have HF' := Lib.hid (hF.push (z := s) Hzl.out.symm (by omega) hs)
      have Hlen : Hid ((zs ++ [s]).length = k + 1) := by have := Hzl.out; simp [Hid]; omega
      have HE2 : Hid (val (zs ++ [s]) + pw (k + 1) * t = val (ps.take (k + 1)) + val (qs.take (k + 1))) := by rw [val_snoc, Hzl.out]; exact HE'.out
      have Hx := Lib.hid hx
      have Hy := Lib.hid hy
      clear hx hy hst HE HE' hF
      have hat := at_any B lb d qs k
      rw [Hy.out] at hat
      have Hat := Lib.hid hat
      clear hat
      go_wp2_with fail
      refine (Hat.out _ hQr (by omega) (by omega)).mono ?_
      rintro e w' ⟨rfl, rfl⟩
      go_wp2
      go_roundw
      case rel => exact ⟨k + 1, t, zs ++ [s], by omega, by go_num, rfl, ht, Hlen, HF'.out, HE2⟩
      case measure => simp [intOf]; omega
    · obtain rfl : k = la := by omega
      have c2 := hF.cell (j := k) (by omega)
      have c3 := hF.frozen k
      have HF' := Lib.hid (hF.push (z := cn) Hzl.out.symm (by omega) (by omega))
      have hlim := HF'.out.done (by have := Hzl.out; simp; omega)
      have HV : Hid (val (zs ++ [cn]) = val xs + val ys) := by
        rw [val_snoc, Hzl.out]
        refine HE.out.trans ?_
        rw [List.take_of_length_le (by have := hP.len; omega), List.take_of_length_le (by have := hQ.len; omega), HX.out, HY.out]
      have hbel := HF'.out.below
      clear HE hF hP hQ HF'
      go_wp2_with fail
      refine (trim_any _ _ _ (zs ++ [cn]) _ hlim (by omega)).mono ?_
      rintro e w' ⟨rfl, rfl⟩
      go_wp2
      go_ret
      exact tells_trim hlim hbel HV.out (Nat.le_refl _) rfl

set_option maxHeartbeats 2000000 in
theorem add_lt (A : Option Addr) (n c : Nat) (xs : List Nat) (B : Option Addr) (m d : Nat) (ys : List Nat) (w : World) (hA : Lim w A n c xs) (hB : Lim w B m d ys) (hn : n ≤ 1099511627776) (hm : m ≤ 1099511627776) (hle : tl xs < tl ys) :
    Calls Tryd.prog 43 #[.slice A n c, .slice B m d] w (Tells w (val xs + val ys) (tl ys + 1)) := by
  have hP := hB.trim
  have hQ := hA.trim
  have HX := Lib.hid (val_take_tl ys)
  have HY := Lib.hid (val_take_tl xs)
  have l1 := hB.tl_le
  have l2 := hA.tl_le
  obtain ⟨la, hla⟩ : ∃ l, tl ys = l := ⟨_, rfl⟩
  obtain ⟨lb, hlb⟩ : ∃ l, tl xs = l := ⟨_, rfl⟩
  rw [hla] at hle l1 hP HX
  rw [hlb] at hle l2 hQ HY
  rw [hla]
  have Hla := Lib.hid hla
  have Hlb := Lib.hid hlb
  clear hla hlb
  generalize ys.take la = ps at hP HX
  generalize xs.take lb = qs at hQ HY
  have hmk := run_make_row' (P := Tryd.prog) 22 30 (.int .u64 0) 8 Tryd.underlying22 info64 rfl .i64 .i64 (la + 1) (by omega) (by omega)
  rw [show ((la + 1 : Nat) : Int) = (la : Int) + 1 from by omega] at hmk
  have b1 : decide (lb < la) = true := by simp; omega
  go_enter Tryd.func43, Tryd.ntmps43
  go_wp2_with fail
  refine (trim_to lb A n c xs _ hA (by omega) Hlb).mono ?_
  rintro e w' ⟨rfl, rfl⟩
  go_wp2_with fail
  refine (trim_to la B m d ys _ hB (by omega) Hla).mono ?_
  rintro e w' ⟨rfl, rfl⟩
  go_wp2_with fail
  clear hmk b1
  go_loopw [6, 26] (fun cy i wr => ∃ (k cn : Nat) (zs : List Nat), k ≤ la ∧ i = .int .i64 k ∧ cy = .int .u64 cn ∧ cn ≤ 1 ∧ Hid (zs.length = k) ∧ Fill w wr w.heap.size 30 (la + 1) zs ∧ Hid (val zs + pw k * cn = val (ps.take k) + val (qs.take k))) (fun _ i _ => la - (intOf i).toNat)
  case atStart => exact ⟨0, 0, [], Nat.zero_le _, rfl, rfl, Nat.zero_le _, rfl, Fill.start w _ _, by simp [Hid, val]⟩
  case round =>
    obtain ⟨k, cn, zs, hk, rfl, rfl, hcn, Hzl, hF, HE⟩ := hrel
    by_cases hlt : k < la
    · have hQr := hF.lim hQ
      obtain ⟨b, o, hAe, hb, hcl⟩ := (hF.lim hP).at_ (by omega)
      subst hAe
      have c1 := hcl k hlt
      clear hcl
      have c2 := hF.cell (j := k) (by omega)
      have c3 := hF.frozen k
      have hxw := hP.words.getD k
      have hyw := hQ.words.getD k
      obtain ⟨x, hx⟩ : ∃ x, ps.getD k 0 = x := ⟨_, rfl⟩
      obtain ⟨y, hy⟩ : ∃ y, qs.getD k 0 = y := ⟨_, rfl⟩
      rw [hx] at c1 hxw
      rw [hy] at hyw
      obtain ⟨s, t, hst, hs, ht⟩ : ∃ s t, s + 18446744073709551616 * t = x + y + cn ∧ s < 18446744073709551616 ∧ t ≤ 1 := ⟨(x + y + cn) % 18446744073709551616, (x + y + cn) / 18446744073709551616, by omega, by omega, by omega⟩
      have HE' := Lib.hid (add_step hst HE.out)
      rw [← hx, ← hy, ← val_take_succ', ← val_take_succ'] at HE'
      have hadd := add64 x y cn s t hcn hst hs
      have HF' := Lib.hid (hF.push (z := s) Hzl.out.symm (by omega) hs)
      have Hlen : Hid ((zs ++ [s]).length = k + 1) := by have := Hzl.out; simp [Hid]; omega
      have HE2 : Hid (val (zs ++ [s]) + pw (k + 1) * t = val (ps.take (k + 1)) + val (qs.take (k + 1))) := by rw [val_snoc, Hzl.out]; exact HE'.out
      have Hx := Lib.hid hx
      have Hy := Lib.hid hy
      clear hx hy hst HE HE' hF
      have hat := at_any A lb c qs k
      rw [Hy.out] at hat
      have Hat := Lib.hid hat
      clear hat
      go_wp2_with fail
      refine (Hat.out _ hQr (by omega) (by omega)).mono ?_
      rintro e w' ⟨rfl, rfl⟩
      go_wp2
      go_roundw
      case rel => exact ⟨k + 1, t, zs ++ [s], by omega, by go_num, rfl, ht, Hlen, HF'.out, HE2⟩
      case measure => simp [intOf]; omega
    · obtain rfl : k = la := by omega
      have c2 := hF.cell (j := k) (by omega)
      have c3 := hF.frozen k
      have HF' := Lib.hid (hF.push (z := cn) Hzl.out.symm (by omega) (by omega))
      have hlim := HF'.out.done (by have := Hzl.out; simp; omega)
      have HV : Hid (val (zs ++ [cn]) = val xs + val ys) := by
        rw [val_snoc, Hzl.out]
        refine HE.out.trans ?_
        rw [List.take_of_length_le (by have := hP.len; omega), List.take_of_length_le (by have := hQ.len; omega), HX.out, HY.out]
        exact Nat.add_comm _ _
      have hbel := HF'.out.below
      clear HE hF hP hQ HF'
      go_wp2_with fail
      refine (trim_any _ _ _ (zs ++ [cn]) _ hlim (by omega)).mono ?_
      rintro e w' ⟨rfl, rfl⟩
      go_wp2
      go_ret
      exact tells_trim hlim hbel HV.out (Nat.le_refl _) rfl

theorem add_any (A : Option Addr) (n c : Nat) (xs : List Nat) (B : Option Addr) (m d : Nat) (ys : List Nat) (w : World) (hA : Lim w A n c xs) (hB : Lim w B m d ys) (hn : n ≤ 1099511627776) (hm : m ≤ 1099511627776) :
    Calls Tryd.prog 43 #[.slice A n c, .slice B m d] w (Tells w (val xs + val ys) (max n m + 1)) := by
  have l1 := hA.tl_le
  have l2 := hB.tl_le
  rcases Nat.lt_or_ge (tl xs) (tl ys) with h | h
  · exact (add_lt A n c xs B m d ys w hA hB hn hm h).mono fun _ _ h => h.wider (by omega)
  · exact (add_ge A n c xs B m d ys w hA hB hn hm h).mono fun _ _ h => h.wider (by omega)
end Go.Proofs.YtjdlnfmeciodnaaDoor

/- The walk of nat.Sub: the difference of any two numbers. -/
namespace Go.Proofs.YtjdlnfmeciodnaaDoor
open Go.RowKit

theorem sub_step {x y bn s t k X Y Z : Nat} (hs : s + y + bn = x + 18446744073709551616 * t) (h : Z + Y = X + pw k * bn) : Z + pw k * s + (Y + pw k * y) = X + pw k * x + pw (k + 1) * t := by
  have e : pw (k + 1) * t = pw k * (18446744073709551616 * t) := by rw [pw_succ, Nat.mul_assoc, ← Nat.mul_assoc, ← Nat.mul_assoc, Nat.mul_comm (pw k)]
  have e2 : pw k * (s + y + bn) = pw k * (x + 18446744073709551616 * t) := by rw [hs]
  rw [Nat.mul_add, Nat.mul_add, Nat.mul_add] at e2
  omega

theorem cmpZ_nonneg {x y : Nat} (h : y ≤ x) : 0 ≤ cmpZ x y := by
  rcases Nat.lt_or_ge y x with h' | h'
  · rw [cmpZ_gt h']; decide
  · rw [cmpZ_eq (by omega)]; decide

theorem sub_end {X Y Z bn k : Nat} (h : Z + Y = X + pw k * bn) (hb : bn ≤ 1) (hz : Z < pw k) (hle : Y ≤ X) : Z = X - Y := by
  have : bn = 0 ∨ bn = 1 := by omega
  rcases this with rfl | rfl
  · simp at h; omega
  · simp at h; omega

set_option maxHeartbeats 2000000 in
theorem sub_no (A : Option Addr) (n c : Nat) (xs : List Nat) (B : Option Addr) (m d : Nat) (ys : List Nat) (w : World) (hA : Lim w A n c xs) (hB : Lim w B m d ys) (hn : n ≤ 1099511627776) (hm : m ≤ 1099511627776) (hle : val xs < val ys) :
    Calls Tryd.prog 70 #[.slice A n c, .slice B m d] w fun e w' => e = .returned (.tuple #[.slice none 0 0, .int .i64 1]) ∧ ∃ q, w' = w.drewN q := by
  have hP := hA.trim
  have hQ := hB.trim
  have l1 := hA.tl_le
  have l2 := hB.tl_le
  have hc := cmpZ_lt (show val (xs.take (tl xs)) < val (ys.take (tl ys)) by rw [val_take_tl, val_take_tl]; exact hle)
  have hcmp := cmp_any A (tl xs) c (xs.take (tl xs)) B (tl ys) d (ys.take (tl ys)) w hP hQ (by omega) (by omega)
  rw [hc] at hcmp
  have Hcmp := Lib.hid hcmp
  clear hc hcmp hle
  go_enter Tryd.func70, Tryd.ntmps70
  go_wp2_with fail
  refine (trim_any A n c xs _ hA (by omega)).mono ?_
  rintro e w' ⟨rfl, rfl⟩
  go_wp2_with fail
  refine (trim_any B m d ys _ hB (by omega)).mono ?_
  rintro e w' ⟨rfl, rfl⟩
  go_wp2_with fail
  refine Hcmp.out.mono ?_
  rintro e w' ⟨rfl, q, rfl⟩
  go_wp2
  go_ret2
  exact ⟨rfl, q, rfl⟩

set_option maxHeartbeats 2000000 in
theorem sub_any (A : Option Addr) (n c : Nat) (xs : List Nat) (B : Option Addr) (m d : Nat) (ys : List Nat) (w : World) (hA : Lim w A n c xs) (hB : Lim w B m d ys) (hn : n ≤ 1099511627776) (hm : m ≤ 1099511627776) (hle : val ys ≤ val xs) :
    Calls Tryd.prog 70 #[.slice A n c, .slice B m d] w (Tells2 w (val xs - val ys) n (.int .i64 0)) := by
  have hP := hA.trim
  have hQ := hB.trim
  have HX := Lib.hid (val_take_tl xs)
  have HY := Lib.hid (val_take_tl ys)
  have l1 := hA.tl_le
  have l2 := hB.tl_le
  have l3 := tl_le_of_val_le hA.words hle
  obtain ⟨la, hla⟩ : ∃ l, tl xs = l := ⟨_, rfl⟩
  obtain ⟨lb, hlb⟩ : ∃ l, tl ys = l := ⟨_, rfl⟩
  rw [hla] at l1 l3 hP HX
  rw [hlb] at l2 l3 hQ HY
  have Hla := Lib.hid hla
  have Hlb := Lib.hid hlb
  clear hla hlb
  generalize xs.take la = ps at hP HX
  generalize ys.take lb = qs at hQ HY
  have hcz := cmpZ_nonneg (show val qs ≤ val ps by rw [HX.out, HY.out]; exact hle)
  have hcmp := cmp_any A la c ps B lb d qs w hP hQ (by omega) (by omega)
  generalize cmpZ (val ps) (val qs) = cz at hcz hcmp
  have Hcmp := Lib.hid hcmp
  have Hle := Lib.hid hle
  clear hcmp hle
  have hmk := run_make_row' (P := Tryd.prog) 22 30 (.int .u64 0) 8 Tryd.underlying22 info64 rfl .i64 .i64 la (by omega) (by omega)
  go_enter Tryd.func70, Tryd.ntmps70
  go_wp2_with fail
  refine (trim_to la A n c xs _ hA (by omega) Hla).mono ?_
  rintro e w' ⟨rfl, rfl⟩
  go_wp2_with fail
  refine (trim_to lb B m d ys _ hB (by omega) Hlb).mono ?_
  rintro e w' ⟨rfl, rfl⟩
  go_wp2_with fail
  refine Hcmp.out.mono ?_
  rintro e w1 ⟨rfl, q, hq⟩
  have hb1 : Below w.heap.size w w1 := by rw [hq]; exact below_drewN (Below.refl _ _) q
  have hP1 := hP.below hb1
  have hQ1 := hQ.below hb1
  have hs1 := hb1.size
  clear hq hP hQ hA hB Hcmp
  go_wp2_with fail
  clear hmk
  go_loopw [7, 23] (fun cy i wr => ∃ (k bn : Nat) (zs : List Nat), k ≤ la ∧ i = .int .i64 k ∧ cy = .int .u64 bn ∧ bn ≤ 1 ∧ Hid (zs.length = k) ∧ Fill w1 wr w1.heap.size 30 la zs ∧ Hid (val zs + val (qs.take k) = val (ps.take k) + pw k * bn)) (fun _ i _ => la - (intOf i).toNat)
  case atStart => exact ⟨0, 0, [], Nat.zero_le _, rfl, rfl, Nat.zero_le _, rfl, Fill.start w1 _ _, by simp [Hid, val]⟩
  case round =>
    obtain ⟨k, bn, zs, hk, rfl, rfl, hbn, Hzl, hF, HE⟩ := hrel
    by_cases hlt : k < la
    · have hQr := hF.lim hQ1
      obtain ⟨b, o, hAe, hb, hcl⟩ := (hF.lim hP1).at_ (by omega)
      subst hAe
      have c1 := hcl k hlt
      clear hcl
      have c2 := hF.cell (j := k) (by omega)
      have c3 := hF.frozen k
      have hxw := hP1.words.getD k
      have hyw := hQ1.words.getD k
      obtain ⟨x, hx⟩ : ∃ x, ps.getD k 0 = x := ⟨_, rfl⟩
      obtain ⟨y, hy⟩ : ∃ y, qs.getD k 0 = y := ⟨_, rfl⟩
      rw [hx] at c1 hxw
      rw [hy] at hyw
      obtain ⟨s, t, hst, hs, ht⟩ : ∃ s t, s + y + bn = x + 18446744073709551616 * t ∧ s < 18446744073709551616 ∧ t ≤ 1 := by
        rcases Nat.lt_or_ge x (y + bn) with h | h
        · exact ⟨x + 18446744073709551616 - y - bn, 1, by omega, by omega, by omega⟩
        · exact ⟨x - y - bn, 0, by omega, by omega, by omega⟩
      have HE' := Lib.hid (sub_step hst HE.out)
      rw [← hx, ← hy, ← val_take_succ', ← val_take_succ'] at HE'
      have hsub := sub64 x y bn s t hbn hst hs hxw hyw
      have HF' := Lib.hid (hF.push (z := s) Hzl.out.symm (by omega) hs)
      have Hlen : Hid ((zs ++ [s]).length = k + 1) := by have := Hzl.out; simp [Hid]; omega
      have HE2 : Hid (val (zs ++ [s]) + val (qs.take (k + 1)) = val (ps.take (k + 1)) + pw (k + 1) * t) := by rw [val_snoc, Hzl.out]; exact HE'.out
      have Hx := Lib.hid hx
      have Hy := Lib.hid hy
      clear hx hy hst HE HE' hF
      have hat := at_any B lb d qs k
      rw [Hy.out] at hat
      have Hat := Lib.hid hat
      clear hat
      go_wp2_with fail
      refine (Hat.out _ hQr (by omega) (by omega)).mono ?_
      rintro e w' ⟨rfl, rfl⟩
      go_wp2
      go_roundw
      case rel => exact ⟨k + 1, t, zs ++ [s], by omega, by go_num, rfl, ht, Hlen, HF'.out, HE2⟩
      case measure => simp [intOf]; omega
    · obtain rfl : k = la := by omega
      have hlim := hF.done Hzl.out
      have HV : Hid (val zs = val xs - val ys) := by
        have e1 := HE.out
        rw [List.take_of_length_le (l := ps) (by have := hP1.len; omega), List.take_of_length_le (l := qs) (by have := hQ1.len; omega), HX.out, HY.out] at e1
        have e2 := val_lt hlim.words
        rw [Hzl.out] at e2
        exact sub_end e1 hbn e2 Hle.out
      have hbel := hb1.trans (hF.below.mono hs1)
      clear HE hF hP1 hQ1
      go_wp2_with fail
      refine (trim_any _ _ _ zs _ hlim (by omega)).mono ?_
      rintro e w' ⟨rfl, rfl⟩
      go_wp2
      go_ret2
      exact tells2_trim hlim hbel HV.out l1 rfl
end Go.Proofs.YtjdlnfmeciodnaaDoor

/- The walks of nat.Bits, Low, Odd, Small, Of, Bare and of planimeterref01.Same. -/
namespace Go.Proofs.YtjdlnfmeciodnaaDoor
open Go.RowKit

theorem ret_int {k : IntKind} {a b : Int} (h : a = b) : Ending.returned (.int k a) = .returned (.int k b) := by rw [h]

theorem val_last {ps : List Nat} {j : Nat} (hl : ps.length = j + 1) : val ps = val (ps.take j) + 2 ^ (64 * j) * ps.getD j 0 := by
  have := val_take_succ ps j (by omega)
  rw [List.take_of_length_le (by omega), pw_two] at this
  exact this

set_option maxHeartbeats 1000000 in
theorem bits_any (A : Option Addr) (n c : Nat) (xs : List Nat) (w : World) (hA : Lim w A n c xs) (hn : n ≤ 4398046511104) :
    Calls Tryd.prog 40 #[.slice A n c] w fun e w' => e = .returned (.int .i64 (blen (val xs) : Int)) ∧ w = w' := by
  have hP := hA.trim
  have l1 := hA.tl_le
  have HX := Lib.hid (val_take_tl xs)
  cases hla : tl xs with
  | zero =>
    have HV : Hid (blen (val xs) = 0) := by rw [tl_zero hla]; rfl
    have Hla := Lib.hid hla
    clear hla hP HX
    go_enter Tryd.func40, Tryd.ntmps40
    go_wp2_with fail
    refine (trim_to 0 A n c xs _ hA (by omega) Hla).mono ?_
    rintro e w' ⟨rfl, rfl⟩
    go_wp2
    go_ret
    exact ⟨by rw [HV.out]; rfl, rfl⟩
  | succ j =>
    have hne := getD_tl_pred hla
    rw [hla] at hP l1 HX
    have hgx : (xs.take (j + 1)).getD j 0 = xs.getD j 0 := by rw [List.getD_eq_getElem?_getD, List.getD_eq_getElem?_getD, List.getElem?_take_of_lt (by omega)]
    rw [← hgx] at hne
    generalize xs.take (j + 1) = ps at hP HX hne hgx
    clear hgx
    have hlo := val_lt (hP.words.take j)
    rw [List.length_take, hP.len, Nat.min_eq_left (by omega), pw_two] at hlo
    have HV : Hid (blen (val xs) = 64 * j + blen (ps.getD j 0)) := by
      rw [← HX.out, val_last hP.len]
      exact blen_last hlo hne
    obtain ⟨b, o, rfl, hb, hcl⟩ := hP.at_ (by omega)
    have c1 := hcl j (by omega)
    have hxw := hP.words.getD j
    have hlen := blen_le_iff.2 (show ps.getD j 0 < 2 ^ 64 from hxw)
    generalize ps.getD j 0 = x at c1 HV hxw hne hlen
    generalize hbx : blen x = bx at HV hlen
    have hL := len_any x w hxw
    rw [hbx] at hL
    have HL := Lib.hid hL
    have Hla := Lib.hid hla
    have b1 : (((j : Int) + 1) == 0) = false := beq_eq_false_iff_ne.2 (by omega)
    clear hla hP HX hcl hlo hL hbx hne
    go_enter Tryd.func40, Tryd.ntmps40
    go_wp2_with fail
    refine (trim_to (j + 1) _ n c xs _ hA (by omega) Hla).mono ?_
    rintro e w' ⟨rfl, rfl⟩
    go_wp2_with fail
    refine HL.out.mono ?_
    rintro e w' ⟨rfl, rfl⟩
    go_wp2
    go_ret
    exact ⟨ret_int (a := (j : Int) * 64 + bx) (by rw [HV.out]; omega), rfl⟩

set_option maxHeartbeats 1000000 in
theorem low_any (A : Option Addr) (n c : Nat) (xs : List Nat) (w : World) (hA : Lim w A n c xs) (hn : n ≤ 4398046511104) (hT : Tab w) :
    Calls Tryd.prog 59 #[.slice A n c] w fun e w' => e = .returned (.int .i64 (low (val xs) : Int)) ∧ w = w' := by
  have HA := Lib.hid hA
  have HT := Lib.hid hT
  clear hA hT
  go_enter Tryd.func59, Tryd.ntmps59
  go_wp2
  go_loop [7] (fun i => ∃ k : Nat, k ≤ n ∧ i = .int .i64 k ∧ Hid (∀ j, j < k → xs.getD j 0 = 0)) (fun i => n - (intOf i).toNat)
  case atStart => exact ⟨0, Nat.zero_le _, rfl, fun j h => by omega⟩
  case round =>
    obtain ⟨k, hk, rfl, hz⟩ := hrel
    by_cases hlt : k < n
    · obtain ⟨b, o, rfl, hb, hcl⟩ := HA.out.at_ (by omega)
      have c1 := hcl k hlt
      have hxw := HA.out.words.getD k
      have hl := HA.out.len
      by_cases h0 : xs.getD k 0 = 0
      · rw [h0] at c1
        have Hz : Hid (∀ j, j < k + 1 → xs.getD j 0 = 0) := fun j hj => by
          by_cases e : j = k
          · rw [e]; exact h0
          · exact hz.out j (by omega)
        clear h0 hcl hxw hl
        go_wp2
        go_round
        case rel => exact ⟨k + 1, by omega, by go_num, Hz⟩
        case measure => simp [intOf]; omega
      · have hd : val xs = val (xs.take k) + pw k * (xs.getD k 0 + 18446744073709551616 * val (xs.drop (k + 1))) := by
          rw [val_split xs k (by omega), drop_cons xs k (by omega), val]
        have hz' := val_of_zeros hz.out
        generalize hx : xs.getD k 0 = x at c1 hxw h0 hd
        obtain ⟨t, m, ht, hxe, hcall⟩ := tz_any x (by omega) hxw w HT.out
        have HV : Hid (low (val xs) = 64 * k + t) := by rw [hd]; exact low_limb hz' hxe ht
        have Hcall := Lib.hid hcall
        have b1 : ((x : Int) != 0) = true := by rw [bne_iff_ne]; omega
        clear hd hz' hx hcl hcall hxe hl h0
        go_wp2_with fail
        refine Hcall.out.mono ?_
        rintro e w' ⟨rfl, rfl⟩
        go_wp2
        go_ret
        exact ⟨ret_int (a := (k : Int) * 64 + t) (by rw [HV.out]; omega), rfl⟩
    · obtain rfl : k = n := by omega
      have HV : Hid (low (val xs) = 0) := by
        have := val_of_zeros hz.out
        rw [List.take_of_length_le (by have := HA.out.len; omega)] at this
        rw [this]; rfl
      go_wp2
      go_ret
      exact ⟨by rw [HV.out]; rfl, rfl⟩

theorem odd_any (A : Option Addr) (n c : Nat) (xs : List Nat) (w : World) (hA : Lim w A n c xs) (hn : n ≤ 4398046511104) :
    Calls Tryd.prog 72 #[.slice A n c] w fun e w' => e = .returned (.bool (decide (val xs % 2 = 1))) ∧ w = w' := by
  cases n with
  | zero =>
    have HV : Hid (decide (val xs % 2 = 1) = false) := by
      have : xs = [] := List.eq_nil_of_length_eq_zero hA.len
      subst this; rfl
    clear hA
    go_enter Tryd.func72, Tryd.ntmps72
    go_wp2
    go_ret
    exact ⟨by rw [HV.out]; rfl, rfl⟩
  | succ n =>
    obtain ⟨b, o, rfl, hb, hcl⟩ := hA.at_ (by omega)
    have c1 := hcl 0 (by omega)
    rw [Nat.add_zero] at c1
    have hxw := hA.words.getD 0
    obtain ⟨x, xs', rfl⟩ : ∃ x xs', xs = x :: xs' := by
      cases xs with
      | nil => have := hA.len; simp at this
      | cons x xs' => exact ⟨x, xs', rfl⟩
    rw [getD_cons_zero] at c1 hxw
    rw [val_mod_two]
    have hbit : bits BinOp.and IntKind.u64 (x : Int) 1 = ((x % 2 : Nat) : Int) := by
      have := bits_and_u64_nat x 1 hxw (by decide)
      rw [Nat.and_one_is_mod] at this
      exact this
    rcases Nat.mod_two_eq_zero_or_one x with h2 | h2
    · rw [h2] at hbit
      have H2 := Lib.hid h2
      clear hA hcl h2
      go_enter Tryd.func72, Tryd.ntmps72
      go_wp2
      go_ret
      exact ⟨by rw [H2.out]; rfl, rfl⟩
    · rw [h2] at hbit
      have H2 := Lib.hid h2
      clear hA hcl h2
      go_enter Tryd.func72, Tryd.ntmps72
      go_wp2
      go_ret
      exact ⟨by rw [H2.out]; rfl, rfl⟩

theorem small_yes (A : Option Addr) (n c : Nat) (xs : List Nat) (w : World) (hA : Lim w A n c xs) (hn : n ≤ 4398046511104) (hs : val xs < 18446744073709551616) :
    Calls Tryd.prog 73 #[.slice A n c] w fun e w' => e = .returned (.tuple #[.int .u64 (val xs : Int), .bool true]) ∧ w = w' := by
  have hP := hA.trim
  have HX := val_take_tl xs
  cases hla : tl xs with
  | zero =>
    rw [tl_zero hla]
    have Hla := Lib.hid hla
    clear hla hP HX hs
    go_enter Tryd.func73, Tryd.ntmps73
    go_wp2_with fail
    refine (trim_to 0 A n c xs _ hA (by omega) Hla).mono ?_
    rintro e w' ⟨rfl, rfl⟩
    go_wp2
    go_ret2
    exact ⟨rfl, rfl⟩
  | succ j =>
    cases j with
    | zero =>
      rw [hla] at hP HX
      generalize xs.take (0 + 1) = ps at hP HX
      obtain ⟨x, rfl⟩ : ∃ x, ps = [x] := List.length_eq_one_iff.1 hP.len
      obtain ⟨b, o, rfl, hb, hcl⟩ := hP.at_ (by omega)
      have c1 := hcl 0 (by omega)
      rw [Nat.add_zero, getD_cons_zero] at c1
      rw [show val [x] = x from rfl] at HX
      rw [← HX]
      have Hla := Lib.hid hla
      clear hla hP HX hs hcl
      go_enter Tryd.func73, Tryd.ntmps73
      go_wp2_with fail
      refine (trim_to 1 _ n c xs _ hA (by omega) Hla).mono ?_
      rintro e w' ⟨rfl, rfl⟩
      go_wp2
      go_ret2
      exact ⟨rfl, rfl⟩
    | succ j =>
      have h1 := val_pos_of_tl hla
      have h2 : pw 1 ≤ pw (j + 1) := pw_mono (by omega)
      have h3 : pw 1 = 18446744073709551616 := by decide
      omega

theorem small_no (A : Option Addr) (n c : Nat) (xs : List Nat) (w : World) (hA : Lim w A n c xs) (hn : n ≤ 4398046511104) (hs : 18446744073709551616 ≤ val xs) :
    Calls Tryd.prog 73 #[.slice A n c] w fun e w' => e = .returned (.tuple #[.int .u64 0, .bool false]) ∧ w = w' := by
  have h1 := val_lt_tl hA.words
  obtain ⟨l, hl⟩ : ∃ l, tl xs = l := ⟨_, rfl⟩
  rw [hl] at h1
  have h2 : 2 ≤ l := by
    rcases Nat.lt_or_ge l 2 with h | h
    · have := pw_mono (show l ≤ 1 by omega)
      have h3 : pw 1 = 18446744073709551616 := by decide
      omega
    · exact h
  have Hl := Lib.hid hl
  have l1 := hA.tl_le
  rw [hl] at l1
  clear hl h1 hs
  have b0 : ((l : Int) == 0) = false := beq_eq_false_iff_ne.2 (by omega)
  have b1 : ((l : Int) == 1) = false := beq_eq_false_iff_ne.2 (by omega)
  go_enter Tryd.func73, Tryd.ntmps73
  go_wp2_with fail
  refine (trim_to l _ n c xs _ hA (by omega) Hl).mono ?_
  rintro e w' ⟨rfl, rfl⟩
  go_wp2
  go_ret2
  exact ⟨rfl, rfl⟩

theorem of_any (x : Nat) (hx : x < 18446744073709551616) (w : World) : Calls Tryd.prog 37 #[.int .u64 (x : Int)] w (Tells w x 1) := by
  by_cases h0 : x = 0
  · subst h0
    go_enter Tryd.func37, Tryd.ntmps37
    go_wp2
    go_ret
    exact ⟨none, 0, 0, [], rfl, Nat.zero_le _, Lim.nil _ _ _, rfl, rfl, Below.refl _ _⟩
  · have b0 : ((x : Int) == 0) = false := beq_eq_false_iff_ne.2 (by omega)
    have HB : Hid (Bare [x]) := by show (if (0 : Nat) = 0 then (if x = 0 then 0 else 1) else 0 + 1) = 1; simp [h0]
    clear h0
    go_enter Tryd.func37, Tryd.ntmps37
    go_wp2
    go_ret
    refine ⟨some ⟨w.heap.size, 0, none⟩, 1, 1, [x], rfl, Nat.le_refl _, ⟨rfl, Nat.le_refl _, Words.one hx, fun _ => ⟨w.heap.size, 0, rfl, by simp, fun k hk => ?_⟩⟩, HB.out, by simp [val], (Below.refl _ _).alloc (Nat.le_refl _) _⟩
    obtain rfl : k = 0 := by omega
    simp [World.cell?_alloc_new]


end Go.Proofs.YtjdlnfmeciodnaaDoor

/- What the walks of the laws share: new rows of limbs; Cmp with the world behind it a letter; facts on cmpZ. -/
namespace Go.Proofs.YtjdlnfmeciodnaaDoor
open Go.RowKit

theorem lim_new1 (w : World) (t x : Nat) (X : Int) (hX : X = (x : Int)) (hx : x < 18446744073709551616) : Lim (w.alloc (.cells #[.int .u64 X] t)) (some ⟨w.heap.size, 0, none⟩) 1 1 [x] := by
  subst hX
  refine ⟨rfl, Nat.le_refl _, Words.one hx, fun _ => ⟨w.heap.size, 0, rfl, by simp, fun k hk => ?_⟩⟩
  obtain rfl : k = 0 := by omega
  simp [World.cell?_alloc_new]
theorem lim_new2 (w : World) (t x y : Nat) (X Y : Int) (hX : X = (x : Int)) (hY : Y = (y : Int)) (hx : x < 18446744073709551616) (hy : y < 18446744073709551616) : Lim (w.alloc (.cells #[.int .u64 X, .int .u64 Y] t)) (some ⟨w.heap.size, 0, none⟩) 2 2 [x, y] := by
  subst hX; subst hY
  refine ⟨rfl, Nat.le_refl _, Words.cons hx (Words.one hy), fun _ => ⟨w.heap.size, 0, rfl, by simp, fun k hk => ?_⟩⟩
  have : k = 0 ∨ k = 1 := by omega
  rcases this with rfl | rfl <;> simp [World.cell?_alloc_new]

theorem bare_one {x : Nat} (hx : x ≠ 0) : Bare [x] := by show (if (0 : Nat) = 0 then (if x = 0 then 0 else 1) else 0 + 1) = 1; simp [hx]

/-- Cmp, with the world behind it a letter. -/
theorem cmp_b (v : Int) (A : Option Addr) (n c : Nat) (xs : List Nat) (B : Option Addr) (m d : Nat) (ys : List Nat) (w : World) (hA : Lim w A n c xs) (hB : Lim w B m d ys) (hn : n ≤ 1099511627776) (hm : m ≤ 1099511627776) (hv : Hid (cmpZ (val xs) (val ys) = v)) :
    Calls Tryd.prog 69 #[.slice A n c, .slice B m d] w fun e w' => e = .returned (.int .i64 v) ∧ Below w.heap.size w w' := by
  rw [← hv.out]
  refine (cmp_any A n c xs B m d ys w hA hB hn hm).mono ?_
  rintro e w' ⟨rfl, q, rfl⟩
  exact ⟨rfl, below_drewN (Below.refl _ _) q⟩

theorem cmpZ_swap (x y : Nat) : cmpZ y x = - cmpZ x y := by
  rcases Nat.lt_trichotomy x y with h | h | h
  · rw [cmpZ_gt h, cmpZ_lt h]; rfl
  · rw [cmpZ_eq h, cmpZ_eq h.symm]; rfl
  · rw [cmpZ_lt h, cmpZ_gt h]
theorem cmpZ_bd (x y : Nat) : -1 ≤ cmpZ x y ∧ cmpZ x y ≤ 1 := by
  rcases Nat.lt_trichotomy x y with h | h | h
  · rw [cmpZ_lt h]; decide
  · rw [cmpZ_eq h]; decide
  · rw [cmpZ_gt h]; decide
theorem cmpZ_le {x y : Nat} (h : cmpZ x y ≤ 0) : x ≤ y := by
  rcases Nat.lt_or_ge y x with h' | h'
  · rw [cmpZ_gt h'] at h; omega
  · exact h'
theorem le_cmpZ {x y : Nat} (h : x ≤ y) : cmpZ x y ≤ 0 := by
  rcases Nat.lt_or_ge x y with h' | h'
  · rw [cmpZ_lt h']; decide
  · rw [cmpZ_eq (by omega)]; decide
end Go.Proofs.YtjdlnfmeciodnaaDoor

/- Dyads as numbers: what one is worth (times 2^(2^31)), and what Make, Add and Mul tell. -/
namespace Go.Proofs.YtjdlnfmeciodnaaDoor

/-- An exponent within 2^31. -/
def held (e : Int) : Int := min (max e (-2147483648)) 2147483648
theorem held_bd (e : Int) : -2147483648 ≤ held e ∧ held e ≤ 2147483648 := by unfold held; omega
theorem held_id {e : Int} (h1 : -1073741824 ≤ e) (h2 : e ≤ 1073741824) : held e = e := by unfold held; omega
/-- .. counted from -2^31. -/
def sh (e : Int) : Nat := (held e + 2147483648).toNat
theorem sh_held (e : Int) : (sh e : Int) = held e + 2147483648 := by have := held_bd e; unfold sh; omega
theorem sh_add {e f : Int} {k : Nat} (h : held f = held e + k) : sh f = sh e + k := by
  have h1 := sh_held e
  have h2 := sh_held f
  omega

/-- The size. -/
def sz (V : Nat) (e : Int) : Nat := V * 2 ^ sh e
/-- The worth. -/
def dw (g : Bool) (V : Nat) (e : Int) : Int := if g then -(sz V e : Int) else (sz V e : Int)
theorem sz_zero (e : Int) : sz 0 e = 0 := by simp [sz]
theorem sz_pos {V : Nat} (e : Int) (h : V ≠ 0) : 0 < sz V e := Nat.mul_pos (Nat.pos_of_ne_zero h) (Nat.two_pow_pos _)
theorem dw_zero (g : Bool) (e : Int) : dw g 0 e = 0 := by cases g <;> simp [dw, sz_zero]
theorem dw_neg (g : Bool) (V : Nat) (e : Int) : dw (!g) V e = - dw g V e := by cases g <;> simp [dw]
/-- A shift up, the exponent down. -/
theorem sz_shift {V k : Nat} {e f : Int} (h : held f = held e + k) : sz V f = sz (V * 2 ^ k) e := by
  unfold sz
  rw [sh_add h, Nat.pow_add, Nat.mul_assoc, Nat.mul_comm (2 ^ k)]
theorem dw_shift {V k : Nat} {e f : Int} (g : Bool) (h : held f = held e + k) : dw g V f = dw g (V * 2 ^ k) e := by
  unfold dw; rw [sz_shift h]

structure Dy where
  neg : Bool
  V : Nat
  e : Int

def toldD (g : Bool) (V : Nat) (e : Int) : Option Dy :=
  if V = 0 then some ⟨false, 0, 0⟩ else if e < -1073741824 ∨ 1073741824 < e then none else some ⟨g, V, e⟩
def mk (g : Bool) (V : Nat) (e : Int) : Option Dy := toldD g (V / 2 ^ low V) (held e + low V)

theorem toldD_zero (g : Bool) (e : Int) : toldD g 0 e = some ⟨false, 0, 0⟩ := rfl
/-- What is told: its exponent is small, it is worth what it was to be, it is no longer. -/
def Fine (d : Dy) : Prop := -1073741824 ≤ d.e ∧ d.e ≤ 1073741824 ∧ (d.V = 0 → d.neg = false ∧ d.e = 0)
theorem toldD_fine {g : Bool} {V : Nat} {e : Int} {d : Dy} (h : toldD g V e = some d) : Fine d ∧ d.V = V ∧ (V ≠ 0 → d.neg = g ∧ d.e = e) := by
  unfold toldD at h
  split at h
  · rename_i h0
    obtain rfl := Option.some.inj h
    exact ⟨⟨by decide, by decide, fun _ => ⟨rfl, rfl⟩⟩, h0.symm, fun h => absurd h0 h⟩
  · split at h
    · cases h
    · rename_i h0 h1
      obtain rfl := Option.some.inj h
      exact ⟨⟨by show -1073741824 ≤ e; omega, by show e ≤ 1073741824; omega, fun h => absurd h h0⟩, rfl, fun _ => ⟨rfl, rfl⟩⟩
theorem Fine.held {d : Dy} (h : Fine d) : held d.e = d.e := held_id h.1 h.2.1

theorem odd_part (V : Nat) : V / 2 ^ low V * 2 ^ low V = V := by
  rcases Nat.eq_zero_or_pos V with h | h
  · rw [h]; simp
  · obtain ⟨m, hm⟩ := low_spec h
    have h2 := Nat.two_pow_pos (low V)
    generalize low V = l at hm h2
    rw [hm, Nat.mul_comm, Nat.mul_div_cancel_left _ h2]
theorem odd_part_zero {V : Nat} : V / 2 ^ low V = 0 ↔ V = 0 := by
  have := odd_part V
  constructor
  · intro h; rw [h, Nat.zero_mul] at this; exact this.symm
  · intro h; rw [h]; simp

theorem mk_fine {g : Bool} {V : Nat} {e : Int} {d : Dy} (h : mk g V e = some d) : Fine d ∧ dw d.neg d.V d.e = dw g V e ∧ (d.V = 0 ↔ V = 0) ∧ d.V ≤ V := by
  obtain ⟨h1, h2, h3⟩ := toldD_fine h
  refine ⟨h1, ?_, by rw [h2]; exact odd_part_zero, by rw [h2]; exact Nat.div_le_self _ _⟩
  by_cases h0 : V = 0
  · have : d.V = 0 := by rw [h2]; exact odd_part_zero.2 h0
    rw [this, h0, dw_zero, dw_zero]
  · obtain ⟨h4, h5⟩ := h3 (fun h => h0 (odd_part_zero.1 h))
    have h6 := dw_shift (V := d.V) (k := low V) (e := e) (f := d.e) d.neg (by rw [h1.held, h5])
    rw [h6, h4, h2, odd_part]
theorem mk_turn {g : Bool} {V : Nat} {e : Int} {d : Dy} (h : mk g V e = some d) : ∃ d', mk (!g) V e = some d' := by
  unfold mk toldD at h ⊢
  split at h
  · rename_i h0; rw [if_pos h0]; exact ⟨_, rfl⟩
  · rename_i h0
    rw [if_neg h0]
    split at h
    · cases h
    · rename_i h1; rw [if_neg h1]; exact ⟨_, rfl⟩

/-- The sum of two bare ones. -/
def addB (a b : Dy) : Option Dy :=
  if a.V = 0 then some b else if b.V = 0 then some a else
  if 65535 < max ((blen a.V : Int) - 1 + a.e) ((blen b.V : Int) - 1 + b.e) - min a.e b.e then none else
  if a.neg = b.neg then mk a.neg (a.V * 2 ^ (a.e - min a.e b.e).toNat + b.V * 2 ^ (b.e - min a.e b.e).toNat) (min a.e b.e) else
  if a.V * 2 ^ (a.e - min a.e b.e).toNat < b.V * 2 ^ (b.e - min a.e b.e).toNat then mk b.neg (b.V * 2 ^ (b.e - min a.e b.e).toNat - a.V * 2 ^ (a.e - min a.e b.e).toNat) (min a.e b.e)
  else mk a.neg (a.V * 2 ^ (a.e - min a.e b.e).toNat - b.V * 2 ^ (b.e - min a.e b.e).toNat) (min a.e b.e)
def addO : Option Dy → Option Dy → Option Dy
  | some a, some b => addB a b
  | _, _ => none

theorem mk_nought (g h : Bool) (e : Int) : mk g 0 e = mk h 0 e := rfl
theorem addB_comm {a b : Dy} (ha : Fine a) (hb : Fine b) : addB a b = addB b a := by
  unfold addB
  by_cases h1 : a.V = 0
  · rw [if_pos h1]
    by_cases h2 : b.V = 0
    · rw [if_pos h2]
      obtain ⟨g1, v1, e1⟩ := a
      obtain ⟨g2, v2, e2⟩ := b
      obtain ⟨rfl, rfl⟩ := ha.2.2 h1
      obtain ⟨rfl, rfl⟩ := hb.2.2 h2
      simp only at h1 h2
      rw [h1, h2]
    · rw [if_neg h2, if_pos h1]
  · rw [if_neg h1]
    by_cases h2 : b.V = 0
    · rw [if_pos h2, if_pos h2]
    · rw [if_neg h2, if_neg h2, if_neg h1, Int.min_comm b.e a.e, Int.max_comm ((blen b.V : Int) - 1 + b.e)]
      generalize a.V * 2 ^ (a.e - min a.e b.e).toNat = x
      generalize b.V * 2 ^ (b.e - min a.e b.e).toNat = y
      by_cases h3 : 65535 < max ((blen a.V : Int) - 1 + a.e) ((blen b.V : Int) - 1 + b.e) - min a.e b.e
      · rw [if_pos h3, if_pos h3]
      · rw [if_neg h3, if_neg h3]
        by_cases h4 : a.neg = b.neg
        · rw [if_pos h4, if_pos h4.symm, h4, Nat.add_comm]
        · rw [if_neg h4, if_neg (show ¬ b.neg = a.neg from fun h => h4 h.symm)]
          rcases Nat.lt_trichotomy x y with h5 | h5 | h5
          · rw [if_pos h5, if_neg (by omega)]
          · subst h5
            rw [if_neg (Nat.lt_irrefl _), if_neg (Nat.lt_irrefl _), Nat.sub_self]; rfl
          · rw [if_neg (by omega), if_pos h5]
theorem addO_comm {g h : Bool} {V U : Nat} {e f : Int} : addO (mk g V e) (mk h U f) = addO (mk h U f) (mk g V e) := by
  cases h1 : mk g V e with
  | none => cases mk h U f <;> rfl
  | some a => cases h2 : mk h U f with
    | none => rfl
    | some b => exact addB_comm (mk_fine h1).1 (mk_fine h2).1

theorem dw_same (g : Bool) (x y : Nat) (e : Int) : dw g (x + y) e = dw g x e + dw g y e := by
  have : sz (x + y) e = sz x e + sz y e := by unfold sz; rw [Nat.add_mul]
  unfold dw
  cases g <;> simp only [this] <;> simp <;> omega
theorem dw_less (g h : Bool) (x y : Nat) (e : Int) (hg : g ≠ h) (hle : y ≤ x) : dw g (x - y) e = dw g x e + dw h y e := by
  obtain ⟨d, rfl⟩ : ∃ d, x = y + d := ⟨x - y, by omega⟩
  obtain rfl : h = !g := by cases g <;> cases h <;> simp_all
  rw [Nat.add_sub_cancel_left, dw_same, dw_neg]; omega

theorem addB_fine {a b d : Dy} (ha : Fine a) (hb : Fine b) (h : addB a b = some d) : Fine d ∧ dw d.neg d.V d.e = dw a.neg a.V a.e + dw b.neg b.V b.e := by
  unfold addB at h
  by_cases h1 : a.V = 0
  · rw [if_pos h1] at h
    obtain rfl := Option.some.inj h
    rw [h1, dw_zero]
    exact ⟨hb, by omega⟩
  · rw [if_neg h1] at h
    by_cases h2 : b.V = 0
    · rw [if_pos h2] at h
      obtain rfl := Option.some.inj h
      rw [h2, dw_zero]
      exact ⟨ha, by omega⟩
    · rw [if_neg h2] at h
      obtain ⟨l, hl⟩ : ∃ l, min a.e b.e = l := ⟨_, rfl⟩
      have hlh : held l = l := by have := ha.1; have := ha.2.1; have := hb.1; have := hb.2.1; exact held_id (by omega) (by omega)
      have ea := dw_shift (V := a.V) (k := (a.e - l).toNat) (e := l) (f := a.e) a.neg (by rw [hlh, ha.held]; omega)
      have eb := dw_shift (V := b.V) (k := (b.e - l).toNat) (e := l) (f := b.e) b.neg (by rw [hlh, hb.held]; omega)
      rw [ea, eb]
      rw [hl] at h
      generalize a.V * 2 ^ (a.e - l).toNat = x at h ⊢
      generalize b.V * 2 ^ (b.e - l).toNat = y at h ⊢
      clear ea eb
      split at h
      · cases h
      · split at h
        · rename_i h4
          obtain ⟨k1, k2, _, _⟩ := mk_fine h
          exact ⟨k1, by rw [k2, dw_same, h4]⟩
        · split at h
          · rename_i h4 h5
            obtain ⟨k1, k2, _, _⟩ := mk_fine h
            exact ⟨k1, by rw [k2, dw_less b.neg a.neg y x l (fun h => h4 h.symm) (by omega)]; omega⟩
          · rename_i h4 h5
            obtain ⟨k1, k2, _, _⟩ := mk_fine h
            exact ⟨k1, by rw [k2, dw_less a.neg b.neg x y l h4 (by omega)]⟩
theorem addO_fine {g h : Bool} {V U : Nat} {e f : Int} {d : Dy} (k : addO (mk g V e) (mk h U f) = some d) : Fine d ∧ dw d.neg d.V d.e = dw g V e + dw h U f := by
  cases h1 : mk g V e with
  | none => rw [h1] at k; cases mk h U f <;> cases k
  | some a => cases h2 : mk h U f with
    | none => rw [h1, h2] at k; cases k
    | some b =>
      rw [h1, h2] at k
      obtain ⟨a1, a2, _, _⟩ := mk_fine h1
      obtain ⟨b1, b2, _, _⟩ := mk_fine h2
      obtain ⟨c1, c2⟩ := addB_fine a1 b1 k
      exact ⟨c1, by rw [c2, a2, b2]⟩
theorem addO_some {g h : Bool} {V U : Nat} {e f : Int} {d : Dy} (k : addO (mk g V e) (mk h U f) = some d) : (∃ a, mk g V e = some a) ∧ ∃ b, mk h U f = some b := by
  cases h1 : mk g V e with
  | none => rw [h1] at k; cases mk h U f <;> cases k
  | some a => cases h2 : mk h U f with
    | none => rw [h1, h2] at k; cases k
    | some b => exact ⟨⟨_, rfl⟩, ⟨_, rfl⟩⟩

/-- The product of two bare ones. -/
def mulB (a b : Dy) : Option Dy :=
  if a.V ≠ 0 ∧ b.V ≠ 0 ∧ 65536 < blen a.V + blen b.V then none else toldD (a.neg != b.neg) (a.V * b.V) (a.e + b.e)
def mulO : Option Dy → Option Dy → Option Dy
  | some a, some b => mulB a b
  | _, _ => none
theorem sz_mul {V U : Nat} {e f h : Int} (hh : held h = held e + held f) : sz (V * U) h * 2 ^ sh 0 = sz V e * sz U f := by
  have h1 := sh_held e
  have h2 := sh_held f
  have h3 := sh_held h
  have h4 := sh_held 0
  have h5 : held 0 = 0 := by decide
  have h6 : sh h + sh 0 = sh e + sh f := by omega
  unfold sz
  rw [Nat.mul_assoc, ← Nat.pow_add, h6, Nat.pow_add]
  simp [Nat.mul_assoc, Nat.mul_left_comm]
theorem dw_mul {V U : Nat} {e f h : Int} (g k : Bool) (hh : held h = held e + held f) : dw (g != k) (V * U) h * ((2 ^ sh 0 : Nat) : Int) = dw g V e * dw k U f := by
  have h1 : ((sz (V * U) h : Int)) * ((2 ^ sh 0 : Nat) : Int) = (sz V e : Int) * (sz U f : Int) := by rw [← Int.natCast_mul, sz_mul hh, Int.natCast_mul]
  cases g <;> cases k <;> simp only [dw, bne_self_eq_false, Bool.false_eq_true, ↓reduceIte, Bool.true_bne, Bool.false_bne, Bool.not_false, Int.neg_mul, Int.mul_neg, Int.neg_neg] <;> rw [h1]
theorem mulB_fine {a b d : Dy} (ha : Fine a) (hb : Fine b) (h : mulB a b = some d) : Fine d ∧ dw d.neg d.V d.e * ((2 ^ sh 0 : Nat) : Int) = dw a.neg a.V a.e * dw b.neg b.V b.e := by
  unfold mulB at h
  split at h
  · cases h
  · obtain ⟨h1, h2, h3⟩ := toldD_fine h
    refine ⟨h1, ?_⟩
    by_cases h0 : a.V * b.V = 0
    · rw [h2, h0, dw_zero, Int.zero_mul]
      rcases Nat.mul_eq_zero.1 h0 with k | k
      · rw [k, dw_zero, Int.zero_mul]
      · rw [k, dw_zero, Int.mul_zero]
    · obtain ⟨h4, h5⟩ := h3 h0
      rw [h4, h2]
      exact dw_mul _ _ (by rw [h1.held, ha.held, hb.held, h5])
theorem mulO_fine {g h : Bool} {V U : Nat} {e f : Int} {d : Dy} (k : mulO (mk g V e) (mk h U f) = some d) : Fine d ∧ dw d.neg d.V d.e * ((2 ^ sh 0 : Nat) : Int) = dw g V e * dw h U f := by
  cases h1 : mk g V e with
  | none => rw [h1] at k; cases mk h U f <;> cases k
  | some a => cases h2 : mk h U f with
    | none => rw [h1, h2] at k; cases k
    | some b =>
      rw [h1, h2] at k
      obtain ⟨a1, a2, _, _⟩ := mk_fine h1
      obtain ⟨b1, b2, _, _⟩ := mk_fine h2
      obtain ⟨c1, c2⟩ := mulB_fine a1 b1 k
      exact ⟨c1, by rw [c2, a2, b2]⟩

/-- What Cmp tells. -/
def cmpI (x y : Int) : Int := if x < y then -1 else if x = y then 0 else 1
theorem cmpI_lt {x y : Int} (h : x < y) : cmpI x y = -1 := by simp [cmpI, h]
theorem cmpI_eq {x y : Int} (h : x = y) : cmpI x y = 0 := by simp [cmpI, h]
theorem cmpI_gt {x y : Int} (h : y < x) : cmpI x y = 1 := by rw [cmpI, if_neg (by omega), if_neg (by omega)]
theorem cmpI_swap (x y : Int) : cmpI y x = - cmpI x y := by
  rcases Int.lt_trichotomy x y with h | h | h
  · rw [cmpI_gt h, cmpI_lt h]; rfl
  · rw [cmpI_eq h, cmpI_eq h.symm]; rfl
  · rw [cmpI_lt h, cmpI_gt h]
theorem cmpI_bd (x y : Int) : -1 ≤ cmpI x y ∧ cmpI x y ≤ 1 := by
  rcases Int.lt_trichotomy x y with h | h | h
  · rw [cmpI_lt h]; decide
  · rw [cmpI_eq h]; decide
  · rw [cmpI_gt h]; decide

def sgD (g : Bool) (V : Nat) : Int := if V = 0 then 0 else if g then -1 else 1
theorem sgD_bd (g : Bool) (V : Nat) : -1 ≤ sgD g V ∧ sgD g V ≤ 1 := by unfold sgD; split; decide; split <;> decide
theorem sgD_spec (g : Bool) (V : Nat) (e : Int) : (sgD g V = 0 ∧ V = 0 ∧ dw g V e = 0) ∨ (sgD g V = -1 ∧ V ≠ 0 ∧ dw g V e = -(sz V e : Int) ∧ 0 < sz V e) ∨ (sgD g V = 1 ∧ V ≠ 0 ∧ dw g V e = (sz V e : Int) ∧ 0 < sz V e) := by
  by_cases h : V = 0
  · subst h; exact Or.inl ⟨rfl, rfl, dw_zero _ _⟩
  · cases g
    · exact Or.inr (Or.inr ⟨by simp [sgD, h], h, rfl, sz_pos e h⟩)
    · exact Or.inr (Or.inl ⟨by simp [sgD, h], h, rfl, sz_pos e h⟩)
theorem cmp_signs {g k : Bool} {V U : Nat} {e f : Int} (h : sgD g V ≠ sgD k U) : cmpI (sgD g V) (sgD k U) = cmpI (dw g V e) (dw k U f) := by
  have h1 := sgD_spec g V e
  have h2 := sgD_spec k U f
  have hlt : sgD g V < sgD k U ∨ sgD k U < sgD g V := by omega
  rcases hlt with h3 | h3
  · rw [cmpI_lt h3, cmpI_lt (by omega)]
  · rw [cmpI_gt h3, cmpI_gt (by omega)]
theorem cmp_noughts {g k : Bool} {V U : Nat} {e f : Int} (h : sgD g V = sgD k U) (h0 : sgD g V = 0) : (0 : Int) = cmpI (dw g V e) (dw k U f) := by
  have h1 := sgD_spec g V e
  have h2 := sgD_spec k U f
  rw [cmpI_eq (by omega)]
theorem cmp_sizes {g k : Bool} {V U : Nat} {e f : Int} (h : sgD g V = sgD k U) (h0 : sgD g V ≠ 0) : sgD g V * cmpZ (sz V e) (sz U f) = cmpI (dw g V e) (dw k U f) := by
  have h1 := sgD_spec g V e
  have h2 := sgD_spec k U f
  have hs : sgD g V = -1 ∨ sgD g V = 1 := by omega
  rcases Nat.lt_trichotomy (sz V e) (sz U f) with h3 | h3 | h3
  · rw [cmpZ_lt h3]
    rcases hs with hs | hs
    · rw [hs, cmpI_gt (by omega)]; rfl
    · rw [hs, cmpI_lt (by omega)]; rfl
  · rw [cmpZ_eq h3, cmpI_eq (by omega), Int.mul_zero]
  · rw [cmpZ_gt h3]
    rcases hs with hs | hs
    · rw [hs, cmpI_lt (by omega)]; rfl
    · rw [hs, cmpI_gt (by omega)]; rfl

/-- The top. -/
def topD (V : Nat) (e : Int) : Int := (blen V : Int) - 1 + held e
theorem blen_sz {V : Nat} (e : Int) (h : V ≠ 0) : (blen (sz V e) : Int) = topD V e + 1 + 2147483648 := by
  unfold sz topD
  rw [blen_shl h]
  have := sh_held e
  omega
theorem lt_of_blen {x y : Nat} (h : blen x < blen y) : x < y := by
  rcases Nat.lt_or_ge x y with h' | h'
  · exact h'
  · have := blen_mono h'; omega
theorem cmp_tops {V U : Nat} {e f : Int} (hV : V ≠ 0) (hU : U ≠ 0) (h : topD V e ≠ topD U f) : cmpI (topD V e) (topD U f) = cmpZ (sz V e) (sz U f) := by
  have h1 := blen_sz e hV
  have h2 := blen_sz f hU
  have hlt : topD V e < topD U f ∨ topD U f < topD V e := by omega
  rcases hlt with h3 | h3
  · rw [cmpI_lt h3, cmpZ_lt (lt_of_blen (by omega))]
  · rw [cmpI_gt h3, cmpZ_gt (lt_of_blen (by omega))]
/-- Two numbers as if their first bits were of one worth. -/
def leadD (V U : Nat) : Int := cmpZ (V * 2 ^ (blen U - blen V)) (U * 2 ^ (blen V - blen U))
theorem leadD_swap (V U : Nat) : leadD U V = - leadD V U := cmpZ_swap _ _
theorem cmpZ_times {x y p : Nat} (hp : 0 < p) : cmpZ (x * p) (y * p) = cmpZ x y := by
  rcases Nat.lt_trichotomy x y with h | h | h
  · rw [cmpZ_lt h, cmpZ_lt (Nat.mul_lt_mul_of_pos_right h hp)]
  · rw [h, cmpZ_eq rfl, cmpZ_eq rfl]
  · rw [cmpZ_gt h, cmpZ_gt (Nat.mul_lt_mul_of_pos_right h hp)]
theorem cmp_lead {V U : Nat} {e f : Int} (hV : V ≠ 0) (hU : U ≠ 0) (h : topD V e = topD U f) : leadD V U = cmpZ (sz V e) (sz U f) := by
  have h1 := sh_held e
  have h2 := sh_held f
  unfold topD at h
  have hv := blen_pos hV
  have hu := blen_pos hU
  unfold leadD sz
  rcases Nat.le_total (blen U) (blen V) with h3 | h3
  · have e1 : sh f = (blen V - blen U) + sh e := by omega
    rw [e1, Nat.sub_eq_zero_of_le h3, Nat.pow_add, ← Nat.mul_assoc, cmpZ_times (Nat.two_pow_pos _)]
    simp
  · have e1 : sh e = (blen U - blen V) + sh f := by omega
    rw [e1, Nat.sub_eq_zero_of_le h3, Nat.pow_add, ← Nat.mul_assoc, cmpZ_times (Nat.two_pow_pos _)]
    simp
/-- .. by cutting the longer one. -/
theorem lead_cut {V U d : Nat} (h : blen U ≤ blen V) (hd : blen V - blen U = d) :
    (V / 2 ^ d = U ∧ V % 2 ^ d ≠ 0 ∧ leadD V U = 1) ∨ ((V / 2 ^ d ≠ U ∨ V % 2 ^ d = 0) ∧ leadD V U = cmpZ (V / 2 ^ d) U) := by
  unfold leadD
  rw [hd, Nat.sub_eq_zero_of_le h, Nat.pow_zero, Nat.mul_one]
  have hp := Nat.two_pow_pos d
  have e := Nat.div_add_mod V (2 ^ d)
  have hr := Nat.mod_lt V hp
  generalize 2 ^ d = p at *
  generalize V / p = q at *
  generalize V % p = r at *
  rcases Nat.lt_trichotomy q U with h1 | h1 | h1
  · refine Or.inr ⟨Or.inl (by omega), ?_⟩
    rw [cmpZ_lt h1, cmpZ_lt]
    have := Nat.mul_le_mul_left p (show q + 1 ≤ U from h1)
    rw [Nat.mul_add, Nat.mul_one, Nat.mul_comm p U] at this
    omega
  · subst h1
    rw [Nat.mul_comm q p]
    by_cases h2 : r = 0
    · exact Or.inr ⟨Or.inr h2, by rw [cmpZ_eq rfl, cmpZ_eq (by omega)]⟩
    · exact Or.inl ⟨rfl, h2, cmpZ_gt (by omega)⟩
  · refine Or.inr ⟨Or.inl (by omega), ?_⟩
    rw [cmpZ_gt h1, cmpZ_gt]
    have := Nat.mul_le_mul_left p (show U + 1 ≤ q from h1)
    rw [Nat.mul_add, Nat.mul_one, Nat.mul_comm p U] at this
    omega
end Go.Proofs.YtjdlnfmeciodnaaDoor

/- What 64 bits are worth: fields, kinds, sizes, and the bits of a dyad. -/
namespace Go.Proofs.YtjdlnfmeciodnaaDoor

def fex (b : Nat) : Nat := b / 4503599627370496 % 2048
def ffr (b : Nat) : Nat := b % 4503599627370496
def fng (b : Nat) : Bool := decide (9223372036854775808 ≤ b)
def fkd (b : Nat) : Nat := if fex b = 0 then (if ffr b = 0 then 0 else 1) else if fex b < 2047 then 2 else if ffr b = 0 then 3 else if 2251799813685248 ≤ ffr b then 4 else 5
/-- The size without the power, and the power's exponent from the least one. -/
def fm (b : Nat) : Nat := if fex b = 0 then ffr b else ffr b + 4503599627370496
def fE (b : Nat) : Nat := fex b - 1
def fe (b : Nat) : Int := (fE b : Int) - 1074
/-- Its kind is 0 to 2. -/
def Fnt (b : Nat) : Prop := fex b ≠ 2047
instance (b : Nat) : Decidable (Fnt b) := inferInstanceAs (Decidable (fex b ≠ 2047))

theorem fex_lt (b : Nat) : fex b < 2048 := Nat.mod_lt _ (by decide)
theorem ffr_lt (b : Nat) : ffr b < 4503599627370496 := Nat.mod_lt _ (by decide)
theorem f_parts (b : Nat) : b % 9223372036854775808 = fE b * 4503599627370496 + fm b ∧ fm b < 9007199254740992 ∧ (0 < fE b → 4503599627370496 ≤ fm b) ∧ (Fnt b → fE b ≤ 2045) := by
  have h1 := fex_lt b
  have h2 := ffr_lt b
  have h3 : b % 9223372036854775808 = fex b * 4503599627370496 + ffr b := by unfold fex ffr; omega
  unfold Fnt
  unfold fE fm
  generalize fex b = x at *
  generalize ffr b = y at *
  generalize b % 9223372036854775808 = z at *
  rcases Nat.eq_zero_or_pos x with h | h
  · subst h
    rw [if_pos rfl]
    exact ⟨by rw [h3], by omega, by omega, by omega⟩
  · obtain ⟨k, rfl⟩ : ∃ k, x = k + 1 := ⟨x - 1, by omega⟩
    rw [if_neg (by omega), Nat.add_sub_cancel, h3]
    exact ⟨by rw [Nat.add_mul]; omega, by omega, by omega, by omega⟩
theorem fkd_fin (b : Nat) : fkd b ≤ 2 ↔ Fnt b := by
  have h1 := fex_lt b
  unfold fkd Fnt
  generalize fex b = x at *
  generalize ffr b = y at *
  split
  · split <;> omega
  · split
    · omega
    · split
      · omega
      · split <;> omega
theorem fkd_zero (b : Nat) : fkd b = 0 ↔ fm b = 0 := by
  have h1 := fex_lt b
  unfold fkd fm
  generalize fex b = x at *
  generalize ffr b = y at *
  split
  · split <;> omega
  · split
    · omega
    · split
      · omega
      · split <;> omega
theorem fin_of_zero {b : Nat} (h : fm b = 0) : Fnt b := (fkd_fin b).1 (by rw [(fkd_zero b).2 h]; decide)
theorem f_sign {b : Nat} (hb : b < 18446744073709551616) : b = (if fng b then 9223372036854775808 else 0) + b % 9223372036854775808 := by
  by_cases h : 9223372036854775808 ≤ b
  · rw [fng, decide_eq_true h, if_pos rfl]; omega
  · rw [fng, decide_eq_false h, if_neg (by decide)]; omega
theorem fe_bd {b : Nat} (h : Fnt b) : -1074 ≤ fe b ∧ fe b ≤ 971 := by
  have := (f_parts b).2.2.2 h
  unfold fe; omega
theorem fe_held {b : Nat} (h : Fnt b) : held (fe b) = fe b := by
  have := fe_bd h
  exact held_id (by omega) (by omega)

/-- Bits laid out of their parts. -/
theorem f_of {L M : Nat} (s : Bool) {X : Nat} (h1 : M < 9007199254740992) (h2 : 0 < L → 4503599627370496 ≤ M) (h3 : L ≤ 2045) (hX : X = (if s then 9223372036854775808 else 0) + (L * 4503599627370496 + M)) :
    X < 18446744073709551616 ∧ Fnt X ∧ fm X = M ∧ fE X = L ∧ fng X = s := by
  have hs : ∃ t, (t = 0 ∨ t = 1) ∧ (if s then 9223372036854775808 else 0) = t * 9223372036854775808 ∧ (s = true ↔ t = 1) := by
    cases s
    · exact ⟨0, Or.inl rfl, rfl, by decide⟩
    · exact ⟨1, Or.inr rfl, rfl, by decide⟩
  obtain ⟨t, ht, hst, hs⟩ := hs
  rw [hst] at hX
  have hng : fng X = s := by
    unfold fng
    cases s
    · have : t = 0 := by rcases ht with h | h; exact h; exact absurd (hs.2 h) (by decide)
      exact decide_eq_false (by omega)
    · have := hs.1 rfl
      exact decide_eq_true (by omega)
  rcases Nat.lt_or_ge M 4503599627370496 with h | h
  · have hL : L = 0 := by omega
    subst hL
    have e1 : fex X = 0 := by unfold fex; omega
    have e2 : ffr X = M := by unfold ffr; omega
    exact ⟨by omega, by unfold Fnt; omega, by rw [fm, if_pos e1, e2], by rw [fE, e1], hng⟩
  · have e1 : fex X = L + 1 := by unfold fex; omega
    have e2 : ffr X = M - 4503599627370496 := by unfold ffr; omega
    exact ⟨by omega, by unfold Fnt; omega, by rw [fm, if_neg (by omega), e2]; omega, by rw [fE, e1]; omega, hng⟩

/-- A dyad as the document's number: odd, or 0. -/
def nO (g : Bool) (V : Nat) (e : Int) : Dy := if V = 0 then ⟨false, 0, 0⟩ else ⟨g, V / 2 ^ low V, held e + low V⟩
theorem nO_zero (g : Bool) (e : Int) : nO g 0 e = ⟨false, 0, 0⟩ := rfl
theorem nO_pos (g : Bool) {V : Nat} (e : Int) (h : V ≠ 0) : nO g V e = ⟨g, V / 2 ^ low V, held e + low V⟩ := if_neg h
theorem mk_nO (g : Bool) (V : Nat) (e : Int) : mk g V e = toldD (nO g V e).neg (nO g V e).V (nO g V e).e := by
  by_cases h : V = 0
  · subst h; rfl
  · rw [nO_pos g e h]; rfl
def Odd (d : Dy) : Prop := (∃ m, d.V = 2 * m + 1) ∨ d = ⟨false, 0, 0⟩
theorem nO_odd (g : Bool) (V : Nat) (e : Int) : Odd (nO g V e) := by
  by_cases h : V = 0
  · subst h; exact Or.inr rfl
  · rw [nO_pos g e h]
    obtain ⟨m, hm⟩ := low_spec (Nat.pos_of_ne_zero h)
    refine Or.inl ⟨m, ?_⟩
    show V / 2 ^ low V = 2 * m + 1
    have h2 := Nat.two_pow_pos (low V)
    generalize low V = l at *
    rw [hm, Nat.mul_div_cancel_left _ h2]
/-- What is odd stays as it is. -/
theorem nO_self {d : Dy} (h : Odd d) (h1 : -2147483648 ≤ d.e) (h2 : d.e ≤ 2147483648) : nO d.neg d.V d.e = d := by
  rcases h with ⟨m, hm⟩ | h
  · have hl : low d.V = 0 := low_eq (l := 0) (m := m) (by rw [hm]; omega)
    rw [nO_pos _ _ (by omega), hl, Nat.pow_zero, Nat.div_one]
    have : held d.e = d.e := by unfold held; omega
    rw [this]
    show Dy.mk d.neg d.V (d.e + ((0 : Nat) : Int)) = d
    rw [show ((0 : Nat) : Int) = 0 from rfl, Int.add_zero]
  · subst h; rfl

/-- The bits of a size. -/
def layd (V : Nat) (e top : Int) : Nat := (max (top - 52) (-1074) + 1074).toNat * 4503599627370496 + V * 2 ^ (e - max (top - 52) (-1074)).toNat
/-- What Exact tells of an odd one. -/
def exD (d : Dy) : Nat × Bool :=
  if d.V = 0 then (0, true) else
  if 1023 < (blen d.V : Int) - 1 + d.e ∨ d.e < -1074 ∨ 52 < (blen d.V : Int) - 1 then (0, false) else
  ((if d.neg then 9223372036854775808 else 0) + layd d.V d.e ((blen d.V : Int) - 1 + d.e), true)

theorem layd_spec {V : Nat} {e top : Int} (hV : V ≠ 0) (htop : top = (blen V : Int) - 1 + e) (h1 : top ≤ 1023) (h2 : -1074 ≤ e) (h3 : (blen V : Int) - 1 ≤ 52) :
    ∃ L M k : Nat, layd V e top = L * 4503599627370496 + M ∧ M = V * 2 ^ k ∧ M < 9007199254740992 ∧ (0 < L → 4503599627370496 ≤ M) ∧ L ≤ 2045 ∧ e = (L : Int) - 1074 + k ∧ max (top - 52) (-1074) + 1074 = (L : Int) := by
  obtain ⟨lo, hlo⟩ : ∃ lo, max (top - 52) (-1074) = lo := ⟨_, rfl⟩
  have hlo1 : lo = top - 52 ∨ (lo = -1074 ∧ top - 52 < -1074) := by omega
  have hB := blen_pos hV
  refine ⟨(lo + 1074).toNat, V * 2 ^ (e - lo).toNat, (e - lo).toNat, by rw [layd, hlo], rfl, ?_, ?_, by omega, by omega, by omega⟩
  · have h4 : blen (V * 2 ^ (e - lo).toNat) ≤ 53 := by rw [blen_shl hV]; omega
    exact blen_le_iff.1 h4
  · intro h
    have h4 : blen (V * 2 ^ (e - lo).toNat) = 53 := by rw [blen_shl hV]; omega
    have h5 := blen_le (x := V * 2 ^ (e - lo).toNat) (fun h0 => by rw [h0] at h4; cases h4)
    rw [h4] at h5
    exact h5

theorem exD_cases (d : Dy) : (d.V = 0 ∧ exD d = (0, true)) ∨ (d.V ≠ 0 ∧ (1023 < (blen d.V : Int) - 1 + d.e ∨ d.e < -1074 ∨ 52 < (blen d.V : Int) - 1) ∧ exD d = (0, false)) ∨
    (d.V ≠ 0 ∧ (blen d.V : Int) - 1 + d.e ≤ 1023 ∧ -1074 ≤ d.e ∧ (blen d.V : Int) - 1 ≤ 52 ∧ exD d = ((if d.neg then 9223372036854775808 else 0) + layd d.V d.e ((blen d.V : Int) - 1 + d.e), true)) := by
  unfold exD
  by_cases h : d.V = 0
  · rw [if_pos h]; exact Or.inl ⟨h, rfl⟩
  · rw [if_neg h]
    by_cases h1 : 1023 < (blen d.V : Int) - 1 + d.e ∨ d.e < -1074 ∨ 52 < (blen d.V : Int) - 1
    · rw [if_pos h1]; exact Or.inr (Or.inl ⟨h, h1, rfl⟩)
    · rw [if_neg h1]; exact Or.inr (Or.inr ⟨h, by omega, by omega, by omega, rfl⟩)

/-- The number that bits are worth. -/
def fO (b : Nat) : Dy := nO (fng b) (fm b) (fe b)

theorem exD_yes {d : Dy} {X : Nat} (hd : Odd d) (h : exD d = (X, true)) : X < 18446744073709551616 ∧ Fnt X ∧ fO X = d := by
  rcases exD_cases d with ⟨h0, h1⟩ | ⟨_, _, h1⟩ | ⟨h0, h1, h2, h3, h4⟩
  · rw [h1] at h
    obtain rfl : 0 = X := congrArg Prod.fst h
    rcases hd with ⟨m, hm⟩ | rfl
    · omega
    · exact ⟨by decide, by decide, rfl⟩
  · rw [h1] at h; cases h
  · rw [h4] at h
    have hX : _ = X := congrArg Prod.fst h
    obtain ⟨L, M, k, k1, k2, k3, k4, k5, k6, _⟩ := layd_spec h0 rfl h1 h2 h3
    obtain ⟨f1, f2, f3, f4, f5⟩ := f_of (X := X) d.neg k3 k4 k5 (by rw [← hX, k1])
    refine ⟨f1, f2, ?_⟩
    rcases hd with ⟨m, hm⟩ | rfl
    · have hl : low M = k := low_eq (m := m) (by rw [k2, hm, Nat.mul_comm])
      have hM : M ≠ 0 := by rw [k2]; exact Nat.mul_ne_zero h0 (Nat.pos_iff_ne_zero.1 (Nat.two_pow_pos _))
      have he : held (fe X) = fe X := fe_held f2
      unfold fO
      rw [f3, f5, nO_pos _ _ hM, he, hl, k2, Nat.mul_div_cancel _ (Nat.two_pow_pos _), fe, f4, ← k6]
    · exact absurd rfl h0

theorem fO_zero {b : Nat} (h : fm b = 0) : fO b = ⟨false, 0, 0⟩ := by rw [fO, h, nO_zero]
/-- .. comes back. -/
theorem exD_back {b : Nat} (hb : b < 18446744073709551616) (hf : Fnt b) : exD (fO b) = (if fm b = 0 then 0 else b, true) := by
  by_cases h0 : fm b = 0
  · rw [fO_zero h0, if_pos h0]; rfl
  · rw [if_neg h0]
    have hO := nO_pos (fng b) (fe b) h0
    rw [fe_held hf] at hO
    obtain ⟨p1, p2, p3, p4⟩ := f_parts b
    have hs := f_sign hb
    rw [p1] at hs
    have hodd := odd_part (fm b)
    have hVne : fm b / 2 ^ low (fm b) ≠ 0 := fun h => h0 (odd_part_zero.1 h)
    have hbl : blen (fm b) = blen (fm b / 2 ^ low (fm b)) + low (fm b) := by
      have := blen_shl (n := low (fm b)) hVne
      rw [hodd] at this
      exact this
    have hb1 : blen (fm b) ≤ 53 := blen_le_iff.2 p2
    have hb2 : 0 < fE b → blen (fm b) = 53 := fun h => blen_eq (p3 h) p2 (by decide)
    have hB := blen_pos hVne
    have hp4 := p4 hf
    have hfe : fe b = (fE b : Int) - 1074 := rfl
    unfold fO
    rw [hO]
    unfold exD
    show (if fm b / 2 ^ low (fm b) = 0 then ((0 : Nat), true) else _) = _
    rw [if_neg hVne]
    show (if 1023 < (blen (fm b / 2 ^ low (fm b)) : Int) - 1 + (fe b + low (fm b)) ∨ fe b + low (fm b) < -1074 ∨ 52 < (blen (fm b / 2 ^ low (fm b)) : Int) - 1 then ((0 : Nat), false) else ((if fng b then 9223372036854775808 else 0) + layd (fm b / 2 ^ low (fm b)) (fe b + low (fm b)) ((blen (fm b / 2 ^ low (fm b)) : Int) - 1 + (fe b + low (fm b))), true)) = _
    rw [if_neg (by omega)]
    have hl : max ((blen (fm b / 2 ^ low (fm b)) : Int) - 1 + (fe b + low (fm b)) - 52) (-1074) = fe b := by
      rcases Nat.eq_zero_or_pos (fE b) with h | h
      · omega
      · have := hb2 h; omega
    rw [layd, hl, show (fe b + 1074).toNat = fE b by omega, show (fe b + (low (fm b) : Int) - fe b).toNat = low (fm b) by omega, hodd, ← hs]

/-- Greater bits are worth more. -/
theorem f_less {a b : Nat} (h : a % 9223372036854775808 < b % 9223372036854775808) (ha : Fnt a) (hb : Fnt b) : sz (fm a) (fe a) < sz (fm b) (fe b) := by
  obtain ⟨a1, a2, a3, a4⟩ := f_parts a
  obtain ⟨b1, b2, b3, b4⟩ := f_parts b
  have s1 : ∀ c : Nat, Fnt c → sh (fe c) = fE c + 2147482574 := fun c hc => by
    have h1 := sh_held (fe c)
    rw [fe_held hc] at h1
    have h2 : fe c = (fE c : Int) - 1074 := rfl
    omega
  unfold sz
  rw [s1 a ha, s1 b hb, Nat.pow_add, Nat.pow_add, ← Nat.mul_assoc, ← Nat.mul_assoc]
  apply Nat.mul_lt_mul_of_pos_right _ (Nat.two_pow_pos _)
  rw [a1, b1] at h
  clear a1 b1 a4 b4 s1 ha hb
  generalize fm a = x at *
  generalize fm b = y at *
  generalize fE a = p at *
  generalize fE b = q at *
  rcases Nat.lt_trichotomy p q with hpq | rfl | hpq
  · obtain ⟨k, rfl⟩ : ∃ k, q = p + 1 + k := ⟨q - (p + 1), by omega⟩
    rw [Nat.pow_add, Nat.pow_add, Nat.pow_one]
    have h1 : y * (2 ^ p * 2 * 1) ≤ y * (2 ^ p * 2 * 2 ^ k) := Nat.mul_le_mul_left _ (Nat.mul_le_mul_left _ (Nat.two_pow_pos k))
    refine Nat.lt_of_lt_of_le ?_ h1
    have h2 : y * (2 ^ p * 2 * 1) = (y * 2) * 2 ^ p := by rw [Nat.mul_one, Nat.mul_comm (2 ^ p), Nat.mul_assoc]
    rw [h2]
    exact Nat.mul_lt_mul_of_pos_right (by have := b3 (by omega); omega) (Nat.two_pow_pos _)
  · exact Nat.mul_lt_mul_of_pos_right (by omega) (Nat.two_pow_pos _)
  · have := a3 (by omega); omega
theorem f_same {a b : Nat} (h : a % 9223372036854775808 = b % 9223372036854775808) : sz (fm a) (fe a) = sz (fm b) (fe b) := by
  have e1 : fex a = fex b := by unfold fex; omega
  have e2 : ffr a = ffr b := by unfold ffr; omega
  unfold fe fE fm
  rw [e1, e2]
theorem sz_told {g : Bool} {V : Nat} {e : Int} {d : Dy} (h : mk g V e = some d) : dw false d.V d.e = (sz V e : Int) := by
  have h1 := (mk_fine h).2.1
  have h2 : ∀ (g : Bool) (V : Nat) (e : Int), (dw g V e).natAbs = sz V e := fun g V e => by cases g <;> simp [dw]
  have h3 := congrArg Int.natAbs h1
  rw [h2, h2] at h3
  show (sz d.V d.e : Int) = _
  rw [h3]
/-- The order of two sizes is that of the bits. -/
theorem f_order {a b : Nat} {x y : Dy} (ha : Fnt a) (hb : Fnt b) (hx : mk (fng a) (fm a) (fe a) = some x) (hy : mk (fng b) (fm b) (fe b) = some y) :
    cmpI (dw false x.V x.e) (dw false y.V y.e) = cmpI (a % 9223372036854775808 : Nat) (b % 9223372036854775808 : Nat) := by
  rw [sz_told hx, sz_told hy]
  rcases Nat.lt_trichotomy (a % 9223372036854775808) (b % 9223372036854775808) with h | h | h
  · have := f_less h ha hb
    rw [cmpI_lt (by omega), cmpI_lt (by omega)]
  · have := f_same h
    rw [cmpI_eq (by omega), cmpI_eq (by omega)]
  · have := f_less h hb ha
    rw [cmpI_gt (by omega), cmpI_gt (by omega)]
/-- Finite bits can be told. -/
theorem mk_fin {b : Nat} (h : Fnt b) : mk (fng b) (fm b) (fe b) = some (fO b) := by
  rw [mk_nO]
  show toldD (fO b).neg (fO b).V (fO b).e = _
  by_cases h0 : fm b = 0
  · rw [fO_zero h0]; rfl
  · have hV : (fO b).V ≠ 0 := by
      rw [fO, nO_pos _ _ h0]; exact fun h => h0 (odd_part_zero.1 h)
    have he : (fO b).e = fe b + low (fm b) := by rw [fO, nO_pos _ _ h0]; show held (fe b) + _ = _; rw [fe_held h]
    have hb := fe_bd h
    have hl : low (fm b) < 53 := by
      refine (low_lt_iff (Nat.pos_of_ne_zero h0)).2 ?_
      have := (f_parts b).2.1
      show fm b % 9007199254740992 ≠ 0
      omega
    rw [toldD, if_neg hV, if_neg (by omega)]
end Go.Proofs.YtjdlnfmeciodnaaDoor

/- Plain mathematics of products by columns, and of powers. No program is named here. -/
namespace Go.Proofs.YtjdlnfmeciodnaaDoor

theorem getD_out (xs : List Nat) {k : Nat} (h : xs.length ≤ k) : xs.getD k 0 = 0 := by
  rw [List.getD_eq_getElem?_getD, List.getElem?_eq_none h]; rfl
/-- The first i terms of column j. -/
def csum (xs ys : List Nat) (j : Nat) : Nat → Nat
  | 0 => 0
  | i + 1 => csum xs ys j i + xs.getD i 0 * ys.getD (j - i) 0
/-- The columns below N, each at its place. -/
def cols (xs ys : List Nat) : Nat → Nat
  | 0 => 0
  | N + 1 => cols xs ys N + pw N * csum xs ys N (N + 1)

theorem csum_cons (x : Nat) (xs ys : List Nat) (j i : Nat) : csum (x :: xs) ys (j + 1) (i + 1) = x * ys.getD (j + 1) 0 + csum xs ys j i := by
  induction i with
  | zero => simp [csum]
  | succ i ih =>
    rw [csum, ih, csum, getD_cons_succ, show j + 1 - (i + 1) = j - i from by omega]
    omega
theorem csum_nil (ys : List Nat) (j i : Nat) : csum [] ys j i = 0 := by
  induction i with
  | zero => rfl
  | succ i ih => rw [csum, ih]; simp
theorem cols_nil (ys : List Nat) (N : Nat) : cols [] ys N = 0 := by
  induction N with
  | zero => rfl
  | succ N ih => rw [cols, ih, csum_nil]; simp
theorem cols_cons (x : Nat) (xs ys : List Nat) (N : Nat) : cols (x :: xs) ys (N + 1) = x * val (ys.take (N + 1)) + 18446744073709551616 * cols xs ys N := by
  induction N with
  | zero =>
    rw [val_take_succ', cols, cols, csum, csum, cols, pw_zero, List.take_zero, getD_cons_zero]
    simp [val]
  | succ N ih =>
    rw [cols, ih, csum_cons, cols, val_take_succ' ys (N + 1), Nat.mul_add (pw (N + 1)), Nat.mul_add x, Nat.mul_add 18446744073709551616, ← Nat.mul_assoc 18446744073709551616 (pw N), ← pw_succ, Nat.mul_left_comm (pw (N + 1)) x]
    omega
/-- All columns: the product. -/
theorem cols_val {xs ys : List Nat} {N : Nat} (h : xs.length + ys.length ≤ N) : cols xs ys N = val xs * val ys := by
  induction xs generalizing N with
  | nil => rw [cols_nil]; simp [val]
  | cons x xs ih =>
    rw [List.length_cons] at h
    obtain ⟨M, rfl⟩ : ∃ M, N = M + 1 := ⟨N - 1, by omega⟩
    rw [cols_cons, List.take_of_length_le (by omega), ih (by omega), val, Nat.add_mul, Nat.mul_assoc]
/-- Ahead of the first term nothing comes. -/
theorem csum_first {xs ys : List Nat} {j i : Nat} (h : i + ys.length ≤ j + 1) : csum xs ys j i = 0 := by
  induction i with
  | zero => rfl
  | succ i ih =>
    rw [csum, ih (by omega), getD_out ys (show ys.length ≤ j - i by omega)]
    simp
/-- Behind the last one neither. -/
theorem csum_last {xs ys : List Nat} {j i k : Nat} (h : xs.length ≤ i) (hk : i ≤ k) : csum xs ys j k = csum xs ys j i := by
  induction k with
  | zero => rw [show i = 0 from by omega]
  | succ k ih =>
    by_cases e : i = k + 1
    · rw [e]
    · rw [csum, ih (by omega), getD_out xs (show xs.length ≤ k by omega)]
      simp
/-- One term more, in three limbs. -/
theorem acc_step {lo mi hi l h s1 t1 s2 t2 p q a : Nat} (hp : l + 18446744073709551616 * h = p) (h1 : s1 + 18446744073709551616 * t1 = lo + l + 0) (h2 : s2 + 18446744073709551616 * t2 = mi + h + t1)
    (ha : lo + 18446744073709551616 * mi + 340282366920938463463374607431768211456 * hi = a + q) : s1 + 18446744073709551616 * s2 + 340282366920938463463374607431768211456 * (hi + t2) = a + (q + p) := by
  omega
/-- A column is done. -/
theorem col_step {Z k lo mi hi S C a : Nat} (h : Z + pw k * a = C) (ha : lo + 18446744073709551616 * mi + 340282366920938463463374607431768211456 * hi = a + S) :
    Z + pw k * lo + pw (k + 1) * (mi + 18446744073709551616 * hi) = C + pw k * S := by
  have e : pw (k + 1) * (mi + 18446744073709551616 * hi) = pw k * (18446744073709551616 * mi + 340282366920938463463374607431768211456 * hi) := by
    rw [pw_succ, Nat.mul_comm 18446744073709551616, Nat.mul_assoc]
    congr 1
    omega
  have e2 : pw k * (lo + (18446744073709551616 * mi + 340282366920938463463374607431768211456 * hi)) = pw k * (a + S) := by
    congr 1
    omega
  rw [Nat.mul_add, Nat.mul_add (pw k) a] at e2
  omega
/-- All are done: nothing is left. -/
theorem col_end {Z k a V : Nat} (h : Z + pw k * a = V) (hV : V < pw k) : Z = V := by
  cases a with
  | zero => simpa using h
  | succ a =>
    rw [Nat.mul_succ] at h
    omega
theorem mul_lt_pw {xs ys : List Nat} (hx : Words xs) (hy : Words ys) : val xs * val ys < pw (xs.length + ys.length) := by
  rw [pw_add]
  have h1 := val_lt hx
  have h2 := val_lt hy
  exact Nat.mul_lt_mul'' h1 h2

/-- The bits of products and powers. -/
theorem blen_mul_le (x y : Nat) : blen (x * y) ≤ blen x + blen y := by
  apply blen_le_iff.2
  rw [Nat.pow_add]
  exact Nat.mul_lt_mul'' (lt_blen x) (lt_blen y)
theorem blen_mul_ge {x y : Nat} (hx : x ≠ 0) (hy : y ≠ 0) : blen x + blen y ≤ blen (x * y) + 1 := by
  have h1 := blen_le hx
  have h2 := blen_le hy
  have h3 : 2 ^ (blen x - 1 + (blen y - 1)) ≤ x * y := by rw [Nat.pow_add]; exact Nat.mul_le_mul h1 h2
  have h4 : ¬ blen (x * y) ≤ blen x - 1 + (blen y - 1) := fun h => by have := blen_le_iff.1 h; omega
  have h5 := blen_pos hx
  have h6 := blen_pos hy
  omega
theorem blen_pow_le (x k : Nat) (hx : 1 ≤ k) : blen (x ^ k) ≤ k * blen x := by
  apply blen_le_iff.2
  rw [Nat.mul_comm, Nat.pow_mul]
  exact Nat.pow_lt_pow_left (lt_blen x) (by omega)
theorem blen_pow_ge {x : Nat} (k : Nat) (hx : x ≠ 0) : k * (blen x - 1) < blen (x ^ k) := by
  have h1 := blen_le hx
  have h2 : 2 ^ (k * (blen x - 1)) ≤ x ^ k := by
    rw [Nat.mul_comm, Nat.pow_mul]
    exact Nat.pow_le_pow_left h1 k
  rcases Nat.lt_or_ge (k * (blen x - 1)) (blen (x ^ k)) with h | h
  · exact h
  · have := blen_le_iff.1 h
    omega
/-- How many limbs a number has, by its bits. -/
theorem tl_of_blen {xs : List Nat} (hw : Words xs) : tl xs = (blen (val xs) + 63) / 64 := by
  cases e : tl xs with
  | zero => rw [tl_zero e]; rfl
  | succ j =>
    have h1 := val_pos_of_tl e
    have h2 := val_lt_tl hw
    rw [e] at h2
    rw [pw_two] at h1 h2
    have h3 := blen_le_iff.2 h2
    have h4 : ¬ blen (val xs) ≤ 64 * j := fun h => by have := blen_le_iff.1 h; omega
    omega
theorem bare_len {xs : List Nat} (hw : Words xs) (hb : Bare xs) : xs.length = (blen (val xs) + 63) / 64 := by
  rw [← tl_of_blen hw]; exact hb.symm
theorem len_of_blen {xs : List Nat} {b L : Nat} (hw : Words xs) (hb : Bare xs) (h : blen (val xs) ≤ b) (hL : b ≤ 64 * L) : xs.length ≤ L := by
  rw [bare_len hw hb]; omega

theorem val_set (zs : List Nat) (k z : Nat) (hk : k < zs.length) : val (zs.set k z) + pw k * zs.getD k 0 = val zs + pw k * z := by
  induction zs generalizing k with
  | nil => simp at hk
  | cons x xs ih =>
    cases k with
    | zero => rw [List.set_cons_zero, val, val, pw_zero, getD_cons_zero]; omega
    | succ k =>
      rw [List.length_cons] at hk
      have := ih k (by omega)
      rw [List.set_cons_succ, val, val, pw_succ, getD_cons_succ, Nat.mul_assoc, Nat.mul_assoc]
      omega
theorem Words.set {zs : List Nat} (h : Words zs) (k : Nat) {z : Nat} (hz : z < 18446744073709551616) : Words (zs.set k z) := by
  intro x hx
  rcases List.mem_or_eq_of_mem_set hx with h1 | h1
  · exact h x h1
  · rw [h1]; exact hz
theorem val_zeros (L : Nat) : val (List.replicate L 0) = 0 := by
  induction L with
  | zero => rfl
  | succ L ih => rw [List.replicate_succ, val, ih]
/-- One limb of a sum in place. -/
theorem set_step {o x cn s t k Z U T : Nat} (hs : s + 18446744073709551616 * t = o + x + cn) (hset : U + pw k * o = Z + pw k * s) (h : Z + pw k * cn = T) : U + pw (k + 1) * t = T + pw k * x := by
  have e : pw (k + 1) * t = pw k * (18446744073709551616 * t) := by rw [pw_succ, Nat.mul_comm 18446744073709551616, Nat.mul_assoc]
  have e2 : pw k * (s + 18446744073709551616 * t) = pw k * (o + x + cn) := by rw [hs]
  rw [Nat.mul_add, Nat.mul_add, Nat.mul_add] at e2
  omega
/-- The sum of the first ones. -/
def tot (f : Nat → List Nat) : Nat → Nat
  | 0 => 0
  | j + 1 => tot f j + val (f j)
theorem tot_le {f : Nat → List Nat} {P j : Nat} (h : ∀ i, i < j → val (f i) ≤ P) : tot f j ≤ j * P := by
  induction j with
  | zero => exact Nat.zero_le _
  | succ j ih =>
    have h1 := ih (fun i hi => h i (by omega))
    have h2 := h j (by omega)
    rw [tot, Nat.succ_mul]
    omega
theorem tot_lt {f : Nat → List Nat} {l j : Nat} (h : ∀ i, i < j → val (f i) < pw l) (hj : j < 18446744073709551616) : tot f j < pw (l + 1) := by
  have h1 := tot_le (f := f) (P := pw l) (fun i hi => Nat.le_of_lt (h i hi))
  have h2 : j * pw l < 18446744073709551616 * pw l := Nat.mul_lt_mul_of_pos_right hj (pw_pos l)
  rw [pw_succ]
  omega
end Go.Proofs.YtjdlnfmeciodnaaDoor

/- The walks of math/bits.Mul64 and of prod.bare. -/
namespace Go.Proofs.YtjdlnfmeciodnaaDoor
open Go.RowKit

theorem maskN (a : Nat) (ha : a < 18446744073709551616) : bits .and .u64 (a : Int) 4294967295 = ((a % 4294967296 : Nat) : Int) := by
  have h := bits_and_u64_nat a 4294967295 ha (by omega)
  have e : a &&& 4294967295 = a % 4294967296 := Nat.and_two_pow_sub_one_eq_mod a 32
  rw [e] at h
  exact h
theorem divN (a : Nat) : (a : Int) / 4294967296 = ((a / 4294967296 : Nat) : Int) := by omega
theorem mulN (a b : Nat) : (a : Int) * (b : Int) = ((a * b : Nat) : Int) := (Int.natCast_mul a b).symm
theorem addN (a b : Nat) : (a : Int) + (b : Int) = ((a + b : Nat) : Int) := (Int.natCast_add a b).symm
theorem wrapN (a : Nat) (ha : a < 18446744073709551616) : IntKind.u64.wrap (a : Int) = (a : Int) := by rw [IntKind.wrap_u64]; omega
theorem wrapM (a : Nat) : IntKind.u64.wrap (a : Int) = ((a % 18446744073709551616 : Nat) : Int) := by rw [IntKind.wrap_u64]; omega




end Go.Proofs.YtjdlnfmeciodnaaDoor

/- The walk of prod.columns: the product of any two numbers. -/
namespace Go.Proofs.YtjdlnfmeciodnaaDoor
open Go.RowKit


end Go.Proofs.YtjdlnfmeciodnaaDoor

/- The walks of prod.Mul, prod.Times and math/bits.Len. -/
namespace Go.Proofs.YtjdlnfmeciodnaaDoor
open Go.RowKit

theorem bits_to (b : Nat) (A : Option Addr) (n c : Nat) (xs : List Nat) (w : World) (hA : Lim w A n c xs) (hn : n ≤ 4398046511104) (hb : Hid (blen (val xs) = b)) :
    Calls Tryd.prog 40 #[.slice A n c] w fun e w' => e = .returned (.int .i64 (b : Int)) ∧ w = w' := by
  rw [← hb.out]; exact bits_any A n c xs w hA hn

theorem val_pos_len {xs : List Nat} (h : val xs ≠ 0) : 1 ≤ tl xs := by
  cases e : tl xs with
  | zero => exact absurd (tl_zero e) h
  | succ j => omega





end Go.Proofs.YtjdlnfmeciodnaaDoor

/- Plain mathematics of lists of digits to the base 65536, lowest one first: the limbs' text at the other base. No program is named here. -/
namespace Go.Proofs.YtjdlnfmeciodnaaDoor.D

/-- The number that a list of limbs is. -/
def val : List Nat → Nat
  | [] => 0
  | x :: xs => x + 65536 * val xs

/-- The length without leading noughts. -/
def tl : List Nat → Nat
  | [] => 0
  | x :: xs => if tl xs = 0 then (if x = 0 then 0 else 1) else tl xs + 1

/-- 2 to 16 times k. -/
def pw (k : Nat) : Nat := 65536 ^ k

theorem pw_zero : pw 0 = 1 := rfl
theorem pw_succ (k : Nat) : pw (k + 1) = 65536 * pw k := by unfold pw; rw [Nat.pow_succ, Nat.mul_comm]
theorem pw_pos (k : Nat) : 0 < pw k := Nat.pow_pos (by decide)
theorem pw_add (j k : Nat) : pw (j + k) = pw j * pw k := by unfold pw; rw [Nat.pow_add]
theorem pw_mono {j k : Nat} (h : j ≤ k) : pw j ≤ pw k := Nat.pow_le_pow_right (by decide) h
theorem pw_two (k : Nat) : pw k = 2 ^ (16 * k) := by
  unfold pw
  rw [Nat.pow_mul]

/-- Each limb is below 65536. -/
def Words (xs : List Nat) : Prop := ∀ x ∈ xs, x < 65536

theorem Words.nil : Words [] := by intro x hx; cases hx
theorem Words.tail {x : Nat} {xs : List Nat} (h : Words (x :: xs)) : Words xs := fun y hy => h y (List.mem_cons_of_mem _ hy)
theorem Words.head {x : Nat} {xs : List Nat} (h : Words (x :: xs)) : x < 65536 := h x List.mem_cons_self
theorem Words.cons {x : Nat} {xs : List Nat} (hx : x < 65536) (h : Words xs) : Words (x :: xs) := by
  intro y hy
  rcases List.mem_cons.1 hy with rfl | hy
  · exact hx
  · exact h y hy
theorem Words.getD {xs : List Nat} (h : Words xs) (k : Nat) : xs.getD k 0 < 65536 := by
  rw [List.getD_eq_getElem?_getD]
  cases e : xs[k]? with
  | none => simp
  | some x => simpa using h x (List.mem_of_getElem? e)
theorem Words.take {xs : List Nat} (h : Words xs) (k : Nat) : Words (xs.take k) := fun x hx => h x (List.mem_of_mem_take hx)
theorem Words.drop {xs : List Nat} (h : Words xs) (k : Nat) : Words (xs.drop k) := fun x hx => h x (List.mem_of_mem_drop hx)
theorem Words.append {xs ys : List Nat} (h : Words xs) (h' : Words ys) : Words (xs ++ ys) := by
  intro x hx
  rcases List.mem_append.1 hx with hx | hx
  · exact h x hx
  · exact h' x hx
theorem Words.one {x : Nat} (hx : x < 65536) : Words [x] := Words.cons hx Words.nil
/-- A list given by its limbs. -/
theorem Words.of_getD {xs : List Nat} (h : ∀ k, k < xs.length → xs.getD k 0 < 65536) : Words xs := by
  intro x hx
  obtain ⟨k, hk, rfl⟩ := List.getElem_of_mem hx
  have := h k hk
  rwa [List.getD_eq_getElem?_getD, List.getElem?_eq_getElem hk, Option.getD_some] at this

theorem val_append (xs ys : List Nat) : val (xs ++ ys) = val xs + pw xs.length * val ys := by
  induction xs with
  | nil => simp [val, pw_zero]
  | cons x xs ih =>
    rw [List.cons_append, val, val, ih, List.length_cons, pw_succ, Nat.mul_add, Nat.mul_assoc]
    omega

theorem val_lt {xs : List Nat} (h : Words xs) : val xs < pw xs.length := by
  induction xs with
  | nil => simp [val, pw_zero]
  | cons x xs ih =>
    have h1 := ih h.tail
    have h2 := h.head
    rw [val, List.length_cons, pw_succ]
    omega

theorem val_split (xs : List Nat) (k : Nat) (hk : k ≤ xs.length) : val xs = val (xs.take k) + pw k * val (xs.drop k) := by
  have := val_append (xs.take k) (xs.drop k)
  rwa [List.take_append_drop, List.length_take, Nat.min_eq_left hk] at this

theorem getD_cons_succ (x : Nat) (xs : List Nat) (k : Nat) : (x :: xs).getD (k + 1) 0 = xs.getD k 0 := by simp [List.getD]
theorem getD_cons_zero (x : Nat) (xs : List Nat) : (x :: xs).getD 0 0 = x := rfl

theorem drop_cons (xs : List Nat) (k : Nat) (hk : k < xs.length) : xs.drop k = xs.getD k 0 :: xs.drop (k + 1) := by
  rw [List.drop_eq_getElem_cons hk, List.getD_eq_getElem?_getD, List.getElem?_eq_getElem hk, Option.getD_some]

theorem take_snoc (xs : List Nat) (k : Nat) (hk : k < xs.length) : xs.take (k + 1) = xs.take k ++ [xs.getD k 0] := by
  rw [List.take_succ_eq_append_getElem hk, List.getD_eq_getElem?_getD, List.getElem?_eq_getElem hk, Option.getD_some]

theorem val_take_succ (xs : List Nat) (k : Nat) (hk : k < xs.length) : val (xs.take (k + 1)) = val (xs.take k) + pw k * xs.getD k 0 := by
  rw [take_snoc xs k hk, val_append, List.length_take, Nat.min_eq_left (by omega)]
  simp [val]

/-- Past the end nothing more comes. -/
theorem val_take_succ' (xs : List Nat) (k : Nat) : val (xs.take (k + 1)) = val (xs.take k) + pw k * xs.getD k 0 := by
  by_cases hk : k < xs.length
  · exact val_take_succ xs k hk
  · have : xs.getD k 0 = 0 := by rw [List.getD_eq_getElem?_getD, List.getElem?_eq_none (by omega)]; rfl
    rw [this, List.take_of_length_le (by omega), List.take_of_length_le (by omega)]
    omega

theorem val_snoc (xs : List Nat) (x : Nat) : val (xs ++ [x]) = val xs + pw xs.length * x := by rw [val_append]; simp [val]

theorem tl_le (xs : List Nat) : tl xs ≤ xs.length := by
  induction xs with
  | nil => exact Nat.le_refl _
  | cons x xs ih =>
    rw [tl, List.length_cons]
    split
    · split <;> omega
    · omega

theorem tl_zero {xs : List Nat} (h : tl xs = 0) : val xs = 0 := by
  induction xs with
  | nil => rfl
  | cons x xs ih =>
    rw [tl] at h
    split at h
    · rename_i h0
      split at h
      · rename_i hx; rw [val, ih h0, hx]
      · omega
    · omega

theorem val_take_tl (xs : List Nat) : val (xs.take (tl xs)) = val xs := by
  induction xs with
  | nil => rfl
  | cons x xs ih =>
    rw [tl]
    split
    · rename_i h0
      split
      · rename_i hx; rw [val, tl_zero h0, hx]; rfl
      · rw [List.take_succ_cons, val, val, List.take_zero, tl_zero h0]; rfl
    · rw [List.take_succ_cons, val, val, ih]

theorem getD_of_tl {xs : List Nat} {j : Nat} (h : tl xs ≤ j) : xs.getD j 0 = 0 := by
  induction xs generalizing j with
  | nil => simp
  | cons x xs ih =>
    rw [tl] at h
    cases j with
    | zero =>
      split at h
      · split at h
        · assumption
        · omega
      · omega
    | succ j =>
      rw [getD_cons_succ]
      apply ih
      split at h
      · omega
      · omega

theorem getD_tl_pred {xs : List Nat} {j : Nat} (h : tl xs = j + 1) : xs.getD j 0 ≠ 0 := by
  induction xs generalizing j with
  | nil => simp [tl] at h
  | cons x xs ih =>
    rw [tl] at h
    split at h
    · split at h
      · omega
      · obtain rfl : j = 0 := by omega
        assumption
    · rename_i h0
      cases j with
      | zero => omega
      | succ j =>
        rw [getD_cons_succ]
        exact ih (by omega)

/-- What the trimmed length is. -/
theorem tl_eq {xs : List Nat} {k : Nat} (h1 : ∀ j, k ≤ j → j < xs.length → xs.getD j 0 = 0) (h2 : ∀ j, k = j + 1 → xs.getD j 0 ≠ 0) : tl xs = k := by
  rcases Nat.lt_trichotomy (tl xs) k with h | h | h
  · cases k with
    | zero => omega
    | succ j => exact absurd (getD_of_tl (j := j) (by omega)) (h2 j rfl)
  · exact h
  · obtain ⟨j, hj⟩ : ∃ j, tl xs = j + 1 := ⟨tl xs - 1, by omega⟩
    have := tl_le xs
    exact absurd (h1 j (by omega) (by omega)) (getD_tl_pred hj)

theorem val_pos_of_tl {xs : List Nat} {j : Nat} (h : tl xs = j + 1) : pw j ≤ val xs := by
  have hl := tl_le xs
  have h1 := val_take_succ xs j (by omega)
  have h2 := getD_tl_pred h
  have h3 := val_take_tl xs
  rw [h] at h3
  rw [← h3, h1]
  have : pw j * 1 ≤ pw j * xs.getD j 0 := Nat.mul_le_mul_left _ (by omega)
  omega

theorem val_lt_tl {xs : List Nat} (h : Words xs) : val xs < pw (tl xs) := by
  have h1 := val_lt (h.take (tl xs))
  rw [List.length_take, Nat.min_eq_left (tl_le xs), val_take_tl] at h1
  exact h1

theorem tl_zero_iff {xs : List Nat} : tl xs = 0 ↔ val xs = 0 := by
  constructor
  · exact tl_zero
  · intro h
    cases e : tl xs with
    | zero => rfl
    | succ j =>
      have := val_pos_of_tl e
      have := pw_pos j
      omega

/-- Fewer limbs: less. -/
theorem val_lt_of_tl_lt {xs ys : List Nat} (hx : Words xs) (h : tl xs < tl ys) : val xs < val ys := by
  obtain ⟨j, hj⟩ : ∃ j, tl ys = j + 1 := ⟨tl ys - 1, by omega⟩
  have h1 := val_lt_tl hx
  have h2 := val_pos_of_tl hj
  have h3 : pw (tl xs) ≤ pw j := pw_mono (by omega)
  omega

theorem tl_le_of_val_le {xs ys : List Nat} (hy : Words ys) (h : val xs ≤ val ys) : tl xs ≤ tl ys := by
  rcases Nat.lt_or_ge (tl ys) (tl xs) with h' | h'
  · have := val_lt_of_tl_lt hy h'
    omega
  · exact h'

theorem tl_of_val_eq {xs ys : List Nat} (hx : Words xs) (hy : Words ys) (h : val xs = val ys) : tl xs = tl ys := by
  have h1 := tl_le_of_val_le hy (Nat.le_of_eq h)
  have h2 := tl_le_of_val_le hx (Nat.le_of_eq h.symm)
  omega

/-- The first limb from above that differs decides. -/
theorem val_lt_of_digit {xs ys : List Nat} (hx : Words xs) {i n : Nat} (hi : i < n) (hxl : n ≤ xs.length) (hyl : n ≤ ys.length)
    (he : ∀ j, i < j → j < n → xs.getD j 0 = ys.getD j 0) (hd : xs.getD i 0 < ys.getD i 0) : val (xs.take n) < val (ys.take n) := by
  induction n with
  | zero => omega
  | succ n ih =>
    rw [val_take_succ xs n (by omega), val_take_succ ys n (by omega)]
    by_cases h : i = n
    · subst h
      have h1 := val_lt (hx.take i)
      rw [List.length_take, Nat.min_eq_left (by omega)] at h1
      have h2 : pw i * (xs.getD i 0 + 1) ≤ pw i * ys.getD i 0 := Nat.mul_le_mul_left _ hd
      rw [Nat.mul_add] at h2
      omega
    · have h1 := ih (by omega) (by omega) (by omega) (fun j hj hjn => he j hj (by omega))
      rw [he n (by omega) (by omega)]
      omega

theorem take_congr {xs ys : List Nat} {n : Nat} (he : ∀ j, j < n → xs.getD j 0 = ys.getD j 0) : val (xs.take n) = val (ys.take n) := by
  induction n with
  | zero => simp
  | succ n ih => rw [val_take_succ', val_take_succ', ih (fun j hj => he j (by omega)), he n (by omega)]

/-- A bare list: its last limb isn't 0. -/
def Bare (xs : List Nat) : Prop := tl xs = xs.length

theorem tl_take {xs : List Nat} : tl (xs.take (tl xs)) = tl xs := by
  apply tl_eq
  · intro j h1 h2
    rw [List.length_take] at h2
    have := tl_le xs
    omega
  · intro j hj
    have := getD_tl_pred hj
    rw [List.getD_eq_getElem?_getD, List.getElem?_take_of_lt (by omega), ← List.getD_eq_getElem?_getD]
    exact this
theorem bare_take (xs : List Nat) : Bare (xs.take (tl xs)) := by
  unfold Bare
  rw [tl_take, List.length_take, Nat.min_eq_left (tl_le xs)]

/-- Two bare lists of one value are one. -/
theorem eq_of_val {xs ys : List Nat} (hx : Words xs) (hy : Words ys) (hl : xs.length = ys.length) (h : val xs = val ys) : xs = ys := by
  induction xs generalizing ys with
  | nil => cases ys with
    | nil => rfl
    | cons y ys => simp at hl
  | cons x xs ih => cases ys with
    | nil => simp at hl
    | cons y ys =>
      rw [val, val] at h
      have h1 := hx.head
      have h2 := hy.head
      have e1 : x = y := by omega
      have e2 : val xs = val ys := by omega
      rw [e1, ih hx.tail hy.tail (by simpa using hl) e2]
theorem bare_eq {xs ys : List Nat} (hx : Words xs) (hy : Words ys) (bx : Bare xs) (by_ : Bare ys) (h : val xs = val ys) : xs = ys := by
  refine eq_of_val hx hy ?_ h
  rw [← bx, ← by_]
  exact tl_of_val_eq hx hy h

end Go.Proofs.YtjdlnfmeciodnaaDoor.D

/- append on rows of numbers that the call itself made: the run of the builtin, whatever the source (nil, empty or not). -/
namespace Go.Proofs.YtjdlnfmeciodnaaDoor
open Go.RowKit

/-- The slice value '.slice A n c' holds the numbers xs of one kind. -/
def Row (kd : IntKind) (w : World) (A : Option Addr) (n c : Nat) (xs : List Nat) : Prop :=
  xs.length = n ∧ n ≤ c ∧ (0 < n → ∃ b o, A = some ⟨b, o, none⟩ ∧ b < w.heap.size ∧ ∀ k, k < n → w.cell? ⟨b, o + k, none⟩ = some (.int kd ((xs.getD k 0 : Nat) : Int)))

theorem Lim.toRow {w : World} {A : Option Addr} {n c : Nat} {xs : List Nat} (h : Lim w A n c xs) : Row .u64 w A n c xs := ⟨h.1, h.2.1, h.2.2.2⟩
theorem Row.toLim {w : World} {A : Option Addr} {n c : Nat} {xs : List Nat} (h : Row .u64 w A n c xs) (hw : Words xs) : Lim w A n c xs := ⟨h.1, h.2.1, hw, h.2.2⟩

section
variable {kd : IntKind} {w w' : World} {A : Option Addr} {n c : Nat} {xs : List Nat}
theorem Row.len (h : Row kd w A n c xs) : xs.length = n := h.1
theorem Row.at_ (h : Row kd w A n c xs) (hn : 0 < n) : ∃ b o, A = some ⟨b, o, none⟩ ∧ b < w.heap.size ∧ ∀ k, k < n → w.cell? ⟨b, o + k, none⟩ = some (.int kd ((xs.getD k 0 : Nat) : Int)) := h.2.2 hn
theorem Row.keep (h : Row kd w A n c xs) (hs : w.heap.size ≤ w'.heap.size) (hk : ∀ p : Addr, p.block < w.heap.size → w'.cell? p = w.cell? p) : Row kd w' A n c xs :=
  ⟨h.1, h.2.1, fun hn => by
    obtain ⟨b, o, e, hb, hc⟩ := h.at_ hn
    exact ⟨b, o, e, Nat.lt_of_lt_of_le hb hs, fun k hk' => (hk ⟨b, o + k, none⟩ hb).trans (hc k hk')⟩⟩
theorem Row.below (h : Row kd w A n c xs) (hb : Below w.heap.size w w') : Row kd w' A n c xs := h.keep hb.size fun _ hp => hb.cell hp
theorem Row.nil (kd : IntKind) (w : World) (A : Option Addr) (c : Nat) : Row kd w A 0 c [] := ⟨rfl, Nat.zero_le _, fun h => absurd h (by omega)⟩
end

/-- The value v is nil, or a row of the call's own (blocks from B on) whose numbers are zs. -/
def Own (kd : IntKind) (t : TypeId) (w : World) (B : Nat) (v : Value) (zs : List Nat) : Prop := w.ownsRow B t 1 v zs.length (zs.map (fun z => Value.int kd ((z : Nat) : Int)))

section
variable {kd : IntKind} {t : TypeId} {w w' : World} {B : Nat} {v : Value} {zs : List Nat}
theorem Own.nil (kd : IntKind) (t : TypeId) (w : World) (B : Nat) : Own kd t w B (.slice none 0 0) [] := ⟨rfl, Or.inl ⟨rfl, rfl⟩⟩
/-- A row of the call's own as a slice that reads as a list. -/
theorem Own.row (h : Own kd t w B v zs) : ∃ A c, v = .slice A zs.length c ∧ Row kd w A zs.length c zs := by
  obtain ⟨hl, h | ⟨g, cap, cur, hv, hg, hb, hnc, hcm, hsz, htk⟩⟩ := h
  · obtain ⟨rfl, hn⟩ := h
    have : zs = [] := List.eq_nil_of_length_eq_zero hn
    subst this
    exact ⟨none, 0, rfl, Row.nil _ _ _ _⟩
  · refine ⟨_, cap, hv, rfl, hnc, fun hn => ⟨g, 0, rfl, ?_, fun k hk => ?_⟩⟩
    · rcases Nat.lt_or_ge g w.heap.size with h | h
      · exact h
      · rw [Array.getElem?_eq_none h] at hb; cases hb
    · have h1 : w.cell? ⟨g, 0 + k, none⟩ = cur[k]? := by rw [Nat.zero_add]; simp [World.cell?, hb]
      have h2 : (cur.toList.take (zs.length * 1))[k]? = some (.int kd ((zs.getD k 0 : Nat) : Int)) := by
        rw [htk, List.getElem?_map, List.getElem?_eq_getElem hk, List.getD_eq_getElem?_getD, List.getElem?_eq_getElem hk]; rfl
      rw [List.getElem?_take_of_lt (by omega)] at h2
      rw [h1, ← h2, Array.getElem?_toList]
theorem Own.lt (h : Own kd t w B v zs) (g : Nat) (hg : v.ownBlock = some g) : B ≤ g := by
  obtain ⟨hl, h | ⟨g', cap, cur, hv, hb, _⟩⟩ := h
  · obtain ⟨rfl, _⟩ := h; simp [Value.ownBlock] at hg
  · subst hv; simp [Value.ownBlock] at hg; omega
/-- What is owned stays so where nothing from B on has been written but new blocks. -/
theorem Own.keep (h : Own kd t w B v zs) (hb : Below w.heap.size w w') : Own kd t w' B v zs := by
  obtain ⟨hl, h | ⟨g, cap, cur, hv, hg, hh, r⟩⟩ := h
  · exact ⟨hl, Or.inl h⟩
  · refine ⟨hl, Or.inr ⟨g, cap, cur, hv, hg, ?_, r⟩⟩
    rw [hb.block g ?_]
    · exact hh
    · rcases Nat.lt_or_ge g w.heap.size with h | h
      · exact h
      · rw [Array.getElem?_eq_none h] at hh; cases hh
end

theorem add_addr (b o j : Nat) : (⟨b, o, none⟩ : Addr).add j = ⟨b, o + j, none⟩ := by
  unfold Addr.add
  split
  · rename_i h; subst h; rfl
  · rfl

/-- append(v, s...): the numbers of s behind those of v. -/
theorem run_app {P : Program} {kd : IntKind} {T ty t : TypeId} {bytes : Nat} (hT : P.underlying T = some (.slice t)) (hinfo : (P.info? t).map (fun i => (i.zero, i.size, i.bytes)) = some (some (.int kd 0), 1, bytes))
    {w : World} {B : Nat} {v : Value} {zs : List Nat} (hown : Own kd t w B v zs) {A : Option Addr} {m c : Nat} {xs : List Nat} (hr : Row kd w A m c xs) (hB : B ≤ w.heap.size) (hlen : (zs.length + m) * bytes ≤ 140737488355328) (hl2 : zs.length + m ≤ 1000000000000) :
    ∃ v' w', (Builtin.append_ #[T, T] ty #[v, .slice A m c]).run P w = .ok v' w' ∧ Own kd t w' B v' (zs ++ xs) ∧ Below B w w' := by
  obtain ⟨i, hi, hz0, hz1, hz2⟩ := info_parts hinfo
  rcases Nat.eq_zero_or_pos m with h0 | h0
  · subst h0
    have hx : xs = [] := List.eq_nil_of_length_eq_zero hr.len
    subst hx
    rcases A with _ | ad
    · refine ⟨v, w, ?_, by simpa using hown, Below.refl _ _⟩
      rcases hown.2 with ⟨rfl, hz⟩ | ⟨g, cap, cur, rfl, _, _, hnc, _⟩
      · simp [Builtin.append_, run_underlying hT, sizeOf, typeInfo, hi, Builtin.lenOf, Builtin.firstCells]
      · simp [Builtin.append_, run_underlying hT, sizeOf, typeInfo, hi, Builtin.lenOf, Builtin.firstCells, hnc, storeCells]
    · obtain ⟨v', w', hrun, ho, hg, _, _⟩ := run_append_own_at (P := P) w B T ty t i (.int kd 0) 1 bytes hT hi hz0 hz1 hz2 rfl (by decide) v _ _ hown ad 0 c [] rfl (by intro j u h; simp at h) (by simp) (by unfold maxLen; omega) hlen hB
      refine ⟨v', w', hrun, ?_, (Below.refl _ _).grown hg hB (fun g e => hown.lt g e)⟩
      simpa [Own] using ho
  · obtain ⟨b, o, rfl, hb, hc⟩ := hr.at_ h0
    obtain ⟨v', w', hrun, ho, hg, _, _⟩ := run_append_own_at (P := P) w B T ty t i (.int kd 0) 1 bytes hT hi hz0 hz1 hz2 rfl (by decide) v _ _ hown ⟨b, o, none⟩ m c (xs.map (fun z => Value.int kd ((z : Nat) : Int)))
      (by rw [List.length_map, hr.len, Nat.mul_one])
      (by
        intro j u hu
        rw [List.getElem?_map] at hu
        have hj : j < m := by
          rcases Nat.lt_or_ge j m with h | h
          · exact h
          · rw [List.getElem?_eq_none (by rw [hr.len]; exact h)] at hu; simp at hu
        rw [add_addr, hc j hj, ← hu, List.getD_eq_getElem?_getD, List.getElem?_eq_getElem (by rw [hr.len]; exact hj)]
        rfl)
      (by intro u hu; obtain ⟨z, _, rfl⟩ := List.mem_map.1 hu; rfl) (by unfold maxLen; omega) hlen hB
    refine ⟨v', w', hrun, ?_, (Below.refl _ _).grown hg hB (fun g e => hown.lt g e)⟩
    show w'.ownsRow B t 1 v' (zs ++ xs).length _
    rw [List.length_append, hr.len, List.map_append]
    exact ho

/-- The builtin append where the walk meets it, guarded or not, by its run. -/
theorem wpList_app {P : Program} {w w' : World} {ops : Array Oper} {rest : List Oper} {o : Oper} {a : Act} {Q : Exit → Act → World → Prop} {s x : Operand} {t : TypeId} {v1 v2 v' : Value}
    (hgd : Region.wanted o (yielded ops a.tmps) = true) (ho : o.op = .call { callee := .builtin .append, args := #[s, x], argTypes := #[t, t] }) (hs : a.eval s = v1) (hx : a.eval x = v2)
    (hrun : (Builtin.append_ #[t, t] o.type #[v1, v2]).run P w = .ok v' w') (h : wpList P ops Q rest (a.put o.dst v') w') : wpList P ops Q (o :: rest) a w := by
  refine wpList_step fun K hK => ?_
  rw [if_pos hgd]
  unfold Oper.wp execOp
  simp only [ho, resolve, invoke, builtin, Sem.run_bind, Sem.run_pure, Result.andThen_ok, List.map_toArray, List.map_cons, List.map_nil, hs, hx, hrun]
  exact hK _ _ h
end Go.Proofs.YtjdlnfmeciodnaaDoor

/- Digits in memory; what ties digits to limbs. -/
namespace Go.Proofs.YtjdlnfmeciodnaaDoor
open Go.RowKit

theorem info32 : (Tryd.prog.info? 54).map (fun i => (i.zero, i.size, i.bytes)) = some (some (.int .u32 0), 1, 4) := by kernel_rfl

/-- The slice value '.slice A n c' holds the digits ds. -/
def Dig (w : World) (A : Option Addr) (n c : Nat) (ds : List Nat) : Prop := Row .u32 w A n c ds ∧ D.Words ds
section
variable {w w' : World} {A : Option Addr} {n c : Nat} {ds : List Nat}
theorem Dig.len (h : Dig w A n c ds) : ds.length = n := h.1.1
theorem Dig.le (h : Dig w A n c ds) : n ≤ c := h.1.2.1
theorem Dig.words (h : Dig w A n c ds) : D.Words ds := h.2
theorem Dig.at_ (h : Dig w A n c ds) (hn : 0 < n) : ∃ b o, A = some ⟨b, o, none⟩ ∧ b < w.heap.size ∧ ∀ k, k < n → w.cell? ⟨b, o + k, none⟩ = some (.int .u32 ((ds.getD k 0 : Nat) : Int)) := h.1.at_ hn
theorem Dig.below (h : Dig w A n c ds) (hb : Below w.heap.size w w') : Dig w' A n c ds := ⟨h.1.below hb, h.2⟩
theorem Dig.drewN (h : Dig w A n c ds) (k : Nat) : Dig (w.drewN k) A n c ds := h
theorem Dig.nil (w : World) (A : Option Addr) (c : Nat) : Dig w A 0 c [] := ⟨Row.nil _ _ _ _, D.Words.nil⟩
theorem Row.take {kd : IntKind} (h : Row kd w A n c ds) {m : Nat} (hm : m ≤ n) : Row kd w A m c (ds.take m) :=
  ⟨by rw [List.length_take, h.1]; omega, Nat.le_trans hm h.2.1, fun hn => by
    obtain ⟨b, o, e, hb, hc⟩ := h.at_ (by omega)
    refine ⟨b, o, e, hb, fun k hk => ?_⟩
    rw [hc k (by omega), List.getD_eq_getElem?_getD, List.getD_eq_getElem?_getD, List.getElem?_take_of_lt hk]⟩
theorem Dig.take (h : Dig w A n c ds) {m : Nat} (hm : m ≤ n) : Dig w A m c (ds.take m) := ⟨h.1.take hm, h.2.take m⟩
theorem Dig.tl_le (h : Dig w A n c ds) : D.tl ds ≤ n := by have := D.tl_le ds; rw [h.len] at this; exact this
end

/-- What a call tells that hands back digits: without leading noughts, of value V, at most L of them, nothing old has turned. -/
def DTells (w : World) (V L : Nat) (e : Ending) (w' : World) : Prop :=
  ∃ A m c ds, e = .returned (.slice A m c) ∧ m ≤ L ∧ Dig w' A m c ds ∧ D.Bare ds ∧ D.val ds = V ∧ Below w.heap.size w w'
theorem DTells.wider {w w' : World} {V L M : Nat} {e : Ending} (h : DTells w V L e w') (hM : L ≤ M) : DTells w V M e w' := by
  obtain ⟨A, m, c, zs, h1, h2, h3⟩ := h
  exact ⟨A, m, c, zs, h1, Nat.le_trans h2 hM, h3⟩

/-- append(out, d): one digit more, as the walk meets it. -/
theorem app_digit (w : World) (B : Nat) (A : Option Addr) (n c : Nat) (ds : List Nat) (d : Nat) (I : Int) (hI : I = (d : Int)) (hown : Own .u32 54 w B (.slice A n c) ds) (hl : ds.length = n) (hB : B ≤ w.heap.size) (hn : n ≤ 1000000000) :
    ∃ A' c' w', (Builtin.append_ #[26, 26] 26 #[.slice A n c, .slice (some ⟨w.heap.size, 0, none⟩) 1 1]).run Tryd.prog (w.alloc (.cells #[.int .u32 I] 54)) = .ok (.slice A' (n + 1) c') w' ∧
      Own .u32 54 w' B (.slice A' (n + 1) c') (ds ++ [d]) ∧ Below B w w' := by
  subst hI
  have hb2 : Below w.heap.size w (w.alloc (.cells #[.int .u32 (d : Int)] 54)) := (Below.refl _ _).alloc (Nat.le_refl _) _
  have hr : Row .u32 (w.alloc (.cells #[.int .u32 (d : Int)] 54)) (some ⟨w.heap.size, 0, none⟩) 1 1 [d] :=
    ⟨rfl, Nat.le_refl _, fun _ => ⟨w.heap.size, 0, rfl, by simp, fun k hk => by obtain rfl : k = 0 := (by omega); simp [World.cell?_alloc_new]⟩⟩
  obtain ⟨v', w', hrun, ho, hb'⟩ := run_app (P := Tryd.prog) (T := 26) (ty := 26) Tryd.underlying26 info32 (hown.keep hb2) hr (Nat.le_trans hB hb2.size) (by rw [hl]; omega) (by rw [hl]; omega)
  obtain ⟨A', c', rfl, _⟩ := ho.row
  have el : (ds ++ [d]).length = n + 1 := by simp [hl]
  rw [el] at hrun ho
  exact ⟨A', c', w', hrun, ho, (hb2.mono hB).trans hb'⟩
/-- append([]uint32{}, a...). -/
theorem app_copy (w : World) (A : Option Addr) (n c : Nat) (ds : List Nat) (hA : Row .u32 w A n c ds) (hn : n ≤ 1000000000) :
    ∃ A' c' w', (Builtin.append_ #[26, 26] 26 #[.slice (some ⟨w.heap.size, 0, none⟩) 0 0, .slice A n c]).run Tryd.prog (w.alloc (.cells #[] 54)) = .ok (.slice A' n c') w' ∧
      Own .u32 54 w' w.heap.size (.slice A' n c') ds ∧ Below w.heap.size w w' := by
  have hb : Below w.heap.size w (w.alloc (.cells #[] 54)) := (Below.refl _ _).alloc (Nat.le_refl _) _
  have hown : Own .u32 54 (w.alloc (.cells #[] 54)) w.heap.size (.slice (some ⟨w.heap.size, 0, none⟩) 0 0) [] :=
    ⟨rfl, Or.inr ⟨w.heap.size, 0, #[], rfl, Nat.le_refl _, heap_alloc_new w _, Nat.le_refl _, Nat.zero_le _, rfl, rfl⟩⟩
  obtain ⟨v', w', hrun, ho, hb'⟩ := run_app (P := Tryd.prog) (T := 26) (ty := 26) Tryd.underlying26 info32 hown (hA.below hb) hb.size (by simp; omega) (by simp; omega)
  rw [List.nil_append] at ho
  obtain ⟨A1, c1, rfl, hr⟩ := ho.row
  rw [hA.len] at hrun ho
  exact ⟨A1, c1, w', hrun, ho, hb.trans hb'⟩
/-- What the call owns, as digits. -/
theorem Own.dig {w : World} {B : Nat} {A : Option Addr} {n c : Nat} {ds : List Nat} (h : Own .u32 54 w B (.slice A n c) ds) (hl : ds.length = n) (hw : D.Words ds) : Dig w A n c ds := by
  obtain ⟨A', c', e, hr⟩ := h.row
  injection e with e1 e2 e3
  subst e1; subst e3
  rw [hl] at hr
  exact ⟨hr, hw⟩
end Go.Proofs.YtjdlnfmeciodnaaDoor

/- The walks of planimeterref01.Norm, To, Of and of planimeterlaw01.same. -/
namespace Go.Proofs.YtjdlnfmeciodnaaDoor
open Go.RowKit

set_option maxHeartbeats 1000000 in
theorem norm_any (A : Option Addr) (n c : Nat) (ds : List Nat) (w : World) (h : Dig w A n c ds) (hn : n ≤ 1000000) :
    Calls Tryd.prog 45 #[.slice A n c] w (DTells w (D.val ds) n) := by
  have hc := h.le
  have HD := Lib.hid h
  clear h
  go_enter Tryd.func45, Tryd.ntmps45
  go_wp2
  go_loop [3] (fun i => ∃ k : Nat, k ≤ n ∧ i = .int .i64 k ∧ Hid (∀ j, k ≤ j → j < ds.length → ds.getD j 0 = 0)) (fun i => (intOf i).toNat)
  case atStart => exact ⟨n, Nat.le_refl _, rfl, fun j h1 h2 => by have := HD.out.len; omega⟩
  case round =>
    obtain ⟨k, hk, rfl, hz⟩ := hrel
    have fin : Hid (D.tl ds = k → ∃ A' c' w', (Builtin.append_ #[26, 26] 26 #[.slice (some ⟨w.heap.size, 0, none⟩) 0 0, .slice A k c]).run Tryd.prog (w.alloc (.cells #[] 54)) = .ok (.slice A' k c') w' ∧
        DTells w (D.val ds) n (.returned (.slice A' k c')) w') := fun e => by
      have hd := HD.out.take (m := k) hk
      obtain ⟨A', c', w', hrun, ho, hb⟩ := app_copy w A k c (ds.take k) hd.1 (by omega)
      refine ⟨A', c', w', hrun, A', k, c', ds.take k, rfl, hk, ho.dig hd.len hd.words, ?_, ?_, hb⟩
      · rw [← e]; exact D.bare_take ds
      · rw [← e]; exact D.val_take_tl ds
    cases k with
    | zero =>
      obtain ⟨A', c', w', hrun, hfin⟩ := fin.out (D.tl_eq (k := 0) hz.out (fun j hj => by omega))
      have Hrun := Lib.hid hrun
      have Hfin := Lib.hid hfin
      clear hrun hfin fin
      go_wp2_with (at_builtin; refine wpList_app (s := .tmp 18) (x := .tmp 21) (by rfl) rfl rfl rfl Hrun.out ?_)
      go_ret
      exact Hfin.out
    | succ k =>
      obtain ⟨b, o, rfl, hb, hcl⟩ := HD.out.at_ (by omega)
      have c1 := hcl k (by omega)
      clear hcl
      obtain ⟨x, hx⟩ : ∃ x, x = ds.getD k 0 := ⟨_, rfl⟩
      rw [← hx] at c1
      have Hx := Lib.hid hx
      clear hx
      by_cases h0 : x = 0
      · subst h0
        clear fin
        go_wp2
        go_round
        case rel => exact ⟨k, by omega, by go_num, fun j h1 h2 => by
          by_cases e : j = k
          · rw [e]; exact Hx.out.symm
          · exact hz.out j (by omega) h2⟩
        case measure => simp [intOf]
      · obtain ⟨A', c', w', hrun, hfin⟩ := fin.out (D.tl_eq (k := k + 1) hz.out (fun j hj => by obtain rfl : j = k := (by omega); rw [← Hx.out]; exact h0))
        have hb0 : ((x : Int) == 0) = false := beq_eq_false_iff_ne.2 (by omega)
        have Hrun := Lib.hid hrun
        have Hfin := Lib.hid hfin
        clear hrun hfin fin h0
        go_wp2_with (at_builtin; refine wpList_app (s := .tmp 18) (x := .tmp 21) (by rfl) rfl rfl rfl Hrun.out ?_)
        go_ret
        exact Hfin.out

theorem dig_step {x d x' k V Z : Nat} (hx : x = d + 65536 * x') (h : Z + D.pw k * x = V) : Z + D.pw k * d + D.pw (k + 1) * x' = V := by
  rw [hx, Nat.mul_add] at h
  rw [D.pw_succ, Nat.mul_comm 65536, Nat.mul_assoc]
  omega
theorem pw_dig (i : Nat) : D.pw (4 * i) = pw i := by
  rw [D.pw_two, pw_two]
  congr 1
  omega

set_option maxHeartbeats 2000000 in
set_option maxRecDepth 20000 in
theorem to_any (A : Option Addr) (n c : Nat) (xs : List Nat) (w : World) (h : Lim w A n c xs) (hn : n ≤ 100000) :
    Calls Tryd.prog 19 #[.slice A n c] w (DTells w (val xs) (4 * n)) := by
  have HA := Lib.hid h
  clear h
  go_enter Tryd.func19, Tryd.ntmps19
  go_wp2
  go_loopw [3, 4] (fun v i wr => ∃ (k m c1 : Nat) (A1 : Option Addr) (ds : List Nat), k ≤ n ∧ m ≤ 4 * k ∧ 4 * k ≤ m ∧ i = .int .i64 k ∧ v = .slice A1 m c1 ∧ Hid (ds.length = m) ∧ Hid (Own .u32 54 wr w.heap.size (.slice A1 m c1) ds) ∧ Hid (D.Words ds) ∧ Hid (D.val ds = val (xs.take k)) ∧ Below w.heap.size w wr) (fun _ i _ => n - (intOf i).toNat)
  case atStart => exact ⟨0, 0, 0, none, [], Nat.zero_le _, Nat.zero_le _, Nat.zero_le _, rfl, rfl, rfl, Own.nil _ _ _ _, D.Words.nil, by simp [Hid, D.val, val], Below.refl _ _⟩
  case round =>
    obtain ⟨k, m, c1, A1, ds, hk, hm1, hm2, rfl, rfl, Hl, Ho, Hw, HV, hb⟩ := hrel
    by_cases hlt : k < n
    · obtain ⟨b, o, rfl, hbl, hcl⟩ := HA.out.at_ (by omega)
      have c2 := (hb.cell (p := ⟨b, o + k, none⟩) hbl).trans (hcl k hlt)
      clear hcl
      have hxw := HA.out.words.getD k
      obtain ⟨x, hx⟩ : ∃ x, xs.getD k 0 = x := ⟨_, rfl⟩
      rw [hx] at c2 hxw
      have HE : Hid (D.val ds + D.pw m * x = val (xs.take (k + 1))) := by
        rw [HV.out, val_take_succ', hx, show m = 4 * k from by omega, pw_dig]; rfl
      have Hx := Lib.hid hx
      clear hx HV
      go_wp2
      clear c2
      go_loopw [3, 5, 6] (fun v y j wr2 => ∃ (q m2 c2 x2 : Nat) (A2 : Option Addr) (es : List Nat), q ≤ 4 ∧ m2 ≤ m + q ∧ m + q ≤ m2 ∧ j = .int .i64 q ∧ y = .int .u64 x2 ∧ v = .slice A2 m2 c2 ∧ Hid (x2 < D.pw (4 - q)) ∧ x2 < 18446744073709551616 ∧ Hid (es.length = m2) ∧ Hid (Own .u32 54 wr2 w.heap.size (.slice A2 m2 c2) es) ∧ Hid (D.Words es) ∧ Hid (D.val es + D.pw m2 * x2 = val (xs.take (k + 1))) ∧ Below w.heap.size w wr2) (fun _ _ j _ => 4 - (intOf j).toNat)
      case atStart => exact ⟨0, m, c1, x, A1, ds, Nat.zero_le _, Nat.le_refl _, Nat.le_refl _, rfl, rfl, rfl, hxw, hxw, Hl, Ho, Hw, HE, hb⟩
      case round =>
        obtain ⟨q, m2, c2, x2, A2, es, hq, hm3, hm4, rfl, rfl, rfl, Hx2, hx2, Hl2, Ho2, Hw2, HE2, hb2⟩ := hrel
        by_cases hq4 : q < 4
        · obtain ⟨dg, x3, hdx, hdg⟩ : ∃ dg x3, x2 = dg + 65536 * x3 ∧ dg < 65536 := ⟨x2 % 65536, x2 / 65536, by omega, by omega⟩
          have e1 : (x2 : Int) % 65536 = (dg : Int) := by omega
          have e2 : (x2 : Int) / 65536 = (x3 : Int) := by omega
          have hx3 : x3 < 18446744073709551616 := by omega
          have Hx3 : Hid (x3 < D.pw (4 - (q + 1))) := by
            have h1 := Hx2.out
            rw [show 4 - q = (4 - (q + 1)) + 1 from by omega, D.pw_succ] at h1
            show x3 < _
            omega
          have HE3 := Lib.hid (dig_step hdx HE2.out)
          obtain ⟨A3, c3, w3, hrun, ho3, hb3⟩ := app_digit wr w.heap.size A2 m2 c2 es dg dg rfl Ho2.out Hl2.out hb2.size (by omega)
          have Hrun := Lib.hid hrun
          have Ho3 := Lib.hid ho3
          have hb4 := hb2.trans hb3
          have Hl3 : Hid ((es ++ [dg]).length = m2 + 1) := by have := Hl2.out; simp [Hid]; omega
          have Hw3 : Hid (D.Words (es ++ [dg])) := Hw2.out.append (D.Words.one hdg)
          have HE4 : Hid (D.val (es ++ [dg]) + D.pw (m2 + 1) * x3 = val (xs.take (k + 1))) := by rw [D.val_snoc, Hl2.out]; exact HE3.out
          clear hrun ho3 hb3 hdx
          go_wp2_with (at_builtin; refine wpList_app (s := .tmp 21) (x := .tmp 25) (by rfl) rfl rfl rfl Hrun.out ?_)
          go_roundw
          case rel => exact ⟨q + 1, m2 + 1, c3, x3, A3, es ++ [dg], by omega, by omega, by omega, by go_num, rfl, rfl, Hx3, hx3, Hl3, Ho3, Hw3, HE4, hb4⟩
          case measure => simp [intOf]; omega
        · obtain rfl : q = 4 := by omega
          have hx0 : x2 = 0 := by
            have h1 := Hx2.out
            rw [show (4 : Nat) - 4 = 0 from rfl, D.pw_zero] at h1
            omega
          have HV3 : Hid (D.val es = val (xs.take (k + 1))) := by
            have := HE2.out
            rw [hx0] at this
            exact this
          clear hx0 HE2
          go_wp2
          go_roundw
          case rel => exact ⟨k + 1, m2, c2, A2, es, by omega, by omega, by omega, by go_num, rfl, Hl2, Ho2, Hw2, HV3, hb2⟩
          case measure => simp [intOf]; omega
    · obtain rfl : k = n := by omega
      have hV : D.val ds = val xs := by
        have := HV.out
        rw [List.take_of_length_le (by have := HA.out.len; omega)] at this
        exact this
      have hd := Ho.out.dig Hl.out Hw.out
      have hN := (norm_any A1 m c1 ds _ hd (by omega)).mono (R' := DTells w (val xs) (4 * k)) (fun e w' h => by
        obtain ⟨A', m', c', es, h1, h2, h3, h4, h5, h6⟩ := h
        exact ⟨A', m', c', es, h1, by omega, h3, h4, h5.trans hV, hb.trans (h6.mono hb.size)⟩)
      have HN := Lib.hid hN
      clear hV hd hN
      go_wp2_with fail
      refine HN.out.mono ?_
      intro e w' hr
      obtain ⟨A', m', c', es, rfl, h3⟩ := hr
      have H3 := Lib.hid h3
      clear h3
      go_wp2
      go_ret
      exact ⟨A', m', c', es, rfl, H3.out⟩
end Go.Proofs.YtjdlnfmeciodnaaDoor
