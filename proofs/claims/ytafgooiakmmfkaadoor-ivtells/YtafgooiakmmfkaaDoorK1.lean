/- Mem, WTrim, WCmp, WBits, WAdd, WSub, WSmall, PMath, PBits, PCols, PMul, Digs, WApp, DMem, WNorm, WOf, WRAdd, WRCmp, PPow, Laws, PAlive, WShr, WShl, Open, WRSub, WRBit, WRShr, PRMul: joined. -/
import Derived.Test.YtafgooiakmmfkaaDoorLimbs
import Derived.WalkKit
import Derived.Deep.OwnRows
import Derived.Deep.Draws
import Derived.Lib.Hide
import Derived.Test.YtafgooiakmmfkaaDoorProg
import Derived.BigQuiet
import Derived.Deep.QuietTactic
import Derived.Laws.Externs
import Derived.Laws.Bits64b
import Derived.Lib.TrailingZeros
import Derived.Shelf.Spec.BitsCarry
import Derived.Shelf.Spec.TrailingZeros
import Derived.Test.YtafgooiakmmfkaaDoorWLen
import Derived.Laws.CopyOwn
import Derived.Lib.Mul64
import Derived.Maps.AppendAt
import Derived.OwnWalk
import Derived.Deep.RegionHeld3
import Derived.StillTailTactics
import Derived.Test.YtafgooiakmmfkaaDoorRows
import Derived.ProofKit
import Derived.OpenShut
import Derived.Lib.LaidTab
/- Words for memory: a slice value that holds limbs; what keeps it. -/
namespace Go.Proofs.YtafgooiakmmfkaaDoor
open Go.RowKit

/-- The slice value '.slice A n c' holds the limbs xs. -/
def Lim (w : World) (A : Option Addr) (n c : Nat) (xs : List Nat) : Prop :=
  xs.length = n ∧ n ≤ c ∧ Words xs ∧ (0 < n → ∃ b o, A = some ⟨b, o, none⟩ ∧ b < w.heap.size ∧ ∀ k, k < n → w.cell? ⟨b, o + k, none⟩ = some (.int .u64 ((xs.getD k 0 : Nat) : Int)))

section
variable {w w' : World} {A : Option Addr} {n c : Nat} {xs : List Nat}
theorem Lim.len (h : Lim w A n c xs) : xs.length = n := h.1
theorem Lim.le (h : Lim w A n c xs) : n ≤ c := h.2.1
theorem Lim.words (h : Lim w A n c xs) : Words xs := h.2.2.1
theorem Lim.at_ (h : Lim w A n c xs) (hn : 0 < n) : ∃ b o, A = some ⟨b, o, none⟩ ∧ b < w.heap.size ∧ ∀ k, k < n → w.cell? ⟨b, o + k, none⟩ = some (.int .u64 ((xs.getD k 0 : Nat) : Int)) := h.2.2.2 hn
theorem Lim.keep (h : Lim w A n c xs) (hs : w.heap.size ≤ w'.heap.size) (hk : ∀ p : Addr, p.block < w.heap.size → w'.cell? p = w.cell? p) : Lim w' A n c xs :=
  ⟨h.1, h.2.1, h.2.2.1, fun hn => by
    obtain ⟨b, o, e, hb, hc⟩ := h.at_ hn
    exact ⟨b, o, e, Nat.lt_of_lt_of_le hb hs, fun k hk' => (hk ⟨b, o + k, none⟩ hb).trans (hc k hk')⟩⟩
theorem Lim.below (h : Lim w A n c xs) (hb : Below w.heap.size w w') : Lim w' A n c xs := h.keep hb.size fun _ hp => hb.cell hp
theorem Lim.drewN (h : Lim w A n c xs) (k : Nat) : Lim (w.drewN k) A n c xs := h
theorem Lim.alloc (h : Lim w A n c xs) (o : Obj) : Lim (w.alloc o) A n c xs := h.below ((Below.refl _ _).alloc (Nat.le_refl _) o)
theorem Lim.nil (w : World) (A : Option Addr) (c : Nat) : Lim w A 0 c [] := ⟨rfl, Nat.zero_le _, Words.nil, fun h => absurd h (by omega)⟩
/-- A piece from the front: 's[:m]'. -/
theorem Lim.take (h : Lim w A n c xs) {m : Nat} (hm : m ≤ n) : Lim w A m c (xs.take m) :=
  ⟨by rw [List.length_take, h.1]; omega, Nat.le_trans hm h.2.1, h.2.2.1.take m, fun hn => by
    obtain ⟨b, o, e, hb, hc⟩ := h.at_ (by omega)
    refine ⟨b, o, e, hb, fun k hk => ?_⟩
    rw [hc k (by omega), List.getD_eq_getElem?_getD, List.getD_eq_getElem?_getD, List.getElem?_take_of_lt hk]⟩
theorem Lim.trim (h : Lim w A n c xs) : Lim w A (tl xs) c (xs.take (tl xs)) := h.take (by have := tl_le xs; rw [h.1] at this; exact this)
theorem Lim.tl_le (h : Lim w A n c xs) : tl xs ≤ n := by have := YtafgooiakmmfkaaDoor.tl_le xs; rw [h.1] at this; exact this
/-- A row of the call's own that was filled. -/
theorem Lim.row {g : Nat} {t : TypeId} {f : Nat → Value} (h : w.rowIs g t n f) (hl : xs.length = n) (hw : Words xs) (hf : ∀ k, k < n → f k = .int .u64 ((xs.getD k 0 : Nat) : Int)) : Lim w (some ⟨g, 0, none⟩) n n xs :=
  ⟨hl, Nat.le_refl _, hw, fun _ => ⟨g, 0, rfl, h.lt, fun k hk => by rw [Nat.zero_add, h.cell hk, hf k hk]⟩⟩
end

/-- What a call tells that hands back a natural number: bare limbs of value V, at most L of them, nothing old has turned. -/
def Tells (w : World) (V L : Nat) (e : Ending) (w' : World) : Prop :=
  ∃ A m c zs, e = .returned (.slice A m c) ∧ m ≤ L ∧ Lim w' A m c zs ∧ Bare zs ∧ val zs = V ∧ Below w.heap.size w w'
/-- .. with a second result. -/
def Tells2 (w : World) (V L : Nat) (u : Value) (e : Ending) (w' : World) : Prop :=
  ∃ A m c zs, e = .returned (.tuple #[.slice A m c, u]) ∧ m ≤ L ∧ Lim w' A m c zs ∧ Bare zs ∧ val zs = V ∧ Below w.heap.size w w'

theorem Tells.wider {w w' : World} {V L M : Nat} {e : Ending} (h : Tells w V L e w') (hM : L ≤ M) : Tells w V M e w' := by
  obtain ⟨A, m, c, zs, h1, h2, h3⟩ := h
  exact ⟨A, m, c, zs, h1, Nat.le_trans h2 hM, h3⟩
theorem Tells2.wider {w w' : World} {V L M : Nat} {u : Value} {e : Ending} (h : Tells2 w V L u e w') (hM : L ≤ M) : Tells2 w V M u e w' := by
  obtain ⟨A, m, c, zs, h1, h2, h3⟩ := h
  exact ⟨A, m, c, zs, h1, Nat.le_trans h2 hM, h3⟩

theorem below_drewN {B : Nat} {a w : World} (h : Below B a w) (n : Nat) : Below B a (w.drewN n) := ⟨h.os, h.tape, h.output, h.size, h.block⟩


/-- A row of the call's own, L limbs long, that is being filled: its limbs are zs, and 0 behind them; below block g nothing has turned. -/
def Fill (w wr : World) (g t L : Nat) (zs : List Nat) : Prop :=
  Below g w wr ∧ wr.rowIs g t L (fun j => .int .u64 ((zs.getD j 0 : Nat) : Int)) ∧ zs.length ≤ L ∧ Words zs

section
variable {w wr : World} {g t L : Nat} {zs : List Nat}
theorem Fill.below (h : Fill w wr g t L zs) : Below g w wr := h.1
theorem Fill.cell (h : Fill w wr g t L zs) {j : Nat} (hj : j < L) : wr.cell? ⟨g, j, none⟩ = some (.int .u64 ((zs.getD j 0 : Nat) : Int)) := h.2.1.cell hj
theorem Fill.frozen (h : Fill w wr g t L zs) (j : Nat) : wr.frozen? ⟨g, j, none⟩ = false := h.2.1.frozen j
theorem getD_snoc (zs : List Nat) (z j : Nat) : (zs ++ [z]).getD j 0 = if j = zs.length then z else zs.getD j 0 := by
  rw [List.getD_eq_getElem?_getD, List.getD_eq_getElem?_getD, List.getElem?_append]
  split
  · rw [if_neg (by omega)]
  · split
    · rename_i h1 h2; subst h2; simp
    · rename_i h1 h2
      rw [List.getElem?_eq_none (by simp; omega), List.getElem?_eq_none (by omega)]
theorem Fill.start (w : World) (t L : Nat) : Fill w (w.alloc (.cells (madeCells #[.int .u64 0] L) t)) w.heap.size t L [] :=
  ⟨(Below.refl _ _).alloc (Nat.le_refl _) _, (World.rowIs_made w (.int .u64 0) L t).congr (fun _ _ => by simp), Nat.zero_le _, Words.nil⟩
/-- The next limb. -/
theorem Fill.push (h : Fill w wr g t L zs) {z k : Nat} (hk : k = zs.length) (hL : k < L) (hz : z < 18446744073709551616) : Fill w (wr.setCell ⟨g, k, none⟩ (.int .u64 (z : Int))) g t L (zs ++ [z]) := by
  subst hk
  refine ⟨h.1.setCell (Nat.le_refl _) _, (h.2.1.set _ _).congr (fun j _ => ?_), by simp; omega, h.2.2.2.append (Words.one hz)⟩
  rw [getD_snoc]
  split <;> rfl
/-- The last limb anew. -/
theorem Fill.again {q : Nat} (h : Fill w wr g t L (zs ++ [q])) {z k : Nat} (hk : k = zs.length) (hz : z < 18446744073709551616) : Fill w (wr.setCell ⟨g, k, none⟩ (.int .u64 (z : Int))) g t L (zs ++ [z]) := by
  subst hk
  refine ⟨h.1.setCell (Nat.le_refl _) _, (h.2.1.set _ _).congr (fun j _ => ?_), by have := h.2.2.1; simpa using this, fun x hx => ?_⟩
  · rw [getD_snoc, getD_snoc]
    split <;> simp_all
  · rcases List.mem_append.1 hx with hx | hx
    · exact h.2.2.2 x (List.mem_append_left _ hx)
    · rw [List.mem_singleton.1 hx]; exact hz
theorem Fill.drewN (h : Fill w wr g t L zs) (k : Nat) : Fill w (wr.drewN k) g t L zs := ⟨below_drewN h.1 k, h.2.1, h.2.2⟩
/-- Full: it is a number. -/
theorem Fill.done (h : Fill w wr g t L zs) (hl : zs.length = L) : Lim wr (some ⟨g, 0, none⟩) L L zs := Lim.row h.2.1 hl h.2.2.2 (fun _ _ => rfl)
theorem Fill.lim {A : Option Addr} {n c : Nat} {xs : List Nat} (h : Fill w wr w.heap.size t L zs) (ha : Lim w A n c xs) : Lim wr A n c xs := ha.below h.1
end

/-- How a call ends that trims what it has filled. -/
theorem tells_trim {w wr w' : World} {g L V M : Nat} {zs : List Nat} (hl : Lim wr (some ⟨g, 0, none⟩) L L zs) (hb : Below w.heap.size w wr) (hV : val zs = V) (hM : L ≤ M) (hw : wr = w') :
    Tells w V M (.returned (.slice (some ⟨g, 0, none⟩) (tl zs) L)) w' := by
  subst hw
  exact ⟨_, _, _, _, rfl, Nat.le_trans hl.tl_le hM, hl.trim, bare_take zs, by rw [val_take_tl, hV], hb⟩
theorem tells2_trim {w wr w' : World} {g L V M : Nat} {zs : List Nat} {u : Value} (hl : Lim wr (some ⟨g, 0, none⟩) L L zs) (hb : Below w.heap.size w wr) (hV : val zs = V) (hM : L ≤ M) (hw : wr = w') :
    Tells2 w V M u (.returned (.tuple #[.slice (some ⟨g, 0, none⟩) (tl zs) L, u])) w' := by
  subst hw
  exact ⟨_, _, _, _, rfl, Nat.le_trans hl.tl_le hM, hl.trim, bare_take zs, by rw [val_take_tl, hV], hb⟩

end Go.Proofs.YtafgooiakmmfkaaDoor
/- The walks of nat.trim, nat.at, nat.order. -/
namespace Go.Proofs.YtafgooiakmmfkaaDoor
open Go.RowKit

set_option maxHeartbeats 400000 in
theorem trim_any (A : Option Addr) (n c : Nat) (xs : List Nat) (w : World) (h : Lim w A n c xs) (hn : n ≤ 4398046511104) :
    Calls Tryd.prog 81 #[.slice A n c] w fun e w' => e = .returned (.slice A (tl xs) c) ∧ w = w' := by
  obtain ⟨hl, hc, hw, hcell⟩ := h
  have Hcell := Lib.hid hcell
  have Hl := Lib.hid hl
  clear hcell hl hw
  go_enter Tryd.func81, Tryd.ntmps81
  go_wp2
  go_loop [3] (fun i => ∃ k : Nat, k ≤ n ∧ i = .int .i64 k ∧ Hid (∀ j, k ≤ j → j < xs.length → xs.getD j 0 = 0)) (fun i => (intOf i).toNat)
  case atStart => exact ⟨n, Nat.le_refl _, rfl, fun j h1 h2 => by have := Hl.out; omega⟩
  case round =>
    obtain ⟨k, hk, rfl, hz⟩ := hrel
    cases k with
    | zero =>
      have H := Lib.hid (tl_eq (k := 0) (xs := xs) hz.out (fun j hj => by omega))
      go_wp2
      go_ret
      exact ⟨by rw [H.out]; rfl, rfl⟩
    | succ k =>
      obtain ⟨b, o, rfl, hb, hcl⟩ := Hcell.out (by omega)
      have c1 := hcl k (by omega)
      clear hcl
      have hx0 : ∃ x, x = xs.getD k 0 := ⟨_, rfl⟩
      obtain ⟨x, hx⟩ := hx0
      rw [← hx] at c1
      have Hx := Lib.hid hx
      clear hx
      by_cases h0 : x = 0
      · subst h0
        go_wp2
        go_round
        case rel => exact ⟨k, by omega, by go_num, fun j h1 h2 => by
          by_cases e : j = k
          · rw [e]; exact Hx.out.symm
          · exact hz.out j (by omega) h2⟩
        case measure => simp [intOf]
      · have hb0 : ((x : Int) == 0) = false := beq_eq_false_iff_ne.2 (by omega)
        have H := Lib.hid (tl_eq (k := k + 1) (xs := xs) hz.out (fun j hj => by obtain rfl : j = k := (by omega); rw [← Hx.out]; exact h0))
        clear h0
        go_wp2
        go_ret
        exact ⟨by rw [H.out]; rfl, rfl⟩

theorem at_any (A : Option Addr) (n c : Nat) (xs : List Nat) (i : Nat) (w : World) (h : Lim w A n c xs) (hn : n ≤ 4398046511104) (hi : i ≤ 4398046511104) :
    Calls Tryd.prog 83 #[.slice A n c, .int .i64 (i : Int)] w fun e w' => e = .returned (.int .u64 ((xs.getD i 0 : Nat) : Int)) ∧ w = w' := by
  obtain ⟨hl, hc, hw, hcell⟩ := h
  have Hl := Lib.hid hl
  clear hl hw
  obtain ⟨x, hx⟩ : ∃ x, x = xs.getD i 0 := ⟨_, rfl⟩
  rw [← hx]
  have Hx := Lib.hid hx
  clear hx
  by_cases hlt : i < n
  · obtain ⟨b, o, rfl, hb, hcl⟩ := hcell (by omega)
    have c1 := hcl i hlt
    rw [← Hx.out] at c1
    clear hcl hcell
    go_enter Tryd.func83, Tryd.ntmps83
    go_wp2
    go_ret
    exact ⟨rfl, rfl⟩
  · have H0 : Hid (x = 0) := Hx.out.trans (by rw [List.getD_eq_getElem?_getD, List.getElem?_eq_none (by have := Hl.out; omega)]; rfl)
    clear hcell
    go_enter Tryd.func83, Tryd.ntmps83
    go_wp2
    go_ret
    exact ⟨by rw [H0.out]; rfl, rfl⟩

theorem order_true (w : World) : Calls Tryd.prog 101 #[.bool true] w fun e w' => e = .returned (.int .i64 (-1)) ∧ w = w' := by
  go_enter Tryd.func101, Tryd.ntmps101
  go_wp2
  go_ret
  exact ⟨rfl, rfl⟩
theorem order_false (w : World) : Calls Tryd.prog 101 #[.bool false] w fun e w' => e = .returned (.int .i64 1) ∧ w = w' := by
  go_enter Tryd.func101, Tryd.ntmps101
  go_wp2
  go_ret
  exact ⟨rfl, rfl⟩
end Go.Proofs.YtafgooiakmmfkaaDoor
/- The walk of nat.Cmp: the order of any two numbers. -/
namespace Go.Proofs.YtafgooiakmmfkaaDoor
open Go.RowKit

theorem trim_to (m : Nat) (A : Option Addr) (n c : Nat) (xs : List Nat) (w : World) (h : Lim w A n c xs) (hn : n ≤ 4398046511104) (hm : Hid (tl xs = m)) :
    Calls Tryd.prog 81 #[.slice A n c] w fun e w' => e = .returned (.slice A m c) ∧ w = w' := by
  rw [← hm.out]; exact trim_any A n c xs w h hn

/-- A callee that leaves the world alone, in a quiet region behind other draws. -/
theorem quiet_more {P : Program} {f : FuncId} {args : Array Value} {w : World} {a n : Nat} {v : Value}
    (h : Calls P f args (w.drewN (a + n)) fun e w' => e = .returned v ∧ w.drewN (a + n) = w') : Calls P f args (w.drewN (a + n)) fun e w'' => e = .returned v ∧ ∃ m, w'' = w.drewN (a + m) :=
  h.mono fun _ _ ⟨he, hm⟩ => ⟨he, n, hm.symm⟩

set_option maxHeartbeats 1000000 in
theorem cmp_any (A : Option Addr) (n c : Nat) (xs : List Nat) (B : Option Addr) (m d : Nat) (ys : List Nat) (w : World) (hA : Lim w A n c xs) (hB : Lim w B m d ys) (hn : n ≤ 1099511627776) (hm : m ≤ 1099511627776) :
    Calls Tryd.prog 84 #[.slice A n c, .slice B m d] w fun e w' => e = .returned (.int .i64 (cmpZ (val xs) (val ys))) ∧ ∃ q, w' = w.drewN q := by
  have hwx := hA.words
  have hwy := hB.words
  have tlx := hA.tl_le
  have tly := hB.tl_le
  rcases Nat.lt_trichotomy (tl xs) (tl ys) with hlt | heq | hgt
  · have HV := Lib.hid (cmpZ_lt (val_lt_of_tl_lt hwx hlt))
    clear hwx hwy
    obtain ⟨l, hl⟩ : ∃ l, tl xs = l := ⟨_, rfl⟩
    obtain ⟨k, hk⟩ : ∃ k, tl ys = k := ⟨_, rfl⟩
    rw [hl] at hlt tlx
    rw [hk] at hlt tly
    have Hl := Lib.hid hl
    have Hk := Lib.hid hk
    clear hl hk
    have b1 : ((l : Int) != (k : Int)) = true := by rw [bne_iff_ne]; omega
    have b2 : decide (l < k) = true := by simp; omega
    go_enter Tryd.func84, Tryd.ntmps84
    go_wp2_with fail
    refine (trim_to l A n c xs _ hA (by omega) Hl).mono ?_
    rintro e w' ⟨rfl, rfl⟩
    go_wp2_with fail
    refine (trim_to k B m d ys _ hB (by omega) Hk).mono ?_
    rintro e w' ⟨rfl, rfl⟩
    go_wp2_with fail
    refine (order_true _).mono ?_
    rintro e w' ⟨rfl, rfl⟩
    go_wp2
    go_ret
    exact ⟨by rw [HV.out]; rfl, 0, rfl⟩
  · obtain ⟨l, hk⟩ : ∃ l, tl ys = l := ⟨_, rfl⟩
    have hl : tl xs = l := heq.trans hk
    have HVx := Lib.hid (val_take_tl xs)
    have HVy := Lib.hid (val_take_tl ys)
    rw [hl] at HVx tlx
    rw [hk] at HVy tly
    have Hl := Lib.hid hl
    have Hk := Lib.hid hk
    have Hlx := Lib.hid hA.len
    have Hly := Lib.hid hB.len
    have Hwx := Lib.hid hwx
    have Hwy := Lib.hid hwy
    have Hax := Lib.hid (hA.2.2.2)
    have Hay := Lib.hid (hB.2.2.2)
    clear heq hl hk hwx hwy
    have b1 : ((l : Int) != (l : Int)) = false := by simp
    go_enter Tryd.func84, Tryd.ntmps84
    go_wp2_with fail
    refine (trim_to l A n c xs _ hA (by omega) Hl).mono ?_
    rintro e w' ⟨rfl, rfl⟩
    go_wp2_with fail
    refine (trim_to l B m d ys _ hB (by omega) Hk).mono ?_
    rintro e w' ⟨rfl, rfl⟩
    go_wp2_with fail
    clear b1 hA hB
    go_loopw [5] (fun i wr => ∃ k q : Nat, k ≤ l ∧ i = .int .i64 ((k : Int) - 1) ∧ wr = w.drewN q ∧ Hid (∀ j, k ≤ j → j < l → xs.getD j 0 = ys.getD j 0)) (fun i _ => (intOf i + 1).toNat)
    case atStart => exact ⟨l, 0, Nat.le_refl _, rfl, rfl, fun j h1 h2 => by omega⟩
    case round =>
      obtain ⟨k, q, hk, rfl, rfl, hz⟩ := hrel
      cases k with
      | zero =>
        have HV := Lib.hid (cmpZ_eq (HVx.out.symm.trans ((take_congr (fun j hj => hz.out j (Nat.zero_le _) hj)).trans HVy.out)))
        go_wp2
        go_ret
        exact ⟨by rw [HV.out]; rfl, q, rfl⟩
      | succ k =>
        rw [show (((k + 1 : Nat) : Int) - 1) = (k : Int) from by omega]
        obtain ⟨b, o, rfl, hb, hcl⟩ := Hax.out (by omega)
        have c1 := hcl k (by omega)
        clear hcl
        obtain ⟨b', o', rfl, hb', hcl⟩ := Hay.out (by omega)
        have c2 := hcl k (by omega)
        clear hcl
        obtain ⟨x, hx⟩ : ∃ x, xs.getD k 0 = x := ⟨_, rfl⟩
        obtain ⟨y, hy⟩ : ∃ y, ys.getD k 0 = y := ⟨_, rfl⟩
        rw [hx] at c1
        rw [hy] at c2
        have Hx := Lib.hid hx
        have Hy := Lib.hid hy
        clear hx hy
        have hk1 : (k : Int) < (l : Int) := by omega
        rcases Nat.lt_trichotomy x y with hlt | heq | hgt
        · have b3 : ((x : Int) != (y : Int)) = true := by rw [bne_iff_ne]; omega
          have b4 : decide (x < y) = true := by simp; omega
          have HV := Lib.hid (cmpZ_lt (show val xs < val ys by
            rw [← HVx.out, ← HVy.out]
            exact val_lt_of_digit Hwx.out (i := k) (by omega) (by have := Hlx.out; omega) (by have := Hly.out; omega) (fun j h1 h2 => hz.out j (by omega) h2) (by rw [Hx.out, Hy.out]; exact hlt)))
          go_wp2
          go_quiet (fail)
          go_wp2
          go_quiet ((go_at_call 101; exact quiet_more (order_true _)))
          go_wp2
          go_ret
          exact ⟨by rw [HV.out]; rfl, _, by simp only [World.drewN_drewN]; rfl⟩
        · subst heq
          have b3 : ((x : Int) != (x : Int)) = false := by simp
          go_wp2
          go_quiet (fail)
          go_wp2
          go_roundw
          case rel => exact ⟨k, _, by omega, by go_num, rfl, fun j h1 h2 => by
            by_cases e : j = k
            · rw [e, Hx.out, Hy.out]
            · exact hz.out j (by omega) h2⟩
          case measure => simp [intOf]
        · have b3 : ((x : Int) != (y : Int)) = true := by rw [bne_iff_ne]; omega
          have b4 : decide (x < y) = false := by simp; omega
          have HV := Lib.hid (cmpZ_gt (show val ys < val xs by
            rw [← HVx.out, ← HVy.out]
            exact val_lt_of_digit Hwy.out (i := k) (by omega) (by have := Hly.out; omega) (by have := Hlx.out; omega) (fun j h1 h2 => (hz.out j (by omega) h2).symm) (by rw [Hx.out, Hy.out]; exact hgt)))
          go_wp2
          go_quiet (fail)
          go_wp2
          go_quiet ((go_at_call 101; exact quiet_more (order_false _)))
          go_wp2
          go_ret
          exact ⟨by rw [HV.out]; rfl, _, by simp only [World.drewN_drewN]; rfl⟩
  · have HV := Lib.hid (cmpZ_gt (val_lt_of_tl_lt hwy hgt))
    clear hwx hwy
    obtain ⟨l, hl⟩ : ∃ l, tl xs = l := ⟨_, rfl⟩
    obtain ⟨k, hk⟩ : ∃ k, tl ys = k := ⟨_, rfl⟩
    rw [hl] at hgt tlx
    rw [hk] at hgt tly
    have Hl := Lib.hid hl
    have Hk := Lib.hid hk
    clear hl hk
    have b1 : ((l : Int) != (k : Int)) = true := by rw [bne_iff_ne]; omega
    have b2 : decide (l < k) = false := by simp; omega
    go_enter Tryd.func84, Tryd.ntmps84
    go_wp2_with fail
    refine (trim_to l A n c xs _ hA (by omega) Hl).mono ?_
    rintro e w' ⟨rfl, rfl⟩
    go_wp2_with fail
    refine (trim_to k B m d ys _ hB (by omega) Hk).mono ?_
    rintro e w' ⟨rfl, rfl⟩
    go_wp2_with fail
    refine (order_false _).mono ?_
    rintro e w' ⟨rfl, rfl⟩
    go_wp2
    go_ret
    exact ⟨by rw [HV.out]; rfl, 0, rfl⟩
end Go.Proofs.YtafgooiakmmfkaaDoor
/- math/bits.Add64, Sub64 (the model's own entries), TrailingZeros64, Len64 (walked). -/
namespace Go.Proofs.YtafgooiakmmfkaaDoor
open Go.RowKit

/-- x + y + c, the limb and the carry, each a letter. -/
theorem add64 (x y c s t : Nat) (hc : c ≤ 1) (hs : Hid (s + 18446744073709551616 * t = x + y + c)) (hs' : s < 18446744073709551616) (w : World) :
    (callFunc 82 #[.int .u64 (x : Int), .int .u64 (y : Int), .int .u64 (c : Int)]).run Tryd.prog w = .ok (.value (.tuple #[.int .u64 (s : Int), .int .u64 (t : Int)])) w := by
  rw [run_callFunc_extern Tryd.func82 (by kernel_rfl) (by kernel_rfl) (by kernel_rfl) (e := add64Entry) (by kernel_rfl), run_add64 x y c (by omega) (by omega) (by omega) (by omega)]
  simp only [Result.andThen]
  have := hs.out
  have e1 : ((x : Int) + y + c) % 18446744073709551616 = s := by omega
  have e2 : ((x : Int) + y + c) / 18446744073709551616 = t := by omega
  rw [e1, e2]

/-- x - y - b, the limb and the borrow, each a letter. -/
theorem sub64 (x y b s t : Nat) (hb : b ≤ 1) (hs : Hid (s + y + b = x + 18446744073709551616 * t)) (hs' : s < 18446744073709551616) (hx : x < 18446744073709551616) (hy : y < 18446744073709551616) (w : World) :
    (callFunc 102 #[.int .u64 (x : Int), .int .u64 (y : Int), .int .u64 (b : Int)]).run Tryd.prog w = .ok (.value (.tuple #[.int .u64 (s : Int), .int .u64 (t : Int)])) w := by
  rw [run_callFunc_extern Tryd.func102 (by kernel_rfl) (by kernel_rfl) (by kernel_rfl) (e := sub64Entry) (by kernel_rfl), run_sub64 x y b hb]
  simp only [Result.andThen]
  have := hs.out
  have e1 : (x + 18446744073709551616 - y - b) % 18446744073709551616 = s := by omega
  have e2 : (if x < y + b then 1 else 0) = t := by split <;> omega
  rw [e1, e2]

/-- The table of math/bits, as its initialiser lays it. -/
def Tab (w : World) : Prop := ∀ j, j < Lib.deBruijn64tab.length → w.cell? ⟨0, j, none⟩ = some (.int .u8 ((Lib.deBruijn64tab.getD j 0 : Nat) : Int))

set_option maxHeartbeats 1000000 in
theorem tz_core (x k idx : Nat) (w : World) (hx0 : ((x : Int) == 0) = false)
    (key : IntKind.u64.wrap (bits BinOp.and IntKind.u64 (x : Int) (IntKind.u64.wrap (-(x : Int))) * 285870213051353865) / 288230376151711744 = (idx : Int))
    (hi : idx < 64) (hk : k < 64) (hcell : w.cell? ⟨0, idx, none⟩ = some (.int .u8 (k : Int))) :
    Calls Tryd.prog 100 #[.int .u64 (x : Int)] w fun e w' => e = .returned (.int .i64 (k : Int)) ∧ w = w' := by
  go_enter Tryd.func100, Tryd.ntmps100
  go_wp2_with (simp only [key])
  go_ret
  exact ⟨rfl, rfl⟩

/-- TrailingZeros64 of a limb that is not 0: k, where x = 2^k times an odd number. -/
theorem tz_any (x : Nat) (hx0 : 0 < x) (hx : x < 18446744073709551616) (w : World) (hT : Tab w) :
    ∃ k m : Nat, k < 64 ∧ x = 2 ^ k * (2 * m + 1) ∧ Calls Tryd.prog 100 #[.int .u64 (x : Int)] w fun e w' => e = .returned (.int .i64 (k : Int)) ∧ w = w' := by
  have hne : x ≠ 0 := by omega
  obtain ⟨hlow, hk⟩ := Lib.lowest_bit 64 x hne hx
  obtain ⟨hi, htab⟩ := Lib.deBruijn64_at _ hk
  have hcell := hT _ hi
  rw [htab] at hcell
  obtain ⟨m, hm, hkk⟩ := Lib.ctzFrom_spec 64 x hx0 hx
  have hc := tz_core x _ _ w (by simp; omega) (tz64_key x _ hx hne hlow) hi hk hcell
  have e : Lib.ctz 64 x = Lib.ctzFrom 64 x := by simp [Lib.ctz, hne]
  rw [e] at hc
  exact ⟨Lib.ctzFrom 64 x, m, hkk, hm, hc⟩

end Go.Proofs.YtafgooiakmmfkaaDoor
/- The walk of nat.Add: the sum of any two numbers. -/
namespace Go.Proofs.YtafgooiakmmfkaaDoor
open Go.RowKit

theorem info64 : (Tryd.prog.info? 104).map (fun i => (i.zero, i.size, i.bytes)) = some (some (.int .u64 0), 1, 8) := by kernel_rfl

theorem add_step {x y cn s t k X Y Z : Nat} (hs : s + 18446744073709551616 * t = x + y + cn) (h : Z + pw k * cn = X + Y) : Z + pw k * s + pw (k + 1) * t = X + pw k * x + (Y + pw k * y) := by
  have e : pw (k + 1) * t = pw k * (18446744073709551616 * t) := by rw [pw_succ, Nat.mul_assoc, ← Nat.mul_assoc, ← Nat.mul_assoc, Nat.mul_comm (pw k)]
  have e2 : pw k * (s + 18446744073709551616 * t) = pw k * (x + y + cn) := by rw [hs]
  rw [Nat.mul_add, Nat.mul_add, Nat.mul_add] at e2
  omega

set_option maxHeartbeats 2000000 in
theorem add_ge (A : Option Addr) (n c : Nat) (xs : List Nat) (B : Option Addr) (m d : Nat) (ys : List Nat) (w : World) (hA : Lim w A n c xs) (hB : Lim w B m d ys) (hn : n ≤ 1099511627776) (hm : m ≤ 1099511627776) (hle : tl ys ≤ tl xs) :
    Calls Tryd.prog 58 #[.slice A n c, .slice B m d] w (Tells w (val xs + val ys) (tl xs + 1)) := by
  have hP := hA.trim
  have hQ := hB.trim
  have HX := Lib.hid (val_take_tl xs)
  have HY := Lib.hid (val_take_tl ys)
  have l1 := hA.tl_le
  have l2 := hB.tl_le
  obtain ⟨la, hla⟩ : ∃ l, tl xs = l := ⟨_, rfl⟩
  obtain ⟨lb, hlb⟩ : ∃ l, tl ys = l := ⟨_, rfl⟩
  rw [hla] at hle l1 hP HX
  rw [hlb] at hle l2 hQ HY
  rw [hla]
  have Hla := Lib.hid hla
  have Hlb := Lib.hid hlb
  clear hla hlb
  generalize xs.take la = ps at hP HX
  generalize ys.take lb = qs at hQ HY
  have hmk := run_make_row' (P := Tryd.prog) 22 104 (.int .u64 0) 8 Tryd.underlying22 info64 rfl .i64 .i64 (la + 1) (by omega) (by omega)
  rw [show ((la + 1 : Nat) : Int) = (la : Int) + 1 from by omega] at hmk
  have b1 : decide (la < lb) = false := by simp; omega
  go_enter Tryd.func58, Tryd.ntmps58
  go_wp2_with fail
  refine (trim_to la A n c xs _ hA (by omega) Hla).mono ?_
  rintro e w' ⟨rfl, rfl⟩
  go_wp2_with fail
  refine (trim_to lb B m d ys _ hB (by omega) Hlb).mono ?_
  rintro e w' ⟨rfl, rfl⟩
  go_wp2_with fail
  clear hmk b1
  go_loopw [6, 26] (fun cy i wr => ∃ (k cn : Nat) (zs : List Nat), k ≤ la ∧ i = .int .i64 k ∧ cy = .int .u64 cn ∧ cn ≤ 1 ∧ Hid (zs.length = k) ∧ Fill w wr w.heap.size 104 (la + 1) zs ∧ Hid (val zs + pw k * cn = val (ps.take k) + val (qs.take k))) (fun _ i _ => la - (intOf i).toNat)
  case atStart => exact ⟨0, 0, [], Nat.zero_le _, rfl, rfl, Nat.zero_le _, rfl, Fill.start w _ _, by simp [Hid, val]⟩
  case round =>
    obtain ⟨k, cn, zs, hk, rfl, rfl, hcn, Hzl, hF, HE⟩ := hrel
    by_cases hlt : k < la
    · have hQr := hF.lim hQ
      obtain ⟨b, o, hAe, hb, hcl⟩ := (hF.lim hP).at_ (by omega)
      subst hAe
      have c1 := hcl k hlt
      clear hcl
      have c2 := hF.cell (j := k) (by omega)
      have c3 := hF.frozen k
      have hxw := hP.words.getD k
      have hyw := hQ.words.getD k
      obtain ⟨x, hx⟩ : ∃ x, ps.getD k 0 = x := ⟨_, rfl⟩
      obtain ⟨y, hy⟩ : ∃ y, qs.getD k 0 = y := ⟨_, rfl⟩
      rw [hx] at c1 hxw
      rw [hy] at hyw
      obtain ⟨s, t, hst, hs, ht⟩ : ∃ s t, s + 18446744073709551616 * t = x + y + cn ∧ s < 18446744073709551616 ∧ t ≤ 1 := ⟨(x + y + cn) % 18446744073709551616, (x + y + cn) / 18446744073709551616, by omega, by omega, by omega⟩
      have HE' := Lib.hid (add_step hst HE.out)
      rw [← hx, ← hy, ← val_take_succ', ← val_take_succ'] at HE'
      have hadd := add64 x y cn s t hcn hst hs
      have HF' := Lib.hid (hF.push (z := s) Hzl.out.symm (by omega) hs)
      have Hlen : Hid ((zs ++ [s]).length = k + 1) := by have := Hzl.out; simp [Hid]; omega
      have HE2 : Hid (val (zs ++ [s]) + pw (k + 1) * t = val (ps.take (k + 1)) + val (qs.take (k + 1))) := by rw [val_snoc, Hzl.out]; exact HE'.out
      have Hx := Lib.hid hx
      have Hy := Lib.hid hy
      clear hx hy hst HE HE' hF
      have hat := at_any B lb d qs k
      rw [Hy.out] at hat
      have Hat := Lib.hid hat
      clear hat
      go_wp2_with fail
      refine (Hat.out _ hQr (by omega) (by omega)).mono ?_
      rintro e w' ⟨rfl, rfl⟩
      go_wp2
      go_roundw
      case rel => exact ⟨k + 1, t, zs ++ [s], by omega, by go_num, rfl, ht, Hlen, HF'.out, HE2⟩
      case measure => simp [intOf]; omega
    · obtain rfl : k = la := by omega
      have c2 := hF.cell (j := k) (by omega)
      have c3 := hF.frozen k
      have HF' := Lib.hid (hF.push (z := cn) Hzl.out.symm (by omega) (by omega))
      have hlim := HF'.out.done (by have := Hzl.out; simp; omega)
      have HV : Hid (val (zs ++ [cn]) = val xs + val ys) := by
        rw [val_snoc, Hzl.out]
        refine HE.out.trans ?_
        rw [List.take_of_length_le (by have := hP.len; omega), List.take_of_length_le (by have := hQ.len; omega), HX.out, HY.out]
      have hbel := HF'.out.below
      clear HE hF hP hQ HF'
      go_wp2_with fail
      refine (trim_any _ _ _ (zs ++ [cn]) _ hlim (by omega)).mono ?_
      rintro e w' ⟨rfl, rfl⟩
      go_wp2
      go_ret
      exact tells_trim hlim hbel HV.out (Nat.le_refl _) rfl

set_option maxHeartbeats 2000000 in
theorem add_lt (A : Option Addr) (n c : Nat) (xs : List Nat) (B : Option Addr) (m d : Nat) (ys : List Nat) (w : World) (hA : Lim w A n c xs) (hB : Lim w B m d ys) (hn : n ≤ 1099511627776) (hm : m ≤ 1099511627776) (hle : tl xs < tl ys) :
    Calls Tryd.prog 58 #[.slice A n c, .slice B m d] w (Tells w (val xs + val ys) (tl ys + 1)) := by
  have hP := hB.trim
  have hQ := hA.trim
  have HX := Lib.hid (val_take_tl ys)
  have HY := Lib.hid (val_take_tl xs)
  have l1 := hB.tl_le
  have l2 := hA.tl_le
  obtain ⟨la, hla⟩ : ∃ l, tl ys = l := ⟨_, rfl⟩
  obtain ⟨lb, hlb⟩ : ∃ l, tl xs = l := ⟨_, rfl⟩
  rw [hla] at hle l1 hP HX
  rw [hlb] at hle l2 hQ HY
  rw [hla]
  have Hla := Lib.hid hla
  have Hlb := Lib.hid hlb
  clear hla hlb
  generalize ys.take la = ps at hP HX
  generalize xs.take lb = qs at hQ HY
  have hmk := run_make_row' (P := Tryd.prog) 22 104 (.int .u64 0) 8 Tryd.underlying22 info64 rfl .i64 .i64 (la + 1) (by omega) (by omega)
  rw [show ((la + 1 : Nat) : Int) = (la : Int) + 1 from by omega] at hmk
  have b1 : decide (lb < la) = true := by simp; omega
  go_enter Tryd.func58, Tryd.ntmps58
  go_wp2_with fail
  refine (trim_to lb A n c xs _ hA (by omega) Hlb).mono ?_
  rintro e w' ⟨rfl, rfl⟩
  go_wp2_with fail
  refine (trim_to la B m d ys _ hB (by omega) Hla).mono ?_
  rintro e w' ⟨rfl, rfl⟩
  go_wp2_with fail
  clear hmk b1
  go_loopw [6, 26] (fun cy i wr => ∃ (k cn : Nat) (zs : List Nat), k ≤ la ∧ i = .int .i64 k ∧ cy = .int .u64 cn ∧ cn ≤ 1 ∧ Hid (zs.length = k) ∧ Fill w wr w.heap.size 104 (la + 1) zs ∧ Hid (val zs + pw k * cn = val (ps.take k) + val (qs.take k))) (fun _ i _ => la - (intOf i).toNat)
  case atStart => exact ⟨0, 0, [], Nat.zero_le _, rfl, rfl, Nat.zero_le _, rfl, Fill.start w _ _, by simp [Hid, val]⟩
  case round =>
    obtain ⟨k, cn, zs, hk, rfl, rfl, hcn, Hzl, hF, HE⟩ := hrel
    by_cases hlt : k < la
    · have hQr := hF.lim hQ
      obtain ⟨b, o, hAe, hb, hcl⟩ := (hF.lim hP).at_ (by omega)
      subst hAe
      have c1 := hcl k hlt
      clear hcl
      have c2 := hF.cell (j := k) (by omega)
      have c3 := hF.frozen k
      have hxw := hP.words.getD k
      have hyw := hQ.words.getD k
      obtain ⟨x, hx⟩ : ∃ x, ps.getD k 0 = x := ⟨_, rfl⟩
      obtain ⟨y, hy⟩ : ∃ y, qs.getD k 0 = y := ⟨_, rfl⟩
      rw [hx] at c1 hxw
      rw [hy] at hyw
      obtain ⟨s, t, hst, hs, ht⟩ : ∃ s t, s + 18446744073709551616 * t = x + y + cn ∧ s < 18446744073709551616 ∧ t ≤ 1 := ⟨(x + y + cn) % 18446744073709551616, (x + y + cn) / 18446744073709551616, by omega, by omega, by omega⟩
      have HE' := Lib.hid (add_step hst HE.out)
      rw [← hx, ← hy, ← val_take_succ', ← val_take_succ'] at HE'
      have hadd := add64 x y cn s t hcn hst hs
      have HF' := Lib.hid (hF.push (z := s) Hzl.out.symm (by omega) hs)
      have Hlen : Hid ((zs ++ [s]).length = k + 1) := by have := Hzl.out; simp [Hid]; omega
      have HE2 : Hid (val (zs ++ [s]) + pw (k + 1) * t = val (ps.take (k + 1)) + val (qs.take (k + 1))) := by rw [val_snoc, Hzl.out]; exact HE'.out
      have Hx := Lib.hid hx
      have Hy := Lib.hid hy
      clear hx hy hst HE HE' hF
      have hat := at_any A lb c qs k
      rw [Hy.out] at hat
      have Hat := Lib.hid hat
      clear hat
      go_wp2_with fail
      refine (Hat.out _ hQr (by omega) (by omega)).mono ?_
      rintro e w' ⟨rfl, rfl⟩
      go_wp2
      go_roundw
      case rel => exact ⟨k + 1, t, zs ++ [s], by omega, by go_num, rfl, ht, Hlen, HF'.out, HE2⟩
      case measure => simp [intOf]; omega
    · obtain rfl : k = la := by omega
      have c2 := hF.cell (j := k) (by omega)
      have c3 := hF.frozen k
      have HF' := Lib.hid (hF.push (z := cn) Hzl.out.symm (by omega) (by omega))
      have hlim := HF'.out.done (by have := Hzl.out; simp; omega)
      have HV : Hid (val (zs ++ [cn]) = val xs + val ys) := by
        rw [val_snoc, Hzl.out]
        refine HE.out.trans ?_
        rw [List.take_of_length_le (by have := hP.len; omega), List.take_of_length_le (by have := hQ.len; omega), HX.out, HY.out]
        exact Nat.add_comm _ _
      have hbel := HF'.out.below
      clear HE hF hP hQ HF'
      go_wp2_with fail
      refine (trim_any _ _ _ (zs ++ [cn]) _ hlim (by omega)).mono ?_
      rintro e w' ⟨rfl, rfl⟩
      go_wp2
      go_ret
      exact tells_trim hlim hbel HV.out (Nat.le_refl _) rfl

theorem add_any (A : Option Addr) (n c : Nat) (xs : List Nat) (B : Option Addr) (m d : Nat) (ys : List Nat) (w : World) (hA : Lim w A n c xs) (hB : Lim w B m d ys) (hn : n ≤ 1099511627776) (hm : m ≤ 1099511627776) :
    Calls Tryd.prog 58 #[.slice A n c, .slice B m d] w (Tells w (val xs + val ys) (max n m + 1)) := by
  have l1 := hA.tl_le
  have l2 := hB.tl_le
  rcases Nat.lt_or_ge (tl xs) (tl ys) with h | h
  · exact (add_lt A n c xs B m d ys w hA hB hn hm h).mono fun _ _ h => h.wider (by omega)
  · exact (add_ge A n c xs B m d ys w hA hB hn hm h).mono fun _ _ h => h.wider (by omega)
end Go.Proofs.YtafgooiakmmfkaaDoor
/- The walk of nat.Sub: the difference of any two numbers. -/
namespace Go.Proofs.YtafgooiakmmfkaaDoor
open Go.RowKit

theorem sub_step {x y bn s t k X Y Z : Nat} (hs : s + y + bn = x + 18446744073709551616 * t) (h : Z + Y = X + pw k * bn) : Z + pw k * s + (Y + pw k * y) = X + pw k * x + pw (k + 1) * t := by
  have e : pw (k + 1) * t = pw k * (18446744073709551616 * t) := by rw [pw_succ, Nat.mul_assoc, ← Nat.mul_assoc, ← Nat.mul_assoc, Nat.mul_comm (pw k)]
  have e2 : pw k * (s + y + bn) = pw k * (x + 18446744073709551616 * t) := by rw [hs]
  rw [Nat.mul_add, Nat.mul_add, Nat.mul_add] at e2
  omega

theorem cmpZ_nonneg {x y : Nat} (h : y ≤ x) : 0 ≤ cmpZ x y := by
  rcases Nat.lt_or_ge y x with h' | h'
  · rw [cmpZ_gt h']; decide
  · rw [cmpZ_eq (by omega)]; decide

theorem sub_end {X Y Z bn k : Nat} (h : Z + Y = X + pw k * bn) (hb : bn ≤ 1) (hz : Z < pw k) (hle : Y ≤ X) : Z = X - Y := by
  have : bn = 0 ∨ bn = 1 := by omega
  rcases this with rfl | rfl
  · simp at h; omega
  · simp at h; omega

set_option maxHeartbeats 2000000 in
theorem sub_no (A : Option Addr) (n c : Nat) (xs : List Nat) (B : Option Addr) (m d : Nat) (ys : List Nat) (w : World) (hA : Lim w A n c xs) (hB : Lim w B m d ys) (hn : n ≤ 1099511627776) (hm : m ≤ 1099511627776) (hle : val xs < val ys) :
    Calls Tryd.prog 85 #[.slice A n c, .slice B m d] w fun e w' => e = .returned (.tuple #[.slice none 0 0, .int .i64 1]) ∧ ∃ q, w' = w.drewN q := by
  have hP := hA.trim
  have hQ := hB.trim
  have l1 := hA.tl_le
  have l2 := hB.tl_le
  have hc := cmpZ_lt (show val (xs.take (tl xs)) < val (ys.take (tl ys)) by rw [val_take_tl, val_take_tl]; exact hle)
  have hcmp := cmp_any A (tl xs) c (xs.take (tl xs)) B (tl ys) d (ys.take (tl ys)) w hP hQ (by omega) (by omega)
  rw [hc] at hcmp
  have Hcmp := Lib.hid hcmp
  clear hc hcmp hle
  go_enter Tryd.func85, Tryd.ntmps85
  go_wp2_with fail
  refine (trim_any A n c xs _ hA (by omega)).mono ?_
  rintro e w' ⟨rfl, rfl⟩
  go_wp2_with fail
  refine (trim_any B m d ys _ hB (by omega)).mono ?_
  rintro e w' ⟨rfl, rfl⟩
  go_wp2_with fail
  refine Hcmp.out.mono ?_
  rintro e w' ⟨rfl, q, rfl⟩
  go_wp2
  go_ret2
  exact ⟨rfl, q, rfl⟩

set_option maxHeartbeats 2000000 in
theorem sub_any (A : Option Addr) (n c : Nat) (xs : List Nat) (B : Option Addr) (m d : Nat) (ys : List Nat) (w : World) (hA : Lim w A n c xs) (hB : Lim w B m d ys) (hn : n ≤ 1099511627776) (hm : m ≤ 1099511627776) (hle : val ys ≤ val xs) :
    Calls Tryd.prog 85 #[.slice A n c, .slice B m d] w (Tells2 w (val xs - val ys) n (.int .i64 0)) := by
  have hP := hA.trim
  have hQ := hB.trim
  have HX := Lib.hid (val_take_tl xs)
  have HY := Lib.hid (val_take_tl ys)
  have l1 := hA.tl_le
  have l2 := hB.tl_le
  have l3 := tl_le_of_val_le hA.words hle
  obtain ⟨la, hla⟩ : ∃ l, tl xs = l := ⟨_, rfl⟩
  obtain ⟨lb, hlb⟩ : ∃ l, tl ys = l := ⟨_, rfl⟩
  rw [hla] at l1 l3 hP HX
  rw [hlb] at l2 l3 hQ HY
  have Hla := Lib.hid hla
  have Hlb := Lib.hid hlb
  clear hla hlb
  generalize xs.take la = ps at hP HX
  generalize ys.take lb = qs at hQ HY
  have hcz := cmpZ_nonneg (show val qs ≤ val ps by rw [HX.out, HY.out]; exact hle)
  have hcmp := cmp_any A la c ps B lb d qs w hP hQ (by omega) (by omega)
  generalize cmpZ (val ps) (val qs) = cz at hcz hcmp
  have Hcmp := Lib.hid hcmp
  have Hle := Lib.hid hle
  clear hcmp hle
  have hmk := run_make_row' (P := Tryd.prog) 22 104 (.int .u64 0) 8 Tryd.underlying22 info64 rfl .i64 .i64 la (by omega) (by omega)
  go_enter Tryd.func85, Tryd.ntmps85
  go_wp2_with fail
  refine (trim_to la A n c xs _ hA (by omega) Hla).mono ?_
  rintro e w' ⟨rfl, rfl⟩
  go_wp2_with fail
  refine (trim_to lb B m d ys _ hB (by omega) Hlb).mono ?_
  rintro e w' ⟨rfl, rfl⟩
  go_wp2_with fail
  refine Hcmp.out.mono ?_
  rintro e w1 ⟨rfl, q, hq⟩
  have hb1 : Below w.heap.size w w1 := by rw [hq]; exact below_drewN (Below.refl _ _) q
  have hP1 := hP.below hb1
  have hQ1 := hQ.below hb1
  have hs1 := hb1.size
  clear hq hP hQ hA hB Hcmp
  go_wp2_with fail
  clear hmk
  go_loopw [7, 23] (fun cy i wr => ∃ (k bn : Nat) (zs : List Nat), k ≤ la ∧ i = .int .i64 k ∧ cy = .int .u64 bn ∧ bn ≤ 1 ∧ Hid (zs.length = k) ∧ Fill w1 wr w1.heap.size 104 la zs ∧ Hid (val zs + val (qs.take k) = val (ps.take k) + pw k * bn)) (fun _ i _ => la - (intOf i).toNat)
  case atStart => exact ⟨0, 0, [], Nat.zero_le _, rfl, rfl, Nat.zero_le _, rfl, Fill.start w1 _ _, by simp [Hid, val]⟩
  case round =>
    obtain ⟨k, bn, zs, hk, rfl, rfl, hbn, Hzl, hF, HE⟩ := hrel
    by_cases hlt : k < la
    · have hQr := hF.lim hQ1
      obtain ⟨b, o, hAe, hb, hcl⟩ := (hF.lim hP1).at_ (by omega)
      subst hAe
      have c1 := hcl k hlt
      clear hcl
      have c2 := hF.cell (j := k) (by omega)
      have c3 := hF.frozen k
      have hxw := hP1.words.getD k
      have hyw := hQ1.words.getD k
      obtain ⟨x, hx⟩ : ∃ x, ps.getD k 0 = x := ⟨_, rfl⟩
      obtain ⟨y, hy⟩ : ∃ y, qs.getD k 0 = y := ⟨_, rfl⟩
      rw [hx] at c1 hxw
      rw [hy] at hyw
      obtain ⟨s, t, hst, hs, ht⟩ : ∃ s t, s + y + bn = x + 18446744073709551616 * t ∧ s < 18446744073709551616 ∧ t ≤ 1 := by
        rcases Nat.lt_or_ge x (y + bn) with h | h
        · exact ⟨x + 18446744073709551616 - y - bn, 1, by omega, by omega, by omega⟩
        · exact ⟨x - y - bn, 0, by omega, by omega, by omega⟩
      have HE' := Lib.hid (sub_step hst HE.out)
      rw [← hx, ← hy, ← val_take_succ', ← val_take_succ'] at HE'
      have hsub := sub64 x y bn s t hbn hst hs hxw hyw
      have HF' := Lib.hid (hF.push (z := s) Hzl.out.symm (by omega) hs)
      have Hlen : Hid ((zs ++ [s]).length = k + 1) := by have := Hzl.out; simp [Hid]; omega
      have HE2 : Hid (val (zs ++ [s]) + val (qs.take (k + 1)) = val (ps.take (k + 1)) + pw (k + 1) * t) := by rw [val_snoc, Hzl.out]; exact HE'.out
      have Hx := Lib.hid hx
      have Hy := Lib.hid hy
      clear hx hy hst HE HE' hF
      have hat := at_any B lb d qs k
      rw [Hy.out] at hat
      have Hat := Lib.hid hat
      clear hat
      go_wp2_with fail
      refine (Hat.out _ hQr (by omega) (by omega)).mono ?_
      rintro e w' ⟨rfl, rfl⟩
      go_wp2
      go_roundw
      case rel => exact ⟨k + 1, t, zs ++ [s], by omega, by go_num, rfl, ht, Hlen, HF'.out, HE2⟩
      case measure => simp [intOf]; omega
    · obtain rfl : k = la := by omega
      have hlim := hF.done Hzl.out
      have HV : Hid (val zs = val xs - val ys) := by
        have e1 := HE.out
        rw [List.take_of_length_le (l := ps) (by have := hP1.len; omega), List.take_of_length_le (l := qs) (by have := hQ1.len; omega), HX.out, HY.out] at e1
        have e2 := val_lt hlim.words
        rw [Hzl.out] at e2
        exact sub_end e1 hbn e2 Hle.out
      have hbel := hb1.trans (hF.below.mono hs1)
      clear HE hF hP1 hQ1
      go_wp2_with fail
      refine (trim_any _ _ _ zs _ hlim (by omega)).mono ?_
      rintro e w' ⟨rfl, rfl⟩
      go_wp2
      go_ret2
      exact tells2_trim hlim hbel HV.out l1 rfl
end Go.Proofs.YtafgooiakmmfkaaDoor
/- The walks of nat.Bits, Low, Odd, Small, Of, Bare and of planimeterref01.Same. -/
namespace Go.Proofs.YtafgooiakmmfkaaDoor
open Go.RowKit

theorem ret_int {k : IntKind} {a b : Int} (h : a = b) : Ending.returned (.int k a) = .returned (.int k b) := by rw [h]

theorem val_last {ps : List Nat} {j : Nat} (hl : ps.length = j + 1) : val ps = val (ps.take j) + 2 ^ (64 * j) * ps.getD j 0 := by
  have := val_take_succ ps j (by omega)
  rw [List.take_of_length_le (by omega), pw_two] at this
  exact this

set_option maxHeartbeats 1000000 in
theorem bits_any (A : Option Addr) (n c : Nat) (xs : List Nat) (w : World) (hA : Lim w A n c xs) (hn : n ≤ 4398046511104) :
    Calls Tryd.prog 63 #[.slice A n c] w fun e w' => e = .returned (.int .i64 (blen (val xs) : Int)) ∧ w = w' := by
  have hP := hA.trim
  have l1 := hA.tl_le
  have HX := Lib.hid (val_take_tl xs)
  cases hla : tl xs with
  | zero =>
    have HV : Hid (blen (val xs) = 0) := by rw [tl_zero hla]; rfl
    have Hla := Lib.hid hla
    clear hla hP HX
    go_enter Tryd.func63, Tryd.ntmps63
    go_wp2_with fail
    refine (trim_to 0 A n c xs _ hA (by omega) Hla).mono ?_
    rintro e w' ⟨rfl, rfl⟩
    go_wp2
    go_ret
    exact ⟨by rw [HV.out]; rfl, rfl⟩
  | succ j =>
    have hne := getD_tl_pred hla
    rw [hla] at hP l1 HX
    have hgx : (xs.take (j + 1)).getD j 0 = xs.getD j 0 := by rw [List.getD_eq_getElem?_getD, List.getD_eq_getElem?_getD, List.getElem?_take_of_lt (by omega)]
    rw [← hgx] at hne
    generalize xs.take (j + 1) = ps at hP HX hne hgx
    clear hgx
    have hlo := val_lt (hP.words.take j)
    rw [List.length_take, hP.len, Nat.min_eq_left (by omega), pw_two] at hlo
    have HV : Hid (blen (val xs) = 64 * j + blen (ps.getD j 0)) := by
      rw [← HX.out, val_last hP.len]
      exact blen_last hlo hne
    obtain ⟨b, o, rfl, hb, hcl⟩ := hP.at_ (by omega)
    have c1 := hcl j (by omega)
    have hxw := hP.words.getD j
    have hlen := blen_le_iff.2 (show ps.getD j 0 < 2 ^ 64 from hxw)
    generalize ps.getD j 0 = x at c1 HV hxw hne hlen
    generalize hbx : blen x = bx at HV hlen
    have hL := len_any x w hxw
    rw [hbx] at hL
    have HL := Lib.hid hL
    have Hla := Lib.hid hla
    have b1 : (((j : Int) + 1) == 0) = false := beq_eq_false_iff_ne.2 (by omega)
    clear hla hP HX hcl hlo hL hbx hne
    go_enter Tryd.func63, Tryd.ntmps63
    go_wp2_with fail
    refine (trim_to (j + 1) _ n c xs _ hA (by omega) Hla).mono ?_
    rintro e w' ⟨rfl, rfl⟩
    go_wp2_with fail
    refine HL.out.mono ?_
    rintro e w' ⟨rfl, rfl⟩
    go_wp2
    go_ret
    exact ⟨ret_int (a := (j : Int) * 64 + bx) (by rw [HV.out]; omega), rfl⟩

set_option maxHeartbeats 1000000 in
theorem low_any (A : Option Addr) (n c : Nat) (xs : List Nat) (w : World) (hA : Lim w A n c xs) (hn : n ≤ 4398046511104) (hT : Tab w) :
    Calls Tryd.prog 79 #[.slice A n c] w fun e w' => e = .returned (.int .i64 (low (val xs) : Int)) ∧ w = w' := by
  have HA := Lib.hid hA
  have HT := Lib.hid hT
  clear hA hT
  go_enter Tryd.func79, Tryd.ntmps79
  go_wp2
  go_loop [7] (fun i => ∃ k : Nat, k ≤ n ∧ i = .int .i64 k ∧ Hid (∀ j, j < k → xs.getD j 0 = 0)) (fun i => n - (intOf i).toNat)
  case atStart => exact ⟨0, Nat.zero_le _, rfl, fun j h => by omega⟩
  case round =>
    obtain ⟨k, hk, rfl, hz⟩ := hrel
    by_cases hlt : k < n
    · obtain ⟨b, o, rfl, hb, hcl⟩ := HA.out.at_ (by omega)
      have c1 := hcl k hlt
      have hxw := HA.out.words.getD k
      have hl := HA.out.len
      by_cases h0 : xs.getD k 0 = 0
      · rw [h0] at c1
        have Hz : Hid (∀ j, j < k + 1 → xs.getD j 0 = 0) := fun j hj => by
          by_cases e : j = k
          · rw [e]; exact h0
          · exact hz.out j (by omega)
        clear h0 hcl hxw hl
        go_wp2
        go_round
        case rel => exact ⟨k + 1, by omega, by go_num, Hz⟩
        case measure => simp [intOf]; omega
      · have hd : val xs = val (xs.take k) + pw k * (xs.getD k 0 + 18446744073709551616 * val (xs.drop (k + 1))) := by
          rw [val_split xs k (by omega), drop_cons xs k (by omega), val]
        have hz' := val_of_zeros hz.out
        generalize hx : xs.getD k 0 = x at c1 hxw h0 hd
        obtain ⟨t, m, ht, hxe, hcall⟩ := tz_any x (by omega) hxw w HT.out
        have HV : Hid (low (val xs) = 64 * k + t) := by rw [hd]; exact low_limb hz' hxe ht
        have Hcall := Lib.hid hcall
        have b1 : ((x : Int) != 0) = true := by rw [bne_iff_ne]; omega
        clear hd hz' hx hcl hcall hxe hl h0
        go_wp2_with fail
        refine Hcall.out.mono ?_
        rintro e w' ⟨rfl, rfl⟩
        go_wp2
        go_ret
        exact ⟨ret_int (a := (k : Int) * 64 + t) (by rw [HV.out]; omega), rfl⟩
    · obtain rfl : k = n := by omega
      have HV : Hid (low (val xs) = 0) := by
        have := val_of_zeros hz.out
        rw [List.take_of_length_le (by have := HA.out.len; omega)] at this
        rw [this]; rfl
      go_wp2
      go_ret
      exact ⟨by rw [HV.out]; rfl, rfl⟩

theorem odd_any (A : Option Addr) (n c : Nat) (xs : List Nat) (w : World) (hA : Lim w A n c xs) (hn : n ≤ 4398046511104) :
    Calls Tryd.prog 112 #[.slice A n c] w fun e w' => e = .returned (.bool (decide (val xs % 2 = 1))) ∧ w = w' := by
  cases n with
  | zero =>
    have HV : Hid (decide (val xs % 2 = 1) = false) := by
      have : xs = [] := List.eq_nil_of_length_eq_zero hA.len
      subst this; rfl
    clear hA
    go_enter Tryd.func112, Tryd.ntmps112
    go_wp2
    go_ret
    exact ⟨by rw [HV.out]; rfl, rfl⟩
  | succ n =>
    obtain ⟨b, o, rfl, hb, hcl⟩ := hA.at_ (by omega)
    have c1 := hcl 0 (by omega)
    rw [Nat.add_zero] at c1
    have hxw := hA.words.getD 0
    obtain ⟨x, xs', rfl⟩ : ∃ x xs', xs = x :: xs' := by
      cases xs with
      | nil => have := hA.len; simp at this
      | cons x xs' => exact ⟨x, xs', rfl⟩
    rw [getD_cons_zero] at c1 hxw
    rw [val_mod_two]
    have hbit : bits BinOp.and IntKind.u64 (x : Int) 1 = ((x % 2 : Nat) : Int) := by
      have := bits_and_u64_nat x 1 hxw (by decide)
      rw [Nat.and_one_is_mod] at this
      exact this
    rcases Nat.mod_two_eq_zero_or_one x with h2 | h2
    · rw [h2] at hbit
      have H2 := Lib.hid h2
      clear hA hcl h2
      go_enter Tryd.func112, Tryd.ntmps112
      go_wp2
      go_ret
      exact ⟨by rw [H2.out]; rfl, rfl⟩
    · rw [h2] at hbit
      have H2 := Lib.hid h2
      clear hA hcl h2
      go_enter Tryd.func112, Tryd.ntmps112
      go_wp2
      go_ret
      exact ⟨by rw [H2.out]; rfl, rfl⟩



theorem of_any (x : Nat) (hx : x < 18446744073709551616) (w : World) : Calls Tryd.prog 64 #[.int .u64 (x : Int)] w (Tells w x 1) := by
  by_cases h0 : x = 0
  · subst h0
    go_enter Tryd.func64, Tryd.ntmps64
    go_wp2
    go_ret
    exact ⟨none, 0, 0, [], rfl, Nat.zero_le _, Lim.nil _ _ _, rfl, rfl, Below.refl _ _⟩
  · have b0 : ((x : Int) == 0) = false := beq_eq_false_iff_ne.2 (by omega)
    have HB : Hid (Bare [x]) := by show (if (0 : Nat) = 0 then (if x = 0 then 0 else 1) else 0 + 1) = 1; simp [h0]
    clear h0
    go_enter Tryd.func64, Tryd.ntmps64
    go_wp2
    go_ret
    refine ⟨some ⟨w.heap.size, 0, none⟩, 1, 1, [x], rfl, Nat.le_refl _, ⟨rfl, Nat.le_refl _, Words.one hx, fun _ => ⟨w.heap.size, 0, rfl, by simp, fun k hk => ?_⟩⟩, HB.out, by simp [val], (Below.refl _ _).alloc (Nat.le_refl _) _⟩
    obtain rfl : k = 0 := by omega
    simp [World.cell?_alloc_new]

/-- Two lists of limbs held against each other: the same. -/
theorem same_yes (A : Option Addr) (n c : Nat) (xs : List Nat) (B : Option Addr) (d : Nat) (w : World) (hA : Lim w A n c xs) (hB : Lim w B n d xs) (hn : n ≤ 4398046511104) :
    Calls Tryd.prog 49 #[.slice A n c, .slice B n d] w fun e w' => e = .returned (.bool true) ∧ ∃ q, w' = w.drewN q := by
  have HA := Lib.hid hA
  have HB := Lib.hid hB
  clear hA hB
  have b1 : ((n : Int) != (n : Int)) = false := by simp
  go_enter Tryd.func49, Tryd.ntmps49
  go_wp2
  clear b1
  go_loopw [5] (fun i wr => ∃ k q : Nat, k ≤ n ∧ i = .int .i64 k ∧ wr = w.drewN q) (fun i _ => n - (intOf i).toNat)
  case atStart => exact ⟨0, 0, Nat.zero_le _, rfl, rfl⟩
  case round =>
    obtain ⟨k, q, hk, rfl, rfl⟩ := hrel
    by_cases hlt : k < n
    · obtain ⟨b, o, rfl, hb, hcl⟩ := HA.out.at_ (by omega)
      have c1 := hcl k hlt
      clear hcl
      obtain ⟨b', o', rfl, hb', hcl⟩ := HB.out.at_ (by omega)
      have c2 := hcl k hlt
      clear hcl
      generalize xs.getD k 0 = x at c1 c2
      have hk1 : (k : Int) < (n : Int) := by omega
      have b3 : ((x : Int) != (x : Int)) = false := by simp
      go_wp2
      go_quiet (fail)
      go_wp2
      go_roundw
      case rel => exact ⟨k + 1, _, by omega, by go_num, rfl⟩
      case measure => simp [intOf]; omega
    · go_wp2
      go_ret
      exact ⟨rfl, q, rfl⟩
end Go.Proofs.YtafgooiakmmfkaaDoor
/- Plain mathematics of products by columns, and of powers. No program is named here. -/
namespace Go.Proofs.YtafgooiakmmfkaaDoor

theorem getD_out (xs : List Nat) {k : Nat} (h : xs.length ≤ k) : xs.getD k 0 = 0 := by
  rw [List.getD_eq_getElem?_getD, List.getElem?_eq_none h]; rfl
/-- The first i terms of column j. -/
def csum (xs ys : List Nat) (j : Nat) : Nat → Nat
  | 0 => 0
  | i + 1 => csum xs ys j i + xs.getD i 0 * ys.getD (j - i) 0
/-- The columns below N, each at its place. -/
def cols (xs ys : List Nat) : Nat → Nat
  | 0 => 0
  | N + 1 => cols xs ys N + pw N * csum xs ys N (N + 1)

theorem csum_cons (x : Nat) (xs ys : List Nat) (j i : Nat) : csum (x :: xs) ys (j + 1) (i + 1) = x * ys.getD (j + 1) 0 + csum xs ys j i := by
  induction i with
  | zero => simp [csum]
  | succ i ih =>
    rw [csum, ih, csum, getD_cons_succ, show j + 1 - (i + 1) = j - i from by omega]
    omega
theorem csum_nil (ys : List Nat) (j i : Nat) : csum [] ys j i = 0 := by
  induction i with
  | zero => rfl
  | succ i ih => rw [csum, ih]; simp
theorem cols_nil (ys : List Nat) (N : Nat) : cols [] ys N = 0 := by
  induction N with
  | zero => rfl
  | succ N ih => rw [cols, ih, csum_nil]; simp
theorem cols_cons (x : Nat) (xs ys : List Nat) (N : Nat) : cols (x :: xs) ys (N + 1) = x * val (ys.take (N + 1)) + 18446744073709551616 * cols xs ys N := by
  induction N with
  | zero =>
    rw [val_take_succ', cols, cols, csum, csum, cols, pw_zero, List.take_zero, getD_cons_zero]
    simp [val]
  | succ N ih =>
    rw [cols, ih, csum_cons, cols, val_take_succ' ys (N + 1), Nat.mul_add (pw (N + 1)), Nat.mul_add x, Nat.mul_add 18446744073709551616, ← Nat.mul_assoc 18446744073709551616 (pw N), ← pw_succ, Nat.mul_left_comm (pw (N + 1)) x]
    omega
/-- All columns: the product. -/
theorem cols_val {xs ys : List Nat} {N : Nat} (h : xs.length + ys.length ≤ N) : cols xs ys N = val xs * val ys := by
  induction xs generalizing N with
  | nil => rw [cols_nil]; simp [val]
  | cons x xs ih =>
    rw [List.length_cons] at h
    obtain ⟨M, rfl⟩ : ∃ M, N = M + 1 := ⟨N - 1, by omega⟩
    rw [cols_cons, List.take_of_length_le (by omega), ih (by omega), val, Nat.add_mul, Nat.mul_assoc]
/-- Ahead of the first term nothing comes. -/
theorem csum_first {xs ys : List Nat} {j i : Nat} (h : i + ys.length ≤ j + 1) : csum xs ys j i = 0 := by
  induction i with
  | zero => rfl
  | succ i ih =>
    rw [csum, ih (by omega), getD_out ys (show ys.length ≤ j - i by omega)]
    simp
/-- Behind the last one neither. -/
theorem csum_last {xs ys : List Nat} {j i k : Nat} (h : xs.length ≤ i) (hk : i ≤ k) : csum xs ys j k = csum xs ys j i := by
  induction k with
  | zero => rw [show i = 0 from by omega]
  | succ k ih =>
    by_cases e : i = k + 1
    · rw [e]
    · rw [csum, ih (by omega), getD_out xs (show xs.length ≤ k by omega)]
      simp
/-- One term more, in three limbs. -/
theorem acc_step {lo mi hi l h s1 t1 s2 t2 p q a : Nat} (hp : l + 18446744073709551616 * h = p) (h1 : s1 + 18446744073709551616 * t1 = lo + l + 0) (h2 : s2 + 18446744073709551616 * t2 = mi + h + t1)
    (ha : lo + 18446744073709551616 * mi + 340282366920938463463374607431768211456 * hi = a + q) : s1 + 18446744073709551616 * s2 + 340282366920938463463374607431768211456 * (hi + t2) = a + (q + p) := by
  omega
/-- A column is done. -/
theorem col_step {Z k lo mi hi S C a : Nat} (h : Z + pw k * a = C) (ha : lo + 18446744073709551616 * mi + 340282366920938463463374607431768211456 * hi = a + S) :
    Z + pw k * lo + pw (k + 1) * (mi + 18446744073709551616 * hi) = C + pw k * S := by
  have e : pw (k + 1) * (mi + 18446744073709551616 * hi) = pw k * (18446744073709551616 * mi + 340282366920938463463374607431768211456 * hi) := by
    rw [pw_succ, Nat.mul_comm 18446744073709551616, Nat.mul_assoc]
    congr 1
    omega
  have e2 : pw k * (lo + (18446744073709551616 * mi + 340282366920938463463374607431768211456 * hi)) = pw k * (a + S) := by
    congr 1
    omega
  rw [Nat.mul_add, Nat.mul_add (pw k) a] at e2
  omega
/-- All are done: nothing is left. -/
theorem col_end {Z k a V : Nat} (h : Z + pw k * a = V) (hV : V < pw k) : Z = V := by
  cases a with
  | zero => simpa using h
  | succ a =>
    rw [Nat.mul_succ] at h
    omega
theorem mul_lt_pw {xs ys : List Nat} (hx : Words xs) (hy : Words ys) : val xs * val ys < pw (xs.length + ys.length) := by
  rw [pw_add]
  have h1 := val_lt hx
  have h2 := val_lt hy
  exact Nat.mul_lt_mul'' h1 h2

/-- The bits of products and powers. -/
theorem blen_mul_le (x y : Nat) : blen (x * y) ≤ blen x + blen y := by
  apply blen_le_iff.2
  rw [Nat.pow_add]
  exact Nat.mul_lt_mul'' (lt_blen x) (lt_blen y)
theorem blen_mul_ge {x y : Nat} (hx : x ≠ 0) (hy : y ≠ 0) : blen x + blen y ≤ blen (x * y) + 1 := by
  have h1 := blen_le hx
  have h2 := blen_le hy
  have h3 : 2 ^ (blen x - 1 + (blen y - 1)) ≤ x * y := by rw [Nat.pow_add]; exact Nat.mul_le_mul h1 h2
  have h4 : ¬ blen (x * y) ≤ blen x - 1 + (blen y - 1) := fun h => by have := blen_le_iff.1 h; omega
  have h5 := blen_pos hx
  have h6 := blen_pos hy
  omega
theorem blen_pow_le (x k : Nat) (hx : 1 ≤ k) : blen (x ^ k) ≤ k * blen x := by
  apply blen_le_iff.2
  rw [Nat.mul_comm, Nat.pow_mul]
  exact Nat.pow_lt_pow_left (lt_blen x) (by omega)
theorem blen_pow_ge {x : Nat} (k : Nat) (hx : x ≠ 0) : k * (blen x - 1) < blen (x ^ k) := by
  have h1 := blen_le hx
  have h2 : 2 ^ (k * (blen x - 1)) ≤ x ^ k := by
    rw [Nat.mul_comm, Nat.pow_mul]
    exact Nat.pow_le_pow_left h1 k
  rcases Nat.lt_or_ge (k * (blen x - 1)) (blen (x ^ k)) with h | h
  · exact h
  · have := blen_le_iff.1 h
    omega
/-- How many limbs a number has, by its bits. -/
theorem tl_of_blen {xs : List Nat} (hw : Words xs) : tl xs = (blen (val xs) + 63) / 64 := by
  cases e : tl xs with
  | zero => rw [tl_zero e]; rfl
  | succ j =>
    have h1 := val_pos_of_tl e
    have h2 := val_lt_tl hw
    rw [e] at h2
    rw [pw_two] at h1 h2
    have h3 := blen_le_iff.2 h2
    have h4 : ¬ blen (val xs) ≤ 64 * j := fun h => by have := blen_le_iff.1 h; omega
    omega
theorem bare_len {xs : List Nat} (hw : Words xs) (hb : Bare xs) : xs.length = (blen (val xs) + 63) / 64 := by
  rw [← tl_of_blen hw]; exact hb.symm
theorem len_of_blen {xs : List Nat} {b L : Nat} (hw : Words xs) (hb : Bare xs) (h : blen (val xs) ≤ b) (hL : b ≤ 64 * L) : xs.length ≤ L := by
  rw [bare_len hw hb]; omega

theorem val_set (zs : List Nat) (k z : Nat) (hk : k < zs.length) : val (zs.set k z) + pw k * zs.getD k 0 = val zs + pw k * z := by
  induction zs generalizing k with
  | nil => simp at hk
  | cons x xs ih =>
    cases k with
    | zero => rw [List.set_cons_zero, val, val, pw_zero, getD_cons_zero]; omega
    | succ k =>
      rw [List.length_cons] at hk
      have := ih k (by omega)
      rw [List.set_cons_succ, val, val, pw_succ, getD_cons_succ, Nat.mul_assoc, Nat.mul_assoc]
      omega
theorem Words.set {zs : List Nat} (h : Words zs) (k : Nat) {z : Nat} (hz : z < 18446744073709551616) : Words (zs.set k z) := by
  intro x hx
  rcases List.mem_or_eq_of_mem_set hx with h1 | h1
  · exact h x h1
  · rw [h1]; exact hz
theorem val_zeros (L : Nat) : val (List.replicate L 0) = 0 := by
  induction L with
  | zero => rfl
  | succ L ih => rw [List.replicate_succ, val, ih]
/-- One limb of a sum in place. -/
theorem set_step {o x cn s t k Z U T : Nat} (hs : s + 18446744073709551616 * t = o + x + cn) (hset : U + pw k * o = Z + pw k * s) (h : Z + pw k * cn = T) : U + pw (k + 1) * t = T + pw k * x := by
  have e : pw (k + 1) * t = pw k * (18446744073709551616 * t) := by rw [pw_succ, Nat.mul_comm 18446744073709551616, Nat.mul_assoc]
  have e2 : pw k * (s + 18446744073709551616 * t) = pw k * (o + x + cn) := by rw [hs]
  rw [Nat.mul_add, Nat.mul_add, Nat.mul_add] at e2
  omega
/-- The sum of the first ones. -/
def tot (f : Nat → List Nat) : Nat → Nat
  | 0 => 0
  | j + 1 => tot f j + val (f j)
theorem tot_le {f : Nat → List Nat} {P j : Nat} (h : ∀ i, i < j → val (f i) ≤ P) : tot f j ≤ j * P := by
  induction j with
  | zero => exact Nat.zero_le _
  | succ j ih =>
    have h1 := ih (fun i hi => h i (by omega))
    have h2 := h j (by omega)
    rw [tot, Nat.succ_mul]
    omega
theorem tot_lt {f : Nat → List Nat} {l j : Nat} (h : ∀ i, i < j → val (f i) < pw l) (hj : j < 18446744073709551616) : tot f j < pw (l + 1) := by
  have h1 := tot_le (f := f) (P := pw l) (fun i hi => Nat.le_of_lt (h i hi))
  have h2 : j * pw l < 18446744073709551616 * pw l := Nat.mul_lt_mul_of_pos_right hj (pw_pos l)
  rw [pw_succ]
  omega
end Go.Proofs.YtafgooiakmmfkaaDoor
/- The walks of math/bits.Mul64 and of prod.bare. -/
namespace Go.Proofs.YtafgooiakmmfkaaDoor
open Go.RowKit

theorem maskN (a : Nat) (ha : a < 18446744073709551616) : bits .and .u64 (a : Int) 4294967295 = ((a % 4294967296 : Nat) : Int) := by
  have h := bits_and_u64_nat a 4294967295 ha (by omega)
  have e : a &&& 4294967295 = a % 4294967296 := Nat.and_two_pow_sub_one_eq_mod a 32
  rw [e] at h
  exact h
theorem divN (a : Nat) : (a : Int) / 4294967296 = ((a / 4294967296 : Nat) : Int) := by omega
theorem mulN (a b : Nat) : (a : Int) * (b : Int) = ((a * b : Nat) : Int) := (Int.natCast_mul a b).symm
theorem addN (a b : Nat) : (a : Int) + (b : Int) = ((a + b : Nat) : Int) := (Int.natCast_add a b).symm
theorem wrapN (a : Nat) (ha : a < 18446744073709551616) : IntKind.u64.wrap (a : Int) = (a : Int) := by rw [IntKind.wrap_u64]; omega
theorem wrapM (a : Nat) : IntKind.u64.wrap (a : Int) = ((a % 18446744073709551616 : Nat) : Int) := by rw [IntKind.wrap_u64]; omega

set_option maxHeartbeats 1000000 in
theorem mul64_walk (x y : Nat) (hx : x < 18446744073709551616) (hy : y < 18446744073709551616) (w : World) :
    Calls Tryd.prog 103 #[.int .u64 (x : Int), .int .u64 (y : Int)] w fun e w' => e = .returned (.tuple #[.int .u64 ((x * y / 18446744073709551616 : Nat) : Int), .int .u64 ((x * y % 18446744073709551616 : Nat) : Int)]) ∧ w = w' := by
  obtain ⟨bd, bt, bw, hhi⟩ := Lib.mul64_hi x y hx hy
  have ba := Lib.half_mul_le (a := x / 4294967296) (b := y / 4294967296) (by omega) (by omega)
  have bb := Lib.half_mul_le (a := x / 4294967296) (b := y % 4294967296) (by omega) (by omega)
  have bc := Lib.half_mul_le (a := x % 4294967296) (b := y / 4294967296) (by omega) (by omega)
  have ba' : x / 4294967296 * (y / 4294967296) < 18446744073709551616 := by omega
  have bb' : x / 4294967296 * (y % 4294967296) < 18446744073709551616 := by omega
  have bc' : x % 4294967296 * (y / 4294967296) < 18446744073709551616 := by omega
  have bh1 : x / 4294967296 * (y / 4294967296) + (x / 4294967296 * (y % 4294967296) + x % 4294967296 * (y % 4294967296) / 4294967296) / 4294967296 < 18446744073709551616 := by omega
  have bh : x / 4294967296 * (y / 4294967296) + (x / 4294967296 * (y % 4294967296) + x % 4294967296 * (y % 4294967296) / 4294967296) / 4294967296 + ((x / 4294967296 * (y % 4294967296) + x % 4294967296 * (y % 4294967296) / 4294967296) % 4294967296 + x % 4294967296 * (y / 4294967296)) / 4294967296 < 18446744073709551616 := by omega
  go_enter Tryd.func103, Tryd.ntmps103
  go_wp2
  simp only [maskN x hx, maskN y hy, divN, mulN, addN, wrapN _ bd, wrapN _ bb', wrapN _ bt, maskN _ bt, wrapN _ bc', wrapN _ bw, wrapN _ ba', wrapN _ bh1, wrapN _ bh, wrapM (x * y)]
  rw [hhi]
  go_ret2
  exact ⟨rfl, rfl⟩

/-- x * y: the upper limb and the lower one, each a letter. -/
theorem mul64_any (x y h l : Nat) (hx : x < 18446744073709551616) (hy : y < 18446744073709551616) (hp : Hid (l + 18446744073709551616 * h = x * y)) (hl : l < 18446744073709551616) (w : World) :
    Calls Tryd.prog 103 #[.int .u64 (x : Int), .int .u64 (y : Int)] w fun e w' => e = .returned (.tuple #[.int .u64 (h : Int), .int .u64 (l : Int)]) ∧ w = w' := by
  have e1 : x * y / 18446744073709551616 = h := by have := hp.out; omega
  have e2 : x * y % 18446744073709551616 = l := by have := hp.out; omega
  have := mul64_walk x y hx hy w
  rw [e1, e2] at this
  exact this

set_option maxHeartbeats 1000000 in
/-- prod.bare: a's own memory, without leading noughts. -/
theorem pbare_any (l : Nat) (A : Option Addr) (n c : Nat) (xs : List Nat) (w : World) (hA : Lim w A n c xs) (hn : n ≤ 4398046511104) (hl : Hid (tl xs = l)) :
    Calls Tryd.prog 87 #[.slice A n c] w fun e w' => e = .returned (.slice A l c) ∧ w = w' := by
  have h1 := tl_of_blen hA.words
  have h2 := hA.tl_le
  have h3 := hA.le
  have hB := bits_any A n c xs w hA hn
  rw [hl.out] at h1 h2
  generalize blen (val xs) = b at h1 hB
  have HB := Lib.hid hB
  have e1 : ((b : Int) + 64 - 1) / 64 = (l : Int) := by omega
  have e2 : ((b : Int) + 63) / 64 = (l : Int) := by omega
  have hb : b ≤ 64 * 4398046511104 := by omega
  clear hB h1 hA
  go_enter Tryd.func87, Tryd.ntmps87
  go_wp2_with fail
  refine HB.out.mono ?_
  rintro e w' ⟨rfl, rfl⟩
  go_wp2
  go_ret
  exact ⟨rfl, rfl⟩
end Go.Proofs.YtafgooiakmmfkaaDoor
/- The walk of prod.columns: the product of any two numbers. -/
namespace Go.Proofs.YtafgooiakmmfkaaDoor
open Go.RowKit

set_option maxHeartbeats 4000000 in
set_option maxRecDepth 100000 in
theorem columns_any (A : Option Addr) (n c : Nat) (xs : List Nat) (B : Option Addr) (m d : Nat) (ys : List Nat) (w : World) (hA : Lim w A n c xs) (hB : Lim w B m d ys) (hn1 : 1 ≤ n) (hm1 : 1 ≤ m) (hn : n ≤ 1000000) (hm : m ≤ 1000000) :
    Calls Tryd.prog 86 #[.slice A n c, .slice B m d] w (Tells w (val xs * val ys) (n + m)) := by
  have HA := Lib.hid hA
  have HB := Lib.hid hB
  obtain ⟨L, hL⟩ : ∃ L, n + m = L := ⟨_, rfl⟩
  rw [hL]
  have hmk := run_make_row' (P := Tryd.prog) 22 104 (.int .u64 0) 8 Tryd.underlying22 info64 rfl .i64 .i64 L (by omega) (by omega)
  have e0 : (n : Int) + (m : Int) = (L : Int) := by omega
  clear hA hB
  go_enter Tryd.func86, Tryd.ntmps86
  go_wp2
  clear hmk e0
  go_loopw [6, 7, 8, 24] (fun s6 s7 s8 i wr => ∃ (k lo mi : Nat) (zs : List Nat), k ≤ L ∧ i = .int .i64 k ∧ s6 = .int .u64 lo ∧ s7 = .int .u64 mi ∧ s8 = .int .u64 0 ∧ lo < 18446744073709551616 ∧ mi < 18446744073709551616 ∧ Hid (zs.length = k) ∧ Fill w wr w.heap.size 104 L zs ∧ Hid (val zs + pw k * (lo + 18446744073709551616 * mi) = cols xs ys k)) (fun _ _ _ i _ => L - (intOf i).toNat)
  case atStart => exact ⟨0, 0, 0, [], Nat.zero_le _, rfl, rfl, rfl, rfl, by decide, by decide, rfl, Fill.start w _ _, by simp [Hid, val, cols]⟩
  case round =>
    obtain ⟨w1, rfl⟩ : ∃ w1, w1 = wr := ⟨_, rfl⟩
    obtain ⟨k, lo, mi, zs, hk, rfl, rfl, rfl, rfl, hlo, hmi, Hzl, hF, HE⟩ := hrel
    have HF := Lib.hid hF
    by_cases hlt : k < L
    · obtain ⟨f, hf⟩ : ∃ f, f = k + 1 - m := ⟨_, rfl⟩
      obtain ⟨la, hla⟩ : ∃ la, la = min k (n - 1) := ⟨_, rfl⟩
      have e1 : max (0 : Int) ((k : Int) - (m : Int) + 1) = (f : Int) := by omega
      have e2 : min (k : Int) ((n : Int) - 1) = (la : Int) := by omega
      have Hfirst : Hid (csum xs ys k f = 0) := by
        rcases Nat.lt_or_ge (k + 1) m with h | h
        · rw [show f = 0 from by omega]; rfl
        · exact csum_first (by have := HB.out.len; omega)
      have Hlast : Hid (csum xs ys k (k + 1) = csum xs ys k (la + 1)) := by
        rcases Nat.lt_or_ge k (n - 1) with h | h
        · rw [show la = k from by omega]; rfl
        · exact csum_last (by have := HA.out.len; omega) (by omega)
      have d1 : f ≤ la + 1 := by omega
      have d2 : la < n := by omega
      have d3 : la ≤ k := by omega
      have d4 : k < f + m := by omega
      clear hf hla hF
      go_wp2
      clear e1 e2
      go_loopw [6, 7, 8, 12] (fun s6 s7 s8 i wr2 => ∃ (j lo2 mi2 hi q : Nat), f ≤ j ∧ j ≤ la + 1 ∧ i = .int .i64 j ∧ s6 = .int .u64 lo2 ∧ s7 = .int .u64 mi2 ∧ s8 = .int .u64 hi ∧ hi ≤ j ∧ lo2 < 18446744073709551616 ∧ mi2 < 18446744073709551616 ∧ wr2 = w1.drewN q ∧ Hid (lo2 + 18446744073709551616 * mi2 + 340282366920938463463374607431768211456 * hi = (lo + 18446744073709551616 * mi) + csum xs ys k j)) (fun _ _ _ i _ => la + 1 - (intOf i).toNat)
      case atStart => exact ⟨f, lo, mi, 0, 0, Nat.le_refl _, d1, rfl, rfl, rfl, rfl, Nat.zero_le _, hlo, hmi, rfl, by rw [Hfirst.out]; simp [Hid]⟩
      case round =>
        obtain ⟨j, lo2, mi2, hi, q, hfj, hj, rfl, rfl, rfl, rfl, hhi, hlo2, hmi2, rfl, HI⟩ := hrel
        by_cases hjl : j ≤ la
        · obtain ⟨b, o, hAe, hb, hcl⟩ := (HF.out.lim HA.out).at_ (by omega)
          subst hAe
          have c1 := hcl j (by omega)
          clear hcl
          obtain ⟨b', o', hBe, hb', hcl⟩ := (HF.out.lim HB.out).at_ (by omega)
          subst hBe
          obtain ⟨dd, hdd⟩ : ∃ dd, k - j = dd := ⟨_, rfl⟩
          have c2 := hcl dd (by omega)
          clear hcl
          have hxw := HA.out.words.getD j
          have hyw := HB.out.words.getD dd
          have Hcs : Hid (csum xs ys k (j + 1) = csum xs ys k j + xs.getD j 0 * ys.getD dd 0) := by rw [← hdd]; rfl
          have e3 : (k : Int) - (j : Int) = (dd : Int) := by omega
          have e4 : (j : Int) < (n : Int) := by omega
          have e5 : (dd : Int) < (m : Int) := by omega
          have e6 : (j : Int) ≤ (la : Int) := by omega
          generalize xs.getD j 0 = x at c1 hxw Hcs
          generalize ys.getD dd 0 = y at c2 hyw Hcs
          obtain ⟨h, l, hp, hl⟩ : ∃ h l, l + 18446744073709551616 * h = x * y ∧ l < 18446744073709551616 := ⟨x * y / 18446744073709551616, x * y % 18446744073709551616, by omega, by omega⟩
          obtain ⟨s1, t1, hs1, hs1', ht1⟩ : ∃ s t, s + 18446744073709551616 * t = lo2 + l + 0 ∧ s < 18446744073709551616 ∧ t ≤ 1 := ⟨(lo2 + l) % 18446744073709551616, (lo2 + l) / 18446744073709551616, by omega, by omega, by omega⟩
          have hh : h < 18446744073709551616 := by
            have h1 : x * y < 18446744073709551616 * 18446744073709551616 := Nat.mul_lt_mul'' hxw hyw
            omega
          obtain ⟨s2, t2, hs2, hs2', ht2⟩ : ∃ s t, s + 18446744073709551616 * t = mi2 + h + t1 ∧ s < 18446744073709551616 ∧ t ≤ 1 := ⟨(mi2 + h + t1) % 18446744073709551616, (mi2 + h + t1) / 18446744073709551616, by omega, by omega, by omega⟩
          have HI2 := Lib.hid (acc_step hp hs1 hs2 HI.out)
          rw [← Hcs.out] at HI2
          have hadd1 := add64 lo2 l 0 s1 t1 (by decide) hs1 hs1'
          rw [show ((0 : Nat) : Int) = 0 from rfl] at hadd1
          have hadd2 := add64 mi2 h t1 s2 t2 ht1 hs2 hs2'
          have Hmul := Lib.hid (mul64_any x y h l hxw hyw hp hl)
          clear hp hs1 hs2 HI hdd Hcs
          go_wp2
          go_quiet ((go_at_call 103; exact quiet_more (Hmul.out _)))
          go_wp2
          go_roundw
          case rel => exact ⟨j + 1, s1, s2, hi + t2, _, by omega, by omega, by go_num, rfl, rfl, by go_num, by omega, hs1', hs2', rfl, HI2⟩
          case measure => simp [intOf]; omega
        · obtain rfl : j = la + 1 := by omega
          have c2 := HF.out.cell (j := k) (by omega)
          have c3 := HF.out.frozen k
          have HF' := Lib.hid ((HF.out.drewN q).push (z := lo2) Hzl.out.symm (by omega) hlo2)
          have Hlen : Hid ((zs ++ [lo2]).length = k + 1) := by have := Hzl.out; simp [Hid]; omega
          rw [← Hlast.out] at HI
          have HE2 : Hid (val (zs ++ [lo2]) + pw (k + 1) * (mi2 + 18446744073709551616 * hi) = cols xs ys (k + 1)) := by
            rw [val_snoc, Hzl.out]; exact col_step HE.out HI.out
          have hhi2 : hi < 18446744073709551616 := by omega
          clear HI HE Hfirst Hlast
          go_wp2
          go_roundw
          case rel => exact ⟨k + 1, mi2, hi, zs ++ [lo2], by omega, by go_num, rfl, rfl, rfl, hmi2, hhi2, Hlen, HF'.out, HE2⟩
          case measure => simp [intOf]; omega
    · obtain rfl : k = L := by omega
      have hlim := hF.done Hzl.out
      have HV : Hid (val zs = val xs * val ys) := by
        have h1 := HE.out
        rw [cols_val (by have := HA.out.len; have := HB.out.len; omega)] at h1
        refine col_end h1 ?_
        have := mul_lt_pw HA.out.words HB.out.words
        rw [HA.out.len, HB.out.len, hL] at this
        exact this
      have hbel := hF.below
      clear HE hF
      go_wp2_with fail
      refine (pbare_any (tl zs) _ _ _ zs _ hlim (by omega) rfl).mono ?_
      rintro e w' ⟨rfl, rfl⟩
      go_wp2
      go_ret
      exact tells_trim hlim hbel HV.out (Nat.le_refl _) rfl
end Go.Proofs.YtafgooiakmmfkaaDoor
/- The walks of prod.Mul, prod.Times and math/bits.Len. -/
namespace Go.Proofs.YtafgooiakmmfkaaDoor
open Go.RowKit

theorem bits_to (b : Nat) (A : Option Addr) (n c : Nat) (xs : List Nat) (w : World) (hA : Lim w A n c xs) (hn : n ≤ 4398046511104) (hb : Hid (blen (val xs) = b)) :
    Calls Tryd.prog 63 #[.slice A n c] w fun e w' => e = .returned (.int .i64 (b : Int)) ∧ w = w' := by
  rw [← hb.out]; exact bits_any A n c xs w hA hn

theorem val_pos_len {xs : List Nat} (h : val xs ≠ 0) : 1 ≤ tl xs := by
  cases e : tl xs with
  | zero => exact absurd (tl_zero e) h
  | succ j => omega

set_option maxHeartbeats 2000000 in
theorem mul_any (A : Option Addr) (n c : Nat) (xs : List Nat) (B : Option Addr) (m d : Nat) (ys : List Nat) (w : World) (hA : Lim w A n c xs) (hB : Lim w B m d ys) (hn : n ≤ 1000000) (hm : m ≤ 1000000) (hfit : val xs = 0 ∨ val ys = 0 ∨ blen (val xs) + blen (val ys) ≤ 65536) :
    Calls Tryd.prog 60 #[.slice A n c, .slice B m d] w (Tells2 w (val xs * val ys) (n + m) (.int .i64 0)) := by
  obtain ⟨bx, hbx⟩ : ∃ b, blen (val xs) = b := ⟨_, rfl⟩
  obtain ⟨by_, hby⟩ : ∃ b, blen (val ys) = b := ⟨_, rfl⟩
  have hbx' : bx ≤ 64 * 1000000 := by
    have := tl_of_blen hA.words
    have := hA.tl_le
    omega
  have hby' : by_ ≤ 64 * 1000000 := by
    have := tl_of_blen hB.words
    have := hB.tl_le
    omega
  rw [hbx, hby] at hfit
  have Hbx := Lib.hid hbx
  have Hby := Lib.hid hby
  have H1 := Lib.hid (bits_to bx A n c xs w hA (by omega) hbx)
  have H2 := Lib.hid (bits_to by_ B m d ys w hB (by omega) hby)
  by_cases h0 : bx = 0 ∨ by_ = 0
  · have HV : Hid (val xs * val ys = 0) := by
      rcases h0 with h | h
      · rw [blen_zero_iff.1 (hbx.trans h)]; exact Nat.zero_mul _
      · rw [blen_zero_iff.1 (hby.trans h)]; exact Nat.mul_zero _
    clear hbx hby hfit hA hB
    have g : ((bx : Int) == 0) = true ∨ ((bx : Int) == 0) = false ∧ ((by_ : Int) == 0) = true := by
      by_cases h : bx = 0
      · exact Or.inl (by rw [h]; rfl)
      · exact Or.inr ⟨beq_eq_false_iff_ne.2 (by omega), by rw [show by_ = 0 from by omega]; rfl⟩
    clear h0
    rcases g with b1 | ⟨b1, b2⟩
    all_goals
      go_enter Tryd.func60, Tryd.ntmps60
      go_wp2_with fail
      refine H1.out.mono ?_
      rintro e w' ⟨rfl, rfl⟩
      go_wp2_with fail
      refine H2.out.mono ?_
      rintro e w' ⟨rfl, rfl⟩
      go_wp2
      go_ret2
      exact ⟨none, 0, 0, [], rfl, Nat.zero_le _, Lim.nil _ _ _, rfl, by rw [HV.out]; rfl, Below.refl _ _⟩
  · have hx0 : val xs ≠ 0 := fun h => h0 (Or.inl (by rw [← hbx, h]; rfl))
    have hy0 : val ys ≠ 0 := fun h => h0 (Or.inr (by rw [← hby, h]; rfl))
    have b1 : ((bx : Int) == 0) = false := beq_eq_false_iff_ne.2 (by omega)
    have b2 : ((by_ : Int) == 0) = false := beq_eq_false_iff_ne.2 (by omega)
    have hfit2 : bx + by_ ≤ 65536 := by
      rcases hfit with h | h | h
      · exact absurd h hx0
      · exact absurd h hy0
      · exact h
    have b3 : decide ((65536 : Int) - (by_ : Int) < (bx : Int)) = false := by simp; omega
    have hP := hA.trim
    have hQ := hB.trim
    have l1 := hA.tl_le
    have l2 := hB.tl_le
    have l3 := val_pos_len hx0
    have l4 := val_pos_len hy0
    have hVx := val_take_tl xs
    have hVy := val_take_tl ys
    obtain ⟨la, hla⟩ : ∃ l, tl xs = l := ⟨_, rfl⟩
    obtain ⟨lb, hlb⟩ : ∃ l, tl ys = l := ⟨_, rfl⟩
    rw [hla] at hP l1 l3 hVx
    rw [hlb] at hQ l2 l4 hVy
    have Hla := Lib.hid hla
    have Hlb := Lib.hid hlb
    have hC := columns_any A la c _ B lb d _ w hP hQ l3 l4 (by omega) (by omega)
    rw [hVx, hVy] at hC
    have H5 := Lib.hid hC
    clear hbx hby hfit hx0 hy0 hP hQ hVx hVy hla hlb hC h0
    go_enter Tryd.func60, Tryd.ntmps60
    go_wp2_with fail
    refine H1.out.mono ?_
    rintro e w' ⟨rfl, rfl⟩
    go_wp2_with fail
    refine H2.out.mono ?_
    rintro e w' ⟨rfl, rfl⟩
    go_wp2_with fail
    refine (pbare_any la A n c xs _ hA (by omega) Hla).mono ?_
    rintro e w' ⟨rfl, rfl⟩
    go_wp2_with fail
    refine (pbare_any lb B m d ys _ hB (by omega) Hlb).mono ?_
    rintro e w' ⟨rfl, rfl⟩
    go_wp2_with fail
    refine H5.out.mono ?_
    rintro e w1 ⟨A1, m1, c1, zs, rfl, hm1, hzs⟩
    have Hzs := Lib.hid hzs
    clear hzs
    go_wp2
    go_ret2
    exact ⟨A1, m1, c1, zs, rfl, by omega, Hzs.out⟩

set_option maxHeartbeats 2000000 in
theorem mul_long (A : Option Addr) (n c : Nat) (xs : List Nat) (B : Option Addr) (m d : Nat) (ys : List Nat) (w : World) (hA : Lim w A n c xs) (hB : Lim w B m d ys) (hn : n ≤ 1000000) (hm : m ≤ 1000000) (hx0 : val xs ≠ 0) (hy0 : val ys ≠ 0) (hfit : 65536 < blen (val xs) + blen (val ys)) :
    Calls Tryd.prog 60 #[.slice A n c, .slice B m d] w fun e w' => e = .returned (.tuple #[.slice none 0 0, .int .i64 2]) ∧ w = w' := by
  obtain ⟨bx, hbx⟩ : ∃ b, blen (val xs) = b := ⟨_, rfl⟩
  obtain ⟨by_, hby⟩ : ∃ b, blen (val ys) = b := ⟨_, rfl⟩
  have hbx' : bx ≤ 64 * 1000000 := by
    have := tl_of_blen hA.words
    have := hA.tl_le
    omega
  have hby' : by_ ≤ 64 * 1000000 := by
    have := tl_of_blen hB.words
    have := hB.tl_le
    omega
  have p1 := blen_pos hx0
  have p2 := blen_pos hy0
  rw [hbx, hby] at hfit
  rw [hbx] at p1
  rw [hby] at p2
  have H1 := Lib.hid (bits_to bx A n c xs w hA (by omega) hbx)
  have H2 := Lib.hid (bits_to by_ B m d ys w hB (by omega) hby)
  have b1 : ((bx : Int) == 0) = false := beq_eq_false_iff_ne.2 (by omega)
  have b2 : ((by_ : Int) == 0) = false := beq_eq_false_iff_ne.2 (by omega)
  have b3 : decide ((65536 : Int) - (by_ : Int) < (bx : Int)) = true := by simp; omega
  clear hbx hby hx0 hy0 hA hB
  go_enter Tryd.func60, Tryd.ntmps60
  go_wp2_with fail
  refine H1.out.mono ?_
  rintro e w' ⟨rfl, rfl⟩
  go_wp2_with fail
  refine H2.out.mono ?_
  rintro e w' ⟨rfl, rfl⟩
  go_wp2
  go_ret2
  exact ⟨rfl, rfl⟩


theorem plen_any (x : Nat) (w : World) (hx : x < 18446744073709551616) :
    Calls Tryd.prog 70 #[.int .u64 (x : Int)] w fun e w' => e = .returned (.int .i64 (blen x : Int)) ∧ w = w' := by
  have H := Lib.hid (len_any x w hx)
  go_enter Tryd.func70, Tryd.ntmps70
  go_wp2_with fail
  refine H.out.mono ?_
  rintro e w' ⟨rfl, rfl⟩
  go_wp2
  go_ret
  exact ⟨rfl, rfl⟩
end Go.Proofs.YtafgooiakmmfkaaDoor
/- Plain mathematics of lists of digits to the base 65536, lowest one first: the limbs' text at the other base. No program is named here. -/
namespace Go.Proofs.YtafgooiakmmfkaaDoor.D

/-- The number that a list of limbs is. -/
def val : List Nat → Nat
  | [] => 0
  | x :: xs => x + 65536 * val xs

/-- The length without leading noughts. -/
def tl : List Nat → Nat
  | [] => 0
  | x :: xs => if tl xs = 0 then (if x = 0 then 0 else 1) else tl xs + 1

/-- 2 to 16 times k. -/
def pw (k : Nat) : Nat := 65536 ^ k

theorem pw_zero : pw 0 = 1 := rfl
theorem pw_succ (k : Nat) : pw (k + 1) = 65536 * pw k := by unfold pw; rw [Nat.pow_succ, Nat.mul_comm]
theorem pw_pos (k : Nat) : 0 < pw k := Nat.pow_pos (by decide)
theorem pw_add (j k : Nat) : pw (j + k) = pw j * pw k := by unfold pw; rw [Nat.pow_add]
theorem pw_mono {j k : Nat} (h : j ≤ k) : pw j ≤ pw k := Nat.pow_le_pow_right (by decide) h
theorem pw_two (k : Nat) : pw k = 2 ^ (16 * k) := by
  unfold pw
  rw [Nat.pow_mul]

/-- Each limb is below 65536. -/
def Words (xs : List Nat) : Prop := ∀ x ∈ xs, x < 65536

theorem Words.nil : Words [] := by intro x hx; cases hx
theorem Words.tail {x : Nat} {xs : List Nat} (h : Words (x :: xs)) : Words xs := fun y hy => h y (List.mem_cons_of_mem _ hy)
theorem Words.head {x : Nat} {xs : List Nat} (h : Words (x :: xs)) : x < 65536 := h x List.mem_cons_self
theorem Words.cons {x : Nat} {xs : List Nat} (hx : x < 65536) (h : Words xs) : Words (x :: xs) := by
  intro y hy
  rcases List.mem_cons.1 hy with rfl | hy
  · exact hx
  · exact h y hy
theorem Words.getD {xs : List Nat} (h : Words xs) (k : Nat) : xs.getD k 0 < 65536 := by
  rw [List.getD_eq_getElem?_getD]
  cases e : xs[k]? with
  | none => simp
  | some x => simpa using h x (List.mem_of_getElem? e)
theorem Words.take {xs : List Nat} (h : Words xs) (k : Nat) : Words (xs.take k) := fun x hx => h x (List.mem_of_mem_take hx)
theorem Words.drop {xs : List Nat} (h : Words xs) (k : Nat) : Words (xs.drop k) := fun x hx => h x (List.mem_of_mem_drop hx)
theorem Words.append {xs ys : List Nat} (h : Words xs) (h' : Words ys) : Words (xs ++ ys) := by
  intro x hx
  rcases List.mem_append.1 hx with hx | hx
  · exact h x hx
  · exact h' x hx
theorem Words.one {x : Nat} (hx : x < 65536) : Words [x] := Words.cons hx Words.nil
/-- A list given by its limbs. -/
theorem Words.of_getD {xs : List Nat} (h : ∀ k, k < xs.length → xs.getD k 0 < 65536) : Words xs := by
  intro x hx
  obtain ⟨k, hk, rfl⟩ := List.getElem_of_mem hx
  have := h k hk
  rwa [List.getD_eq_getElem?_getD, List.getElem?_eq_getElem hk, Option.getD_some] at this

theorem val_append (xs ys : List Nat) : val (xs ++ ys) = val xs + pw xs.length * val ys := by
  induction xs with
  | nil => simp [val, pw_zero]
  | cons x xs ih =>
    rw [List.cons_append, val, val, ih, List.length_cons, pw_succ, Nat.mul_add, Nat.mul_assoc]
    omega

theorem val_lt {xs : List Nat} (h : Words xs) : val xs < pw xs.length := by
  induction xs with
  | nil => simp [val, pw_zero]
  | cons x xs ih =>
    have h1 := ih h.tail
    have h2 := h.head
    rw [val, List.length_cons, pw_succ]
    omega

theorem val_split (xs : List Nat) (k : Nat) (hk : k ≤ xs.length) : val xs = val (xs.take k) + pw k * val (xs.drop k) := by
  have := val_append (xs.take k) (xs.drop k)
  rwa [List.take_append_drop, List.length_take, Nat.min_eq_left hk] at this

theorem getD_cons_succ (x : Nat) (xs : List Nat) (k : Nat) : (x :: xs).getD (k + 1) 0 = xs.getD k 0 := by simp [List.getD]
theorem getD_cons_zero (x : Nat) (xs : List Nat) : (x :: xs).getD 0 0 = x := rfl

theorem drop_cons (xs : List Nat) (k : Nat) (hk : k < xs.length) : xs.drop k = xs.getD k 0 :: xs.drop (k + 1) := by
  rw [List.drop_eq_getElem_cons hk, List.getD_eq_getElem?_getD, List.getElem?_eq_getElem hk, Option.getD_some]

theorem take_snoc (xs : List Nat) (k : Nat) (hk : k < xs.length) : xs.take (k + 1) = xs.take k ++ [xs.getD k 0] := by
  rw [List.take_succ_eq_append_getElem hk, List.getD_eq_getElem?_getD, List.getElem?_eq_getElem hk, Option.getD_some]

theorem val_take_succ (xs : List Nat) (k : Nat) (hk : k < xs.length) : val (xs.take (k + 1)) = val (xs.take k) + pw k * xs.getD k 0 := by
  rw [take_snoc xs k hk, val_append, List.length_take, Nat.min_eq_left (by omega)]
  simp [val]

/-- Past the end nothing more comes. -/
theorem val_take_succ' (xs : List Nat) (k : Nat) : val (xs.take (k + 1)) = val (xs.take k) + pw k * xs.getD k 0 := by
  by_cases hk : k < xs.length
  · exact val_take_succ xs k hk
  · have : xs.getD k 0 = 0 := by rw [List.getD_eq_getElem?_getD, List.getElem?_eq_none (by omega)]; rfl
    rw [this, List.take_of_length_le (by omega), List.take_of_length_le (by omega)]
    omega

theorem val_snoc (xs : List Nat) (x : Nat) : val (xs ++ [x]) = val xs + pw xs.length * x := by rw [val_append]; simp [val]

theorem tl_le (xs : List Nat) : tl xs ≤ xs.length := by
  induction xs with
  | nil => exact Nat.le_refl _
  | cons x xs ih =>
    rw [tl, List.length_cons]
    split
    · split <;> omega
    · omega

theorem tl_zero {xs : List Nat} (h : tl xs = 0) : val xs = 0 := by
  induction xs with
  | nil => rfl
  | cons x xs ih =>
    rw [tl] at h
    split at h
    · rename_i h0
      split at h
      · rename_i hx; rw [val, ih h0, hx]
      · omega
    · omega

theorem val_take_tl (xs : List Nat) : val (xs.take (tl xs)) = val xs := by
  induction xs with
  | nil => rfl
  | cons x xs ih =>
    rw [tl]
    split
    · rename_i h0
      split
      · rename_i hx; rw [val, tl_zero h0, hx]; rfl
      · rw [List.take_succ_cons, val, val, List.take_zero, tl_zero h0]; rfl
    · rw [List.take_succ_cons, val, val, ih]

theorem getD_of_tl {xs : List Nat} {j : Nat} (h : tl xs ≤ j) : xs.getD j 0 = 0 := by
  induction xs generalizing j with
  | nil => simp
  | cons x xs ih =>
    rw [tl] at h
    cases j with
    | zero =>
      split at h
      · split at h
        · assumption
        · omega
      · omega
    | succ j =>
      rw [getD_cons_succ]
      apply ih
      split at h
      · omega
      · omega

theorem getD_tl_pred {xs : List Nat} {j : Nat} (h : tl xs = j + 1) : xs.getD j 0 ≠ 0 := by
  induction xs generalizing j with
  | nil => simp [tl] at h
  | cons x xs ih =>
    rw [tl] at h
    split at h
    · split at h
      · omega
      · obtain rfl : j = 0 := by omega
        assumption
    · rename_i h0
      cases j with
      | zero => omega
      | succ j =>
        rw [getD_cons_succ]
        exact ih (by omega)

/-- What the trimmed length is. -/
theorem tl_eq {xs : List Nat} {k : Nat} (h1 : ∀ j, k ≤ j → j < xs.length → xs.getD j 0 = 0) (h2 : ∀ j, k = j + 1 → xs.getD j 0 ≠ 0) : tl xs = k := by
  rcases Nat.lt_trichotomy (tl xs) k with h | h | h
  · cases k with
    | zero => omega
    | succ j => exact absurd (getD_of_tl (j := j) (by omega)) (h2 j rfl)
  · exact h
  · obtain ⟨j, hj⟩ : ∃ j, tl xs = j + 1 := ⟨tl xs - 1, by omega⟩
    have := tl_le xs
    exact absurd (h1 j (by omega) (by omega)) (getD_tl_pred hj)

theorem val_pos_of_tl {xs : List Nat} {j : Nat} (h : tl xs = j + 1) : pw j ≤ val xs := by
  have hl := tl_le xs
  have h1 := val_take_succ xs j (by omega)
  have h2 := getD_tl_pred h
  have h3 := val_take_tl xs
  rw [h] at h3
  rw [← h3, h1]
  have : pw j * 1 ≤ pw j * xs.getD j 0 := Nat.mul_le_mul_left _ (by omega)
  omega

theorem val_lt_tl {xs : List Nat} (h : Words xs) : val xs < pw (tl xs) := by
  have h1 := val_lt (h.take (tl xs))
  rw [List.length_take, Nat.min_eq_left (tl_le xs), val_take_tl] at h1
  exact h1

theorem tl_zero_iff {xs : List Nat} : tl xs = 0 ↔ val xs = 0 := by
  constructor
  · exact tl_zero
  · intro h
    cases e : tl xs with
    | zero => rfl
    | succ j =>
      have := val_pos_of_tl e
      have := pw_pos j
      omega

/-- Fewer limbs: less. -/
theorem val_lt_of_tl_lt {xs ys : List Nat} (hx : Words xs) (h : tl xs < tl ys) : val xs < val ys := by
  obtain ⟨j, hj⟩ : ∃ j, tl ys = j + 1 := ⟨tl ys - 1, by omega⟩
  have h1 := val_lt_tl hx
  have h2 := val_pos_of_tl hj
  have h3 : pw (tl xs) ≤ pw j := pw_mono (by omega)
  omega

theorem tl_le_of_val_le {xs ys : List Nat} (hy : Words ys) (h : val xs ≤ val ys) : tl xs ≤ tl ys := by
  rcases Nat.lt_or_ge (tl ys) (tl xs) with h' | h'
  · have := val_lt_of_tl_lt hy h'
    omega
  · exact h'

theorem tl_of_val_eq {xs ys : List Nat} (hx : Words xs) (hy : Words ys) (h : val xs = val ys) : tl xs = tl ys := by
  have h1 := tl_le_of_val_le hy (Nat.le_of_eq h)
  have h2 := tl_le_of_val_le hx (Nat.le_of_eq h.symm)
  omega

/-- The first limb from above that differs decides. -/
theorem val_lt_of_digit {xs ys : List Nat} (hx : Words xs) {i n : Nat} (hi : i < n) (hxl : n ≤ xs.length) (hyl : n ≤ ys.length)
    (he : ∀ j, i < j → j < n → xs.getD j 0 = ys.getD j 0) (hd : xs.getD i 0 < ys.getD i 0) : val (xs.take n) < val (ys.take n) := by
  induction n with
  | zero => omega
  | succ n ih =>
    rw [val_take_succ xs n (by omega), val_take_succ ys n (by omega)]
    by_cases h : i = n
    · subst h
      have h1 := val_lt (hx.take i)
      rw [List.length_take, Nat.min_eq_left (by omega)] at h1
      have h2 : pw i * (xs.getD i 0 + 1) ≤ pw i * ys.getD i 0 := Nat.mul_le_mul_left _ hd
      rw [Nat.mul_add] at h2
      omega
    · have h1 := ih (by omega) (by omega) (by omega) (fun j hj hjn => he j hj (by omega))
      rw [he n (by omega) (by omega)]
      omega

theorem take_congr {xs ys : List Nat} {n : Nat} (he : ∀ j, j < n → xs.getD j 0 = ys.getD j 0) : val (xs.take n) = val (ys.take n) := by
  induction n with
  | zero => simp
  | succ n ih => rw [val_take_succ', val_take_succ', ih (fun j hj => he j (by omega)), he n (by omega)]

/-- A bare list: its last limb isn't 0. -/
def Bare (xs : List Nat) : Prop := tl xs = xs.length

theorem tl_take {xs : List Nat} : tl (xs.take (tl xs)) = tl xs := by
  apply tl_eq
  · intro j h1 h2
    rw [List.length_take] at h2
    have := tl_le xs
    omega
  · intro j hj
    have := getD_tl_pred hj
    rw [List.getD_eq_getElem?_getD, List.getElem?_take_of_lt (by omega), ← List.getD_eq_getElem?_getD]
    exact this
theorem bare_take (xs : List Nat) : Bare (xs.take (tl xs)) := by
  unfold Bare
  rw [tl_take, List.length_take, Nat.min_eq_left (tl_le xs)]

/-- Two bare lists of one value are one. -/
theorem eq_of_val {xs ys : List Nat} (hx : Words xs) (hy : Words ys) (hl : xs.length = ys.length) (h : val xs = val ys) : xs = ys := by
  induction xs generalizing ys with
  | nil => cases ys with
    | nil => rfl
    | cons y ys => simp at hl
  | cons x xs ih => cases ys with
    | nil => simp at hl
    | cons y ys =>
      rw [val, val] at h
      have h1 := hx.head
      have h2 := hy.head
      have e1 : x = y := by omega
      have e2 : val xs = val ys := by omega
      rw [e1, ih hx.tail hy.tail (by simpa using hl) e2]
theorem bare_eq {xs ys : List Nat} (hx : Words xs) (hy : Words ys) (bx : Bare xs) (by_ : Bare ys) (h : val xs = val ys) : xs = ys := by
  refine eq_of_val hx hy ?_ h
  rw [← bx, ← by_]
  exact tl_of_val_eq hx hy h

end Go.Proofs.YtafgooiakmmfkaaDoor.D
/- append on rows of numbers that the call itself made: the run of the builtin, whatever the source (nil, empty or not). -/
namespace Go.Proofs.YtafgooiakmmfkaaDoor
open Go.RowKit

/-- The slice value '.slice A n c' holds the numbers xs of one kind. -/
def Row (kd : IntKind) (w : World) (A : Option Addr) (n c : Nat) (xs : List Nat) : Prop :=
  xs.length = n ∧ n ≤ c ∧ (0 < n → ∃ b o, A = some ⟨b, o, none⟩ ∧ b < w.heap.size ∧ ∀ k, k < n → w.cell? ⟨b, o + k, none⟩ = some (.int kd ((xs.getD k 0 : Nat) : Int)))

theorem Lim.toRow {w : World} {A : Option Addr} {n c : Nat} {xs : List Nat} (h : Lim w A n c xs) : Row .u64 w A n c xs := ⟨h.1, h.2.1, h.2.2.2⟩
theorem Row.toLim {w : World} {A : Option Addr} {n c : Nat} {xs : List Nat} (h : Row .u64 w A n c xs) (hw : Words xs) : Lim w A n c xs := ⟨h.1, h.2.1, hw, h.2.2⟩

section
variable {kd : IntKind} {w w' : World} {A : Option Addr} {n c : Nat} {xs : List Nat}
theorem Row.len (h : Row kd w A n c xs) : xs.length = n := h.1
theorem Row.at_ (h : Row kd w A n c xs) (hn : 0 < n) : ∃ b o, A = some ⟨b, o, none⟩ ∧ b < w.heap.size ∧ ∀ k, k < n → w.cell? ⟨b, o + k, none⟩ = some (.int kd ((xs.getD k 0 : Nat) : Int)) := h.2.2 hn
theorem Row.keep (h : Row kd w A n c xs) (hs : w.heap.size ≤ w'.heap.size) (hk : ∀ p : Addr, p.block < w.heap.size → w'.cell? p = w.cell? p) : Row kd w' A n c xs :=
  ⟨h.1, h.2.1, fun hn => by
    obtain ⟨b, o, e, hb, hc⟩ := h.at_ hn
    exact ⟨b, o, e, Nat.lt_of_lt_of_le hb hs, fun k hk' => (hk ⟨b, o + k, none⟩ hb).trans (hc k hk')⟩⟩
theorem Row.below (h : Row kd w A n c xs) (hb : Below w.heap.size w w') : Row kd w' A n c xs := h.keep hb.size fun _ hp => hb.cell hp
theorem Row.nil (kd : IntKind) (w : World) (A : Option Addr) (c : Nat) : Row kd w A 0 c [] := ⟨rfl, Nat.zero_le _, fun h => absurd h (by omega)⟩
end

/-- The value v is nil, or a row of the call's own (blocks from B on) whose numbers are zs. -/
def Own (kd : IntKind) (t : TypeId) (w : World) (B : Nat) (v : Value) (zs : List Nat) : Prop := w.ownsRow B t 1 v zs.length (zs.map (fun z => Value.int kd ((z : Nat) : Int)))

section
variable {kd : IntKind} {t : TypeId} {w w' : World} {B : Nat} {v : Value} {zs : List Nat}
theorem Own.nil (kd : IntKind) (t : TypeId) (w : World) (B : Nat) : Own kd t w B (.slice none 0 0) [] := ⟨rfl, Or.inl ⟨rfl, rfl⟩⟩
/-- A row of the call's own as a slice that reads as a list. -/
theorem Own.row (h : Own kd t w B v zs) : ∃ A c, v = .slice A zs.length c ∧ Row kd w A zs.length c zs := by
  obtain ⟨hl, h | ⟨g, cap, cur, hv, hg, hb, hnc, hcm, hsz, htk⟩⟩ := h
  · obtain ⟨rfl, hn⟩ := h
    have : zs = [] := List.eq_nil_of_length_eq_zero hn
    subst this
    exact ⟨none, 0, rfl, Row.nil _ _ _ _⟩
  · refine ⟨_, cap, hv, rfl, hnc, fun hn => ⟨g, 0, rfl, ?_, fun k hk => ?_⟩⟩
    · rcases Nat.lt_or_ge g w.heap.size with h | h
      · exact h
      · rw [Array.getElem?_eq_none h] at hb; cases hb
    · have h1 : w.cell? ⟨g, 0 + k, none⟩ = cur[k]? := by rw [Nat.zero_add]; simp [World.cell?, hb]
      have h2 : (cur.toList.take (zs.length * 1))[k]? = some (.int kd ((zs.getD k 0 : Nat) : Int)) := by
        rw [htk, List.getElem?_map, List.getElem?_eq_getElem hk, List.getD_eq_getElem?_getD, List.getElem?_eq_getElem hk]; rfl
      rw [List.getElem?_take_of_lt (by omega)] at h2
      rw [h1, ← h2, Array.getElem?_toList]
theorem Own.lt (h : Own kd t w B v zs) (g : Nat) (hg : v.ownBlock = some g) : B ≤ g := by
  obtain ⟨hl, h | ⟨g', cap, cur, hv, hb, _⟩⟩ := h
  · obtain ⟨rfl, _⟩ := h; simp [Value.ownBlock] at hg
  · subst hv; simp [Value.ownBlock] at hg; omega
/-- What is owned stays so where nothing from B on has been written but new blocks. -/
theorem Own.keep (h : Own kd t w B v zs) (hb : Below w.heap.size w w') : Own kd t w' B v zs := by
  obtain ⟨hl, h | ⟨g, cap, cur, hv, hg, hh, r⟩⟩ := h
  · exact ⟨hl, Or.inl h⟩
  · refine ⟨hl, Or.inr ⟨g, cap, cur, hv, hg, ?_, r⟩⟩
    rw [hb.block g ?_]
    · exact hh
    · rcases Nat.lt_or_ge g w.heap.size with h | h
      · exact h
      · rw [Array.getElem?_eq_none h] at hh; cases hh
end

theorem add_addr (b o j : Nat) : (⟨b, o, none⟩ : Addr).add j = ⟨b, o + j, none⟩ := by
  unfold Addr.add
  split
  · rename_i h; subst h; rfl
  · rfl

/-- append(v, s...): the numbers of s behind those of v. -/
theorem run_app {P : Program} {kd : IntKind} {T ty t : TypeId} {bytes : Nat} (hT : P.underlying T = some (.slice t)) (hinfo : (P.info? t).map (fun i => (i.zero, i.size, i.bytes)) = some (some (.int kd 0), 1, bytes))
    {w : World} {B : Nat} {v : Value} {zs : List Nat} (hown : Own kd t w B v zs) {A : Option Addr} {m c : Nat} {xs : List Nat} (hr : Row kd w A m c xs) (hB : B ≤ w.heap.size) (hlen : (zs.length + m) * bytes ≤ 140737488355328) (hl2 : zs.length + m ≤ 1000000000000) :
    ∃ v' w', (Builtin.append_ #[T, T] ty #[v, .slice A m c]).run P w = .ok v' w' ∧ Own kd t w' B v' (zs ++ xs) ∧ Below B w w' := by
  obtain ⟨i, hi, hz0, hz1, hz2⟩ := info_parts hinfo
  rcases Nat.eq_zero_or_pos m with h0 | h0
  · subst h0
    have hx : xs = [] := List.eq_nil_of_length_eq_zero hr.len
    subst hx
    rcases A with _ | ad
    · refine ⟨v, w, ?_, by simpa using hown, Below.refl _ _⟩
      rcases hown.2 with ⟨rfl, hz⟩ | ⟨g, cap, cur, rfl, _, _, hnc, _⟩
      · simp [Builtin.append_, run_underlying hT, sizeOf, typeInfo, hi, Builtin.lenOf, Builtin.firstCells]
      · simp [Builtin.append_, run_underlying hT, sizeOf, typeInfo, hi, Builtin.lenOf, Builtin.firstCells, hnc, storeCells]
    · obtain ⟨v', w', hrun, ho, hg, _, _⟩ := run_append_own_at (P := P) w B T ty t i (.int kd 0) 1 bytes hT hi hz0 hz1 hz2 rfl (by decide) v _ _ hown ad 0 c [] rfl (by intro j u h; simp at h) (by simp) (by unfold maxLen; omega) hlen hB
      refine ⟨v', w', hrun, ?_, (Below.refl _ _).grown hg hB (fun g e => hown.lt g e)⟩
      simpa [Own] using ho
  · obtain ⟨b, o, rfl, hb, hc⟩ := hr.at_ h0
    obtain ⟨v', w', hrun, ho, hg, _, _⟩ := run_append_own_at (P := P) w B T ty t i (.int kd 0) 1 bytes hT hi hz0 hz1 hz2 rfl (by decide) v _ _ hown ⟨b, o, none⟩ m c (xs.map (fun z => Value.int kd ((z : Nat) : Int)))
      (by rw [List.length_map, hr.len, Nat.mul_one])
      (by
        intro j u hu
        rw [List.getElem?_map] at hu
        have hj : j < m := by
          rcases Nat.lt_or_ge j m with h | h
          · exact h
          · rw [List.getElem?_eq_none (by rw [hr.len]; exact h)] at hu; simp at hu
        rw [add_addr, hc j hj, ← hu, List.getD_eq_getElem?_getD, List.getElem?_eq_getElem (by rw [hr.len]; exact hj)]
        rfl)
      (by intro u hu; obtain ⟨z, _, rfl⟩ := List.mem_map.1 hu; rfl) (by unfold maxLen; omega) hlen hB
    refine ⟨v', w', hrun, ?_, (Below.refl _ _).grown hg hB (fun g e => hown.lt g e)⟩
    show w'.ownsRow B t 1 v' (zs ++ xs).length _
    rw [List.length_append, hr.len, List.map_append]
    exact ho

/-- The builtin append where the walk meets it, guarded or not, by its run. -/
theorem wpList_app {P : Program} {w w' : World} {ops : Array Oper} {rest : List Oper} {o : Oper} {a : Act} {Q : Exit → Act → World → Prop} {s x : Operand} {t : TypeId} {v1 v2 v' : Value}
    (hgd : Region.wanted o (yielded ops a.tmps) = true) (ho : o.op = .call { callee := .builtin .append, args := #[s, x], argTypes := #[t, t] }) (hs : a.eval s = v1) (hx : a.eval x = v2)
    (hrun : (Builtin.append_ #[t, t] o.type #[v1, v2]).run P w = .ok v' w') (h : wpList P ops Q rest (a.put o.dst v') w') : wpList P ops Q (o :: rest) a w := by
  refine wpList_step fun K hK => ?_
  rw [if_pos hgd]
  unfold Oper.wp execOp
  simp only [ho, resolve, invoke, builtin, Sem.run_bind, Sem.run_pure, Result.andThen_ok, List.map_toArray, List.map_cons, List.map_nil, hs, hx, hrun]
  exact hK _ _ h
end Go.Proofs.YtafgooiakmmfkaaDoor
/- Digits in memory; what ties digits to limbs. -/
namespace Go.Proofs.YtafgooiakmmfkaaDoor
open Go.RowKit

theorem info32 : (Tryd.prog.info? 69).map (fun i => (i.zero, i.size, i.bytes)) = some (some (.int .u32 0), 1, 4) := by kernel_rfl

/-- The slice value '.slice A n c' holds the digits ds. -/
def Dig (w : World) (A : Option Addr) (n c : Nat) (ds : List Nat) : Prop := Row .u32 w A n c ds ∧ D.Words ds
section
variable {w w' : World} {A : Option Addr} {n c : Nat} {ds : List Nat}
theorem Dig.len (h : Dig w A n c ds) : ds.length = n := h.1.1
theorem Dig.le (h : Dig w A n c ds) : n ≤ c := h.1.2.1
theorem Dig.words (h : Dig w A n c ds) : D.Words ds := h.2
theorem Dig.at_ (h : Dig w A n c ds) (hn : 0 < n) : ∃ b o, A = some ⟨b, o, none⟩ ∧ b < w.heap.size ∧ ∀ k, k < n → w.cell? ⟨b, o + k, none⟩ = some (.int .u32 ((ds.getD k 0 : Nat) : Int)) := h.1.at_ hn
theorem Dig.below (h : Dig w A n c ds) (hb : Below w.heap.size w w') : Dig w' A n c ds := ⟨h.1.below hb, h.2⟩
theorem Dig.drewN (h : Dig w A n c ds) (k : Nat) : Dig (w.drewN k) A n c ds := h
theorem Dig.nil (w : World) (A : Option Addr) (c : Nat) : Dig w A 0 c [] := ⟨Row.nil _ _ _ _, D.Words.nil⟩
theorem Row.take {kd : IntKind} (h : Row kd w A n c ds) {m : Nat} (hm : m ≤ n) : Row kd w A m c (ds.take m) :=
  ⟨by rw [List.length_take, h.1]; omega, Nat.le_trans hm h.2.1, fun hn => by
    obtain ⟨b, o, e, hb, hc⟩ := h.at_ (by omega)
    refine ⟨b, o, e, hb, fun k hk => ?_⟩
    rw [hc k (by omega), List.getD_eq_getElem?_getD, List.getD_eq_getElem?_getD, List.getElem?_take_of_lt hk]⟩
theorem Dig.take (h : Dig w A n c ds) {m : Nat} (hm : m ≤ n) : Dig w A m c (ds.take m) := ⟨h.1.take hm, h.2.take m⟩
theorem Dig.tl_le (h : Dig w A n c ds) : D.tl ds ≤ n := by have := D.tl_le ds; rw [h.len] at this; exact this
end

/-- What a call tells that hands back digits: without leading noughts, of value V, at most L of them, nothing old has turned. -/
def DTells (w : World) (V L : Nat) (e : Ending) (w' : World) : Prop :=
  ∃ A m c ds, e = .returned (.slice A m c) ∧ m ≤ L ∧ Dig w' A m c ds ∧ D.Bare ds ∧ D.val ds = V ∧ Below w.heap.size w w'
theorem DTells.wider {w w' : World} {V L M : Nat} {e : Ending} (h : DTells w V L e w') (hM : L ≤ M) : DTells w V M e w' := by
  obtain ⟨A, m, c, zs, h1, h2, h3⟩ := h
  exact ⟨A, m, c, zs, h1, Nat.le_trans h2 hM, h3⟩

/-- append(out, d): one digit more, as the walk meets it. -/
theorem app_digit (w : World) (B : Nat) (A : Option Addr) (n c : Nat) (ds : List Nat) (d : Nat) (I : Int) (hI : I = (d : Int)) (hown : Own .u32 69 w B (.slice A n c) ds) (hl : ds.length = n) (hB : B ≤ w.heap.size) (hn : n ≤ 1000000000) :
    ∃ A' c' w', (Builtin.append_ #[29, 29] 29 #[.slice A n c, .slice (some ⟨w.heap.size, 0, none⟩) 1 1]).run Tryd.prog (w.alloc (.cells #[.int .u32 I] 69)) = .ok (.slice A' (n + 1) c') w' ∧
      Own .u32 69 w' B (.slice A' (n + 1) c') (ds ++ [d]) ∧ Below B w w' := by
  subst hI
  have hb2 : Below w.heap.size w (w.alloc (.cells #[.int .u32 (d : Int)] 69)) := (Below.refl _ _).alloc (Nat.le_refl _) _
  have hr : Row .u32 (w.alloc (.cells #[.int .u32 (d : Int)] 69)) (some ⟨w.heap.size, 0, none⟩) 1 1 [d] :=
    ⟨rfl, Nat.le_refl _, fun _ => ⟨w.heap.size, 0, rfl, by simp, fun k hk => by obtain rfl : k = 0 := (by omega); simp [World.cell?_alloc_new]⟩⟩
  obtain ⟨v', w', hrun, ho, hb'⟩ := run_app (P := Tryd.prog) (T := 29) (ty := 29) Tryd.underlying29 info32 (hown.keep hb2) hr (Nat.le_trans hB hb2.size) (by rw [hl]; omega) (by rw [hl]; omega)
  obtain ⟨A', c', rfl, _⟩ := ho.row
  have el : (ds ++ [d]).length = n + 1 := by simp [hl]
  rw [el] at hrun ho
  exact ⟨A', c', w', hrun, ho, (hb2.mono hB).trans hb'⟩
/-- append([]uint32{}, a...). -/
theorem app_copy (w : World) (A : Option Addr) (n c : Nat) (ds : List Nat) (hA : Row .u32 w A n c ds) (hn : n ≤ 1000000000) :
    ∃ A' c' w', (Builtin.append_ #[29, 29] 29 #[.slice (some ⟨w.heap.size, 0, none⟩) 0 0, .slice A n c]).run Tryd.prog (w.alloc (.cells #[] 69)) = .ok (.slice A' n c') w' ∧
      Own .u32 69 w' w.heap.size (.slice A' n c') ds ∧ Below w.heap.size w w' := by
  have hb : Below w.heap.size w (w.alloc (.cells #[] 69)) := (Below.refl _ _).alloc (Nat.le_refl _) _
  have hown : Own .u32 69 (w.alloc (.cells #[] 69)) w.heap.size (.slice (some ⟨w.heap.size, 0, none⟩) 0 0) [] :=
    ⟨rfl, Or.inr ⟨w.heap.size, 0, #[], rfl, Nat.le_refl _, heap_alloc_new w _, Nat.le_refl _, Nat.zero_le _, rfl, rfl⟩⟩
  obtain ⟨v', w', hrun, ho, hb'⟩ := run_app (P := Tryd.prog) (T := 29) (ty := 29) Tryd.underlying29 info32 hown (hA.below hb) hb.size (by simp; omega) (by simp; omega)
  rw [List.nil_append] at ho
  obtain ⟨A1, c1, rfl, hr⟩ := ho.row
  rw [hA.len] at hrun ho
  exact ⟨A1, c1, w', hrun, ho, hb.trans hb'⟩
/-- What the call owns, as digits. -/
theorem Own.dig {w : World} {B : Nat} {A : Option Addr} {n c : Nat} {ds : List Nat} (h : Own .u32 69 w B (.slice A n c) ds) (hl : ds.length = n) (hw : D.Words ds) : Dig w A n c ds := by
  obtain ⟨A', c', e, hr⟩ := h.row
  injection e with e1 e2 e3
  subst e1; subst e3
  rw [hl] at hr
  exact ⟨hr, hw⟩
end Go.Proofs.YtafgooiakmmfkaaDoor
/- The walks of planimeterref01.Norm, To, Of and of planimeterlaw01.same. -/
namespace Go.Proofs.YtafgooiakmmfkaaDoor
open Go.RowKit

set_option maxHeartbeats 1000000 in
theorem norm_any (A : Option Addr) (n c : Nat) (ds : List Nat) (w : World) (h : Dig w A n c ds) (hn : n ≤ 1000000) :
    Calls Tryd.prog 66 #[.slice A n c] w (DTells w (D.val ds) n) := by
  have hc := h.le
  have HD := Lib.hid h
  clear h
  go_enter Tryd.func66, Tryd.ntmps66
  go_wp2
  go_loop [3] (fun i => ∃ k : Nat, k ≤ n ∧ i = .int .i64 k ∧ Hid (∀ j, k ≤ j → j < ds.length → ds.getD j 0 = 0)) (fun i => (intOf i).toNat)
  case atStart => exact ⟨n, Nat.le_refl _, rfl, fun j h1 h2 => by have := HD.out.len; omega⟩
  case round =>
    obtain ⟨k, hk, rfl, hz⟩ := hrel
    have fin : Hid (D.tl ds = k → ∃ A' c' w', (Builtin.append_ #[29, 29] 29 #[.slice (some ⟨w.heap.size, 0, none⟩) 0 0, .slice A k c]).run Tryd.prog (w.alloc (.cells #[] 69)) = .ok (.slice A' k c') w' ∧
        DTells w (D.val ds) n (.returned (.slice A' k c')) w') := fun e => by
      have hd := HD.out.take (m := k) hk
      obtain ⟨A', c', w', hrun, ho, hb⟩ := app_copy w A k c (ds.take k) hd.1 (by omega)
      refine ⟨A', c', w', hrun, A', k, c', ds.take k, rfl, hk, ho.dig hd.len hd.words, ?_, ?_, hb⟩
      · rw [← e]; exact D.bare_take ds
      · rw [← e]; exact D.val_take_tl ds
    cases k with
    | zero =>
      obtain ⟨A', c', w', hrun, hfin⟩ := fin.out (D.tl_eq (k := 0) hz.out (fun j hj => by omega))
      have Hrun := Lib.hid hrun
      have Hfin := Lib.hid hfin
      clear hrun hfin fin
      go_wp2_with (at_builtin; refine wpList_app (s := .tmp 18) (x := .tmp 21) (by rfl) rfl rfl rfl Hrun.out ?_)
      go_ret
      exact Hfin.out
    | succ k =>
      obtain ⟨b, o, rfl, hb, hcl⟩ := HD.out.at_ (by omega)
      have c1 := hcl k (by omega)
      clear hcl
      obtain ⟨x, hx⟩ : ∃ x, x = ds.getD k 0 := ⟨_, rfl⟩
      rw [← hx] at c1
      have Hx := Lib.hid hx
      clear hx
      by_cases h0 : x = 0
      · subst h0
        clear fin
        go_wp2
        go_round
        case rel => exact ⟨k, by omega, by go_num, fun j h1 h2 => by
          by_cases e : j = k
          · rw [e]; exact Hx.out.symm
          · exact hz.out j (by omega) h2⟩
        case measure => simp [intOf]
      · obtain ⟨A', c', w', hrun, hfin⟩ := fin.out (D.tl_eq (k := k + 1) hz.out (fun j hj => by obtain rfl : j = k := (by omega); rw [← Hx.out]; exact h0))
        have hb0 : ((x : Int) == 0) = false := beq_eq_false_iff_ne.2 (by omega)
        have Hrun := Lib.hid hrun
        have Hfin := Lib.hid hfin
        clear hrun hfin fin h0
        go_wp2_with (at_builtin; refine wpList_app (s := .tmp 18) (x := .tmp 21) (by rfl) rfl rfl rfl Hrun.out ?_)
        go_ret
        exact Hfin.out

theorem dig_step {x d x' k V Z : Nat} (hx : x = d + 65536 * x') (h : Z + D.pw k * x = V) : Z + D.pw k * d + D.pw (k + 1) * x' = V := by
  rw [hx, Nat.mul_add] at h
  rw [D.pw_succ, Nat.mul_comm 65536, Nat.mul_assoc]
  omega
theorem pw_dig (i : Nat) : D.pw (4 * i) = pw i := by
  rw [D.pw_two, pw_two]
  congr 1
  omega

set_option maxHeartbeats 2000000 in
set_option maxRecDepth 20000 in
theorem to_any (A : Option Addr) (n c : Nat) (xs : List Nat) (w : World) (h : Lim w A n c xs) (hn : n ≤ 100000) :
    Calls Tryd.prog 33 #[.slice A n c] w (DTells w (val xs) (4 * n)) := by
  have HA := Lib.hid h
  clear h
  go_enter Tryd.func33, Tryd.ntmps33
  go_wp2
  go_loopw [3, 4] (fun v i wr => ∃ (k m c1 : Nat) (A1 : Option Addr) (ds : List Nat), k ≤ n ∧ m ≤ 4 * k ∧ 4 * k ≤ m ∧ i = .int .i64 k ∧ v = .slice A1 m c1 ∧ Hid (ds.length = m) ∧ Hid (Own .u32 69 wr w.heap.size (.slice A1 m c1) ds) ∧ Hid (D.Words ds) ∧ Hid (D.val ds = val (xs.take k)) ∧ Below w.heap.size w wr) (fun _ i _ => n - (intOf i).toNat)
  case atStart => exact ⟨0, 0, 0, none, [], Nat.zero_le _, Nat.zero_le _, Nat.zero_le _, rfl, rfl, rfl, Own.nil _ _ _ _, D.Words.nil, by simp [Hid, D.val, val], Below.refl _ _⟩
  case round =>
    obtain ⟨k, m, c1, A1, ds, hk, hm1, hm2, rfl, rfl, Hl, Ho, Hw, HV, hb⟩ := hrel
    by_cases hlt : k < n
    · obtain ⟨b, o, rfl, hbl, hcl⟩ := HA.out.at_ (by omega)
      have c2 := (hb.cell (p := ⟨b, o + k, none⟩) hbl).trans (hcl k hlt)
      clear hcl
      have hxw := HA.out.words.getD k
      obtain ⟨x, hx⟩ : ∃ x, xs.getD k 0 = x := ⟨_, rfl⟩
      rw [hx] at c2 hxw
      have HE : Hid (D.val ds + D.pw m * x = val (xs.take (k + 1))) := by
        rw [HV.out, val_take_succ', hx, show m = 4 * k from by omega, pw_dig]; rfl
      have Hx := Lib.hid hx
      clear hx HV
      go_wp2
      clear c2
      go_loopw [3, 5, 6] (fun v y j wr2 => ∃ (q m2 c2 x2 : Nat) (A2 : Option Addr) (es : List Nat), q ≤ 4 ∧ m2 ≤ m + q ∧ m + q ≤ m2 ∧ j = .int .i64 q ∧ y = .int .u64 x2 ∧ v = .slice A2 m2 c2 ∧ Hid (x2 < D.pw (4 - q)) ∧ x2 < 18446744073709551616 ∧ Hid (es.length = m2) ∧ Hid (Own .u32 69 wr2 w.heap.size (.slice A2 m2 c2) es) ∧ Hid (D.Words es) ∧ Hid (D.val es + D.pw m2 * x2 = val (xs.take (k + 1))) ∧ Below w.heap.size w wr2) (fun _ _ j _ => 4 - (intOf j).toNat)
      case atStart => exact ⟨0, m, c1, x, A1, ds, Nat.zero_le _, Nat.le_refl _, Nat.le_refl _, rfl, rfl, rfl, hxw, hxw, Hl, Ho, Hw, HE, hb⟩
      case round =>
        obtain ⟨q, m2, c2, x2, A2, es, hq, hm3, hm4, rfl, rfl, rfl, Hx2, hx2, Hl2, Ho2, Hw2, HE2, hb2⟩ := hrel
        by_cases hq4 : q < 4
        · obtain ⟨dg, x3, hdx, hdg⟩ : ∃ dg x3, x2 = dg + 65536 * x3 ∧ dg < 65536 := ⟨x2 % 65536, x2 / 65536, by omega, by omega⟩
          have e1 : (x2 : Int) % 65536 = (dg : Int) := by omega
          have e2 : (x2 : Int) / 65536 = (x3 : Int) := by omega
          have hx3 : x3 < 18446744073709551616 := by omega
          have Hx3 : Hid (x3 < D.pw (4 - (q + 1))) := by
            have h1 := Hx2.out
            rw [show 4 - q = (4 - (q + 1)) + 1 from by omega, D.pw_succ] at h1
            show x3 < _
            omega
          have HE3 := Lib.hid (dig_step hdx HE2.out)
          obtain ⟨A3, c3, w3, hrun, ho3, hb3⟩ := app_digit wr w.heap.size A2 m2 c2 es dg dg rfl Ho2.out Hl2.out hb2.size (by omega)
          have Hrun := Lib.hid hrun
          have Ho3 := Lib.hid ho3
          have hb4 := hb2.trans hb3
          have Hl3 : Hid ((es ++ [dg]).length = m2 + 1) := by have := Hl2.out; simp [Hid]; omega
          have Hw3 : Hid (D.Words (es ++ [dg])) := Hw2.out.append (D.Words.one hdg)
          have HE4 : Hid (D.val (es ++ [dg]) + D.pw (m2 + 1) * x3 = val (xs.take (k + 1))) := by rw [D.val_snoc, Hl2.out]; exact HE3.out
          clear hrun ho3 hb3 hdx
          go_wp2_with (at_builtin; refine wpList_app (s := .tmp 21) (x := .tmp 25) (by rfl) rfl rfl rfl Hrun.out ?_)
          go_roundw
          case rel => exact ⟨q + 1, m2 + 1, c3, x3, A3, es ++ [dg], by omega, by omega, by omega, by go_num, rfl, rfl, Hx3, hx3, Hl3, Ho3, Hw3, HE4, hb4⟩
          case measure => simp [intOf]; omega
        · obtain rfl : q = 4 := by omega
          have hx0 : x2 = 0 := by
            have h1 := Hx2.out
            rw [show (4 : Nat) - 4 = 0 from rfl, D.pw_zero] at h1
            omega
          have HV3 : Hid (D.val es = val (xs.take (k + 1))) := by
            have := HE2.out
            rw [hx0] at this
            exact this
          clear hx0 HE2
          go_wp2
          go_roundw
          case rel => exact ⟨k + 1, m2, c2, A2, es, by omega, by omega, by omega, by go_num, rfl, Hl2, Ho2, Hw2, HV3, hb2⟩
          case measure => simp [intOf]; omega
    · obtain rfl : k = n := by omega
      have hV : D.val ds = val xs := by
        have := HV.out
        rw [List.take_of_length_le (by have := HA.out.len; omega)] at this
        exact this
      have hd := Ho.out.dig Hl.out Hw.out
      have hN := (norm_any A1 m c1 ds _ hd (by omega)).mono (R' := DTells w (val xs) (4 * k)) (fun e w' h => by
        obtain ⟨A', m', c', es, h1, h2, h3, h4, h5, h6⟩ := h
        exact ⟨A', m', c', es, h1, by omega, h3, h4, h5.trans hV, hb.trans (h6.mono hb.size)⟩)
      have HN := Lib.hid hN
      clear hV hd hN
      go_wp2_with fail
      refine HN.out.mono ?_
      intro e w' hr
      obtain ⟨A', m', c', es, rfl, h3⟩ := hr
      have H3 := Lib.hid h3
      clear h3
      go_wp2
      go_ret
      exact ⟨A', m', c', es, rfl, H3.out⟩
end Go.Proofs.YtafgooiakmmfkaaDoor
/- The walks of planimeterref01.Of and of planimeterlaw15.same. -/
namespace Go.Proofs.YtafgooiakmmfkaaDoor
open Go.RowKit

/-- Limb j, while the digits from k on have been taken. -/
def part (ds : List Nat) (k j : Nat) : Nat := D.val ((ds.drop (max k (4 * j))).take (4 * j + 4 - max k (4 * j)))

theorem part_step (ds : List Nat) (k : Nat) (hk : k < ds.length) : part ds k (k / 4) = ds.getD k 0 + 65536 * part ds (k + 1) (k / 4) := by
  unfold part
  rw [show max k (4 * (k / 4)) = k from by omega, show max (k + 1) (4 * (k / 4)) = k + 1 from by omega, D.drop_cons ds k hk,
    show 4 * (k / 4) + 4 - k = (4 * (k / 4) + 4 - (k + 1)) + 1 from by omega, List.take_succ_cons, D.val]
theorem part_other (ds : List Nat) (k j : Nat) (hj : j ≠ k / 4) : part ds k j = part ds (k + 1) j := by
  unfold part
  by_cases h : k + 1 ≤ 4 * j
  · rw [show max k (4 * j) = 4 * j from by omega, show max (k + 1) (4 * j) = 4 * j from by omega]
  · rw [show 4 * j + 4 - max k (4 * j) = 0 from by omega, show 4 * j + 4 - max (k + 1) (4 * j) = 0 from by omega]; simp
theorem part_start (ds : List Nat) (n j : Nat) (hn : ds.length ≤ n) : part ds n j = 0 := by
  unfold part
  rw [List.drop_of_length_le (by omega), List.take_nil]; rfl
theorem part_lt (ds : List Nat) (hw : D.Words ds) (k : Nat) : part ds (k + 1) (k / 4) < 281474976710656 := by
  unfold part
  have h1 := D.val_lt ((hw.drop (max (k + 1) (4 * (k / 4)))).take (4 * (k / 4) + 4 - max (k + 1) (4 * (k / 4))))
  have h2 : ((ds.drop (max (k + 1) (4 * (k / 4)))).take (4 * (k / 4) + 4 - max (k + 1) (4 * (k / 4)))).length ≤ 3 := by rw [List.length_take]; omega
  have h3 := D.pw_mono h2
  have h4 : D.pw 3 = 281474976710656 := by decide
  omega
theorem part_word (ds : List Nat) (hw : D.Words ds) (j : Nat) : part ds 0 j < 18446744073709551616 := by
  unfold part
  have h1 := D.val_lt ((hw.drop (max 0 (4 * j))).take (4 * j + 4 - max 0 (4 * j)))
  have h2 : ((ds.drop (max 0 (4 * j))).take (4 * j + 4 - max 0 (4 * j))).length ≤ 4 := by rw [List.length_take]; omega
  have h3 := D.pw_mono h2
  have h4 : D.pw 4 = 18446744073709551616 := by decide
  omega

/-- Digits as limbs. -/
def grp (ds : List Nat) : Nat → List Nat
  | 0 => []
  | m + 1 => grp ds m ++ [part ds 0 m]
theorem grp_len (ds : List Nat) (m : Nat) : (grp ds m).length = m := by
  induction m with
  | zero => rfl
  | succ m ih => rw [grp, List.length_append, ih]; rfl
theorem grp_getD (ds : List Nat) (m j : Nat) (hj : j < m) : (grp ds m).getD j 0 = part ds 0 j := by
  induction m with
  | zero => omega
  | succ m ih =>
    rw [grp, getD_snoc, grp_len]
    split
    · rename_i h; rw [h]
    · exact ih (by omega)
theorem grp_words (ds : List Nat) (hw : D.Words ds) (m : Nat) : Words (grp ds m) := by
  induction m with
  | zero => exact Words.nil
  | succ m ih => exact ih.append (Words.one (part_word ds hw m))
theorem grp_val (ds : List Nat) (m : Nat) : val (grp ds m) = D.val (ds.take (4 * m)) := by
  induction m with
  | zero => rfl
  | succ m ih =>
    rw [grp, val_snoc, grp_len, ih, ← pw_dig]
    unfold part
    rw [show max 0 (4 * m) = 4 * m from by omega, show 4 * m + 4 - 4 * m = 4 from by omega]
    by_cases h : 4 * m ≤ (ds.take (4 * (m + 1))).length
    · rw [D.val_split (ds.take (4 * (m + 1))) (4 * m) h, List.take_take, List.drop_take, show min (4 * m) (4 * (m + 1)) = 4 * m from by omega, show 4 * (m + 1) - 4 * m = 4 from by omega]
    · rw [List.length_take] at h
      rw [List.drop_of_length_le (by omega), List.take_nil, List.take_of_length_le (by omega), List.take_of_length_le (by omega)]
      simp [D.val]
theorem grp_bare (ds : List Nat) (hb : D.Bare ds) : Bare (grp ds ((ds.length + 3) / 4)) := by
  show tl _ = _
  apply tl_eq
  · intro j h1 h2; omega
  · intro j hj
    rw [grp_len] at hj
    rw [grp_getD _ _ _ (by omega)]
    have hne := D.getD_tl_pred (xs := ds) (j := ds.length - 1) (by rw [hb]; omega)
    intro h0
    apply hne
    unfold part at h0
    rw [show max 0 (4 * j) = 4 * j from by omega, show 4 * j + 4 - 4 * j = 4 from by omega] at h0
    have h2 := D.tl_zero_iff.2 h0
    have h3 := D.getD_of_tl (xs := (ds.drop (4 * j)).take 4) (j := ds.length - 1 - 4 * j) (by omega)
    rw [List.getD_eq_getElem?_getD, List.getElem?_take_of_lt (by omega), List.getElem?_drop, show 4 * j + (ds.length - 1 - 4 * j) = ds.length - 1 from by omega, ← List.getD_eq_getElem?_getD] at h3
    exact h3

set_option maxHeartbeats 2000000 in
theorem limbs_any (A : Option Addr) (n c : Nat) (ds : List Nat) (w : World) (h : Dig w A n c ds) (hn : n ≤ 1000000) :
    Calls Tryd.prog 42 #[.slice A n c] w fun e w' => e = .returned (.slice (some ⟨w.heap.size, 0, none⟩) ((n + 3) / 4) ((n + 3) / 4)) ∧ Lim w' (some ⟨w.heap.size, 0, none⟩) ((n + 3) / 4) ((n + 3) / 4) (grp ds ((n + 3) / 4)) ∧ Below w.heap.size w w' := by
  obtain ⟨M, hM⟩ : ∃ M, (n + 3) / 4 = M := ⟨_, rfl⟩
  rw [hM]
  have hmk := run_make_row' (P := Tryd.prog) 22 104 (.int .u64 0) 8 Tryd.underlying22 info64 rfl .i64 .i64 M (by omega) (by omega)
  have e1 : ((n : Int) + 3) / 4 = (M : Int) := by omega
  have HD := Lib.hid h
  have HM := Lib.hid hM
  have hM1 : n ≤ 4 * M := by omega
  have hM2 : M ≤ n := by omega
  clear h hM
  go_enter Tryd.func42, Tryd.ntmps42
  go_wp2
  clear hmk e1
  go_loopw [4] (fun i wr => ∃ k : Nat, k ≤ n ∧ i = .int .i64 ((k : Int) - 1) ∧ Below w.heap.size w wr ∧ Hid (wr.rowIs w.heap.size 104 M (fun j => .int .u64 ((part ds k j : Nat) : Int)))) (fun i _ => (intOf i + 1).toNat)
  case atStart => exact ⟨n, Nat.le_refl _, rfl, (Below.refl _ _).alloc (Nat.le_refl _) _, (World.rowIs_made w (.int .u64 0) M 104).congr (fun j _ => by rw [part_start ds n j (by rw [HD.out.len]; exact Nat.le_refl _)]; rfl)⟩
  case round =>
    obtain ⟨k, hk, rfl, hb, hR⟩ := hrel
    cases k with
    | zero =>
      have hl : Lim wr (some ⟨w.heap.size, 0, none⟩) M M (grp ds M) := Lim.row hR.out (grp_len ds M) (grp_words ds HD.out.words M) (fun k hk => by rw [grp_getD ds M k hk])
      have Hl := Lib.hid hl
      clear hl
      go_wp2
      go_ret
      exact ⟨rfl, Hl.out, hb⟩
    | succ k =>
      rw [show (((k + 1 : Nat) : Int) - 1) = (k : Int) from by omega]
      obtain ⟨b, o, rfl, hbl, hcl⟩ := HD.out.at_ (by omega)
      have c1 := (hb.cell (p := ⟨b, o + k, none⟩) hbl).trans (hcl k (by omega))
      clear hcl
      have hdw := HD.out.words.getD k
      have hst := part_step ds k (by have := HD.out.len; omega)
      have hlt := part_lt ds HD.out.words k
      obtain ⟨j, hj⟩ : ∃ j, k / 4 = j := ⟨_, rfl⟩
      have hjM : j < M := by omega
      have c2 := hR.out.cell (i := j) hjM
      have c3 := hR.out.frozen j
      have hR2 : Hid ((wr.setCell ⟨w.heap.size, j, none⟩ (.int .u64 ((part ds k j : Nat) : Int))).rowIs w.heap.size 104 M (fun j => .int .u64 ((part ds k j : Nat) : Int))) :=
        (hR.out.set j _).congr (fun i _ => by
          by_cases e : i = j
          · rw [if_pos e, e]
          · rw [if_neg e, part_other ds k i (by omega)])
      rw [hj] at hst hlt
      rw [hst] at hR2
      obtain ⟨x, hx⟩ : ∃ x, ds.getD k 0 = x := ⟨_, rfl⟩
      obtain ⟨y, hy⟩ : ∃ y, part ds (k + 1) j = y := ⟨_, rfl⟩
      rw [hx] at c1 hdw hR2
      rw [hy] at c2 hlt hR2
      have e1 : (k : Int) / 4 = (j : Int) := by omega
      have d1 : (j : Int) < (M : Int) := by omega
      have d2 : (k : Int) < (n : Int) := by omega
      have hbj : b ≠ w.heap.size := by omega
      have hb2 := hb.setCell (p := ⟨w.heap.size, j, none⟩) (Nat.le_refl _) (.int .u64 ((x + 65536 * y : Nat) : Int))
      clear hst hx hy hj hR
      go_wp2
      go_region
      go_wp2
      go_roundw
      case rel =>
        refine ⟨k, by omega, by go_num, ?_, ?_⟩
        · rw [show (y : Int) * 65536 + (x : Int) = ((x + 65536 * y : Nat) : Int) from by omega]
          exact hb2.drew
        · rw [show (y : Int) * 65536 + (x : Int) = ((x + 65536 * y : Nat) : Int) from by omega]
          exact hR2.out.drew
      case measure => simp [intOf]


end Go.Proofs.YtafgooiakmmfkaaDoor
/- The walk of planimeterref01.Add. -/
namespace Go.Proofs.YtafgooiakmmfkaaDoor
open Go.RowKit

theorem dadd_step {x y cn s t k X Y Z : Nat} (hs : s + 65536 * t = cn + x + y) (h : Z + D.pw k * cn = X + Y) : Z + D.pw k * s + D.pw (k + 1) * t = X + D.pw k * x + (Y + D.pw k * y) := by
  have e : D.pw (k + 1) * t = D.pw k * (65536 * t) := by rw [D.pw_succ, Nat.mul_assoc, ← Nat.mul_assoc, ← Nat.mul_assoc, Nat.mul_comm (D.pw k)]
  have e2 : D.pw k * (s + 65536 * t) = D.pw k * (cn + x + y) := by rw [hs]
  rw [Nat.mul_add, Nat.mul_add, Nat.mul_add] at e2
  omega
theorem dbare_of {es : List Nat} {k : Nat} (hw : D.Words es) (hl : es.length = k) (h : k = 0 ∨ D.pw (k - 1) ≤ D.val es) : D.Bare es := by
  show D.tl es = es.length
  have h1 := D.tl_le es
  rcases Nat.lt_or_ge (D.tl es) es.length with h2 | h2
  · exfalso
    have h3 := D.val_lt_tl hw
    have h4 : D.pw (D.tl es) ≤ D.pw (k - 1) := D.pw_mono (by omega)
    rcases h with h | h
    · omega
    · omega
  · omega
theorem dval_ge {ds : List Nat} {n : Nat} (hb : D.Bare ds) (hl : ds.length = n) : n = 0 ∨ D.pw (n - 1) ≤ D.val ds := by
  cases n with
  | zero => exact Or.inl rfl
  | succ j => exact Or.inr (D.val_pos_of_tl (by rw [hb, hl]; rfl))
theorem getD_past {ds : List Nat} {k : Nat} (h : ds.length ≤ k) : ds.getD k 0 = 0 := by
  rw [List.getD_eq_getElem?_getD, List.getElem?_eq_none h]; rfl

set_option maxHeartbeats 4000000 in
theorem radd_any (A : Option Addr) (n c : Nat) (us : List Nat) (B : Option Addr) (m d : Nat) (bs : List Nat) (w : World) (hA : Dig w A n c us) (hB : Dig w B m d bs) (ba : D.Bare us) (bb : D.Bare bs) (hn : n ≤ 1000000) (hm : m ≤ 1000000) :
    Calls Tryd.prog 45 #[.slice A n c, .slice B m d] w (DTells w (D.val us + D.val bs) (max n m + 1)) := by
  have HA := Lib.hid hA
  have HB := Lib.hid hB
  have Hga := Lib.hid (dval_ge ba hA.len)
  have Hgb := Lib.hid (dval_ge bb hB.len)
  clear hA hB ba bb
  go_enter Tryd.func45, Tryd.ntmps45
  go_wp2
  go_loopw [5, 6, 7] (fun v cy i wr => ∃ (k cn m1 c1 : Nat) (A1 : Option Addr) (es : List Nat), k ≤ max n m + 1 ∧ cn ≤ 1 ∧ m1 ≤ k ∧ k ≤ m1 ∧ i = .int .i64 k ∧ cy = .int .u32 cn ∧ v = .slice A1 m1 c1 ∧ Hid (es.length = m1) ∧ Hid (Own .u32 69 wr w.heap.size (.slice A1 m1 c1) es) ∧ Hid (D.Words es) ∧ Hid (D.val es + D.pw k * cn = D.val (us.take k) + D.val (bs.take k)) ∧ Hid (k ≤ max n m ∨ (cn = 0 ∧ D.pw (max n m) ≤ D.val us + D.val bs)) ∧ Below w.heap.size w wr) (fun _ _ i _ => max n m + 1 - (intOf i).toNat)
  case atStart => exact ⟨0, 0, 0, 0, none, [], Nat.zero_le _, Nat.zero_le _, Nat.zero_le _, Nat.zero_le _, rfl, rfl, rfl, rfl, Own.nil _ _ _ _, D.Words.nil, by simp [Hid, D.val], Or.inl (Nat.zero_le _), Below.refl _ _⟩
  case round =>
    obtain ⟨k, cn, m1, c1, A1, es, hk, hcn, hm1, hm2, rfl, rfl, rfl, Hl, Ho, Hw, HE, HM, hb⟩ := hrel
    obtain ⟨x, hx⟩ : ∃ x, us.getD k 0 = x := ⟨_, rfl⟩
    obtain ⟨y, hy⟩ : ∃ y, bs.getD k 0 = y := ⟨_, rfl⟩
    have hxw := HA.out.words.getD k
    have hyw := HB.out.words.getD k
    rw [hx] at hxw
    rw [hy] at hyw
    obtain ⟨s, t, hst, hs, ht⟩ : ∃ s t, s + 65536 * t = cn + x + y ∧ s < 65536 ∧ t ≤ 1 := ⟨(cn + x + y) % 65536, (cn + x + y) / 65536, by omega, by omega, by omega⟩
    have hm3 : m1 = k := by omega
    have HE' := Lib.hid (dadd_step hst HE.out)
    rw [← hx, ← hy, ← D.val_take_succ', ← D.val_take_succ'] at HE'
    obtain ⟨A3, c3, w3, hrun, ho3, hb3⟩ := app_digit wr w.heap.size A1 m1 c1 es s s rfl Ho.out Hl.out hb.size (by omega)
    have Hrun := Lib.hid hrun
    have Ho3 := Lib.hid ho3
    have hb4 := hb.trans hb3
    have Hl3 : Hid ((es ++ [s]).length = m1 + 1) := by have := Hl.out; simp [Hid]; omega
    have Hw3 : Hid (D.Words (es ++ [s])) := Hw.out.append (D.Words.one hs)
    have HE3 : Hid (D.val (es ++ [s]) + D.pw (k + 1) * t = D.val (us.take (k + 1)) + D.val (bs.take (k + 1))) := by rw [D.val_snoc, Hl.out, hm3]; exact HE'.out
    have Hst := Lib.hid hst
    have Hx := Lib.hid hx
    have Hy := Lib.hid hy
    have hla := HA.out.len
    have hlb := HB.out.len
    clear hrun ho3 hb3 hx hy hst HE' hm3
    by_cases h1 : k < n
    · have HM3 : Hid (k + 1 ≤ max n m ∨ (t = 0 ∧ D.pw (max n m) ≤ D.val us + D.val bs)) := Or.inl (by omega)
      by_cases h2 : k < m
      · obtain ⟨ba, oa, rfl, hba, hcl⟩ := HA.out.at_ (by omega)
        have ca := (hb.cell (p := ⟨ba, oa + k, none⟩) hba).trans (hcl k (by omega))
        rw [Hx.out] at ca
        clear hcl
        obtain ⟨bb, ob, rfl, hbb, hcl⟩ := HB.out.at_ (by omega)
        have cb := (hb.cell (p := ⟨bb, ob + k, none⟩) hbb).trans (hcl k (by omega))
        rw [Hy.out] at cb
        clear hcl
        have e1 : ((cn : Int) + (x : Int) + (y : Int)) % 65536 = (s : Int) := by have := Hst.out; omega
        have e2 : ((cn : Int) + (x : Int) + (y : Int)) / 65536 = (t : Int) := by have := Hst.out; omega
        have b1 : decide (k < n) = true := by simp; omega
        have b2 : decide (k < m) = true := by simp; omega
        clear hla hlb
        go_wp2_with (at_builtin; refine wpList_app (s := .tmp 46) (x := .tmp 49) (by rfl) rfl rfl rfl Hrun.out ?_)
        go_roundw
        case rel => exact ⟨k + 1, t, m1 + 1, c3, A3, es ++ [s], by omega, ht, by omega, by omega, by go_num, by first | rfl | rw [e2], rfl, Hl3, Ho3, Hw3, HE3, HM3, hb4⟩
        case measure => simp [intOf]; omega
      · obtain ⟨ba, oa, rfl, hba, hcl⟩ := HA.out.at_ (by omega)
        have ca := (hb.cell (p := ⟨ba, oa + k, none⟩) hba).trans (hcl k (by omega))
        rw [Hx.out] at ca
        clear hcl
        have hy0 : y = 0 := by rw [← Hy.out]; exact getD_past (by omega)
        have e1 : ((cn : Int) + (x : Int)) % 65536 = (s : Int) := by have := Hst.out; omega
        have e2 : ((cn : Int) + (x : Int)) / 65536 = (t : Int) := by have := Hst.out; omega
        have b1 : decide (k < n) = true := by simp; omega
        have b2 : decide (k < m) = false := by simp; omega
        clear hla hlb hy0
        go_wp2_with (at_builtin; refine wpList_app (s := .tmp 46) (x := .tmp 49) (by rfl) rfl rfl rfl Hrun.out ?_)
        go_roundw
        case rel => exact ⟨k + 1, t, m1 + 1, c3, A3, es ++ [s], by omega, ht, by omega, by omega, by go_num, by first | rfl | rw [e2], rfl, Hl3, Ho3, Hw3, HE3, HM3, hb4⟩
        case measure => simp [intOf]; omega
    · by_cases h2 : k < m
      · have HM3 : Hid (k + 1 ≤ max n m ∨ (t = 0 ∧ D.pw (max n m) ≤ D.val us + D.val bs)) := Or.inl (by omega)
        have hx0 : x = 0 := by rw [← Hx.out]; exact getD_past (by omega)
        obtain ⟨bb, ob, rfl, hbb, hcl⟩ := HB.out.at_ (by omega)
        have cb := (hb.cell (p := ⟨bb, ob + k, none⟩) hbb).trans (hcl k (by omega))
        rw [Hy.out] at cb
        clear hcl
        have e1 : ((cn : Int) + (y : Int)) % 65536 = (s : Int) := by have := Hst.out; omega
        have e2 : ((cn : Int) + (y : Int)) / 65536 = (t : Int) := by have := Hst.out; omega
        have b1 : decide (k < n) = false := by simp; omega
        have b2 : decide (k < m) = true := by simp; omega
        clear hla hlb hx0
        go_wp2_with (at_builtin; refine wpList_app (s := .tmp 46) (x := .tmp 49) (by rfl) rfl rfl rfl Hrun.out ?_)
        go_roundw
        case rel => exact ⟨k + 1, t, m1 + 1, c3, A3, es ++ [s], by omega, ht, by omega, by omega, by go_num, by first | rfl | rw [e2], rfl, Hl3, Ho3, Hw3, HE3, HM3, hb4⟩
        case measure => simp [intOf]; omega
      · have hx0 : x = 0 := by rw [← Hx.out]; exact getD_past (by omega)
        have hy0 : y = 0 := by rw [← Hy.out]; exact getD_past (by omega)
        have b1 : decide (k < n) = false := by simp; omega
        have b2 : decide (k < m) = false := by simp; omega
        have hta : us.take k = us := List.take_of_length_le (by omega)
        have htb : bs.take k = bs := List.take_of_length_le (by omega)
        have HEf : Hid (D.val es + D.pw k * cn = D.val us + D.val bs) := by have := HE.out; rw [hta, htb] at this; exact this
        by_cases h3 : cn = 1
        · have e1 : (cn : Int) % 65536 = (s : Int) := by have := Hst.out; omega
          have e2 : (cn : Int) / 65536 = (t : Int) := by have := Hst.out; omega
          have b3 : decide (0 < cn) = true := by simp; omega
          have hkM : k ≤ max n m := by
            rcases HM.out with h | ⟨h, _⟩
            · exact h
            · omega
          have HM3 : Hid (k + 1 ≤ max n m ∨ (t = 0 ∧ D.pw (max n m) ≤ D.val us + D.val bs)) := Or.inr ⟨by have := Hst.out; omega, by
            have h4 := HEf.out
            rw [h3, Nat.mul_one, show k = max n m from by omega] at h4
            omega⟩
          clear hla hlb hx0 hy0 hta htb h3
          go_wp2_with (at_builtin; refine wpList_app (s := .tmp 46) (x := .tmp 49) (by rfl) rfl rfl rfl Hrun.out ?_)
          go_roundw
          case rel => exact ⟨k + 1, t, m1 + 1, c3, A3, es ++ [s], by omega, ht, by omega, by omega, by go_num, by first | rfl | rw [e2], rfl, Hl3, Ho3, Hw3, HE3, HM3, hb4⟩
          case measure => simp [intOf]; omega
        · obtain rfl : cn = 0 := by omega
          have hV : D.val es = D.val us + D.val bs := by have := HEf.out; rw [Nat.mul_zero, Nat.add_zero] at this; exact this
          have hbare : D.Bare es := dbare_of Hw.out Hl.out (by
            rw [hV]
            rcases HM.out with h | ⟨_, h⟩
            · obtain rfl : m1 = max n m := by omega
              rcases Nat.le_total n m with hnm | hnm
              · rw [Nat.max_eq_right hnm]
                rcases Hgb.out with g | g
                · exact Or.inl g
                · exact Or.inr (by omega)
              · rw [Nat.max_eq_left hnm]
                rcases Hga.out with g | g
                · exact Or.inl g
                · exact Or.inr (by omega)
            · by_cases e : m1 ≤ max n m
              · obtain rfl : m1 = max n m := by omega
                have : D.pw (max n m - 1) ≤ D.pw (max n m) := D.pw_mono (by omega)
                exact Or.inr (by omega)
              · rw [show m1 - 1 = max n m from by omega]
                exact Or.inr h)
          have Hfin : Hid (DTells w (D.val us + D.val bs) (max n m + 1) (.returned (.slice A1 m1 c1)) wr) := ⟨A1, m1, c1, es, rfl, by omega, Ho.out.dig Hl.out Hw.out, hbare, hV, hb⟩
          clear hla hlb hx0 hy0 hta htb h3 hV hbare
          go_wp2
          go_ret
          exact Hfin.out
end Go.Proofs.YtafgooiakmmfkaaDoor
/- The walks of planimeterref01.Cmp and of nat.Bare. -/
namespace Go.Proofs.YtafgooiakmmfkaaDoor
open Go.RowKit

set_option maxHeartbeats 2000000 in
theorem rcmp_any (A : Option Addr) (n c : Nat) (us : List Nat) (B : Option Addr) (m d : Nat) (bs : List Nat) (w : World) (hA : Dig w A n c us) (hB : Dig w B m d bs) (ba : D.Bare us) (bb : D.Bare bs) (hn : n ≤ 1000000) (hm : m ≤ 1000000) :
    Calls Tryd.prog 46 #[.slice A n c, .slice B m d] w fun e w' => e = .returned (.int .i64 (cmpZ (D.val us) (D.val bs))) ∧ ∃ q, w' = w.drewN q := by
  have hta : D.tl us = n := by rw [ba, hA.len]
  have htb : D.tl bs = m := by rw [bb, hB.len]
  rcases Nat.lt_trichotomy n m with hlt | heq | hgt
  · have HV := Lib.hid (cmpZ_lt (D.val_lt_of_tl_lt (ys := bs) hA.words (by omega)))
    have b1 : ((n : Int) != (m : Int)) = true := by rw [bne_iff_ne]; omega
    have b2 : decide (n < m) = true := by simp; omega
    clear hta htb hA hB ba bb
    go_enter Tryd.func46, Tryd.ntmps46
    go_wp2
    go_ret
    exact ⟨by rw [HV.out]; rfl, 0, rfl⟩
  · subst heq
    have HA := Lib.hid hA
    have HB := Lib.hid hB
    clear hta htb hA hB ba bb
    have b1 : ((n : Int) != (n : Int)) = false := by simp
    go_enter Tryd.func46, Tryd.ntmps46
    go_wp2
    clear b1
    go_loopw [5] (fun i wr => ∃ k q : Nat, k ≤ n ∧ i = .int .i64 ((k : Int) - 1) ∧ wr = w.drewN q ∧ Hid (∀ j, k ≤ j → j < n → us.getD j 0 = bs.getD j 0)) (fun i _ => (intOf i + 1).toNat)
    case atStart => exact ⟨n, 0, Nat.le_refl _, rfl, rfl, fun j h1 h2 => by omega⟩
    case round =>
      obtain ⟨k, q, hk, rfl, rfl, hz⟩ := hrel
      have Hfa : Hid (us.take n = us) := List.take_of_length_le (by rw [HA.out.len]; exact Nat.le_refl _)
      have Hfb : Hid (bs.take n = bs) := List.take_of_length_le (by rw [HB.out.len]; exact Nat.le_refl _)
      cases k with
      | zero =>
        have HV := Lib.hid (cmpZ_eq (show D.val us = D.val bs by rw [← Hfa.out, ← Hfb.out]; exact D.take_congr (fun j hj => hz.out j (Nat.zero_le _) hj)))
        go_wp2
        go_ret
        exact ⟨by rw [HV.out]; rfl, q, rfl⟩
      | succ k =>
        rw [show (((k + 1 : Nat) : Int) - 1) = (k : Int) from by omega]
        obtain ⟨b, o, rfl, hb, hcl⟩ := HA.out.at_ (by omega)
        have c1 := hcl k (by omega)
        clear hcl
        obtain ⟨b', o', rfl, hb', hcl⟩ := HB.out.at_ (by omega)
        have c2 := hcl k (by omega)
        clear hcl
        obtain ⟨x, hx⟩ : ∃ x, us.getD k 0 = x := ⟨_, rfl⟩
        obtain ⟨y, hy⟩ : ∃ y, bs.getD k 0 = y := ⟨_, rfl⟩
        rw [hx] at c1
        rw [hy] at c2
        have Hx := Lib.hid hx
        have Hy := Lib.hid hy
        clear hx hy
        have hk1 : (k : Int) < (n : Int) := by omega
        rcases Nat.lt_trichotomy x y with hlt | heq | hgt
        · have b4 : decide (x < y) = true := by simp; omega
          have HV := Lib.hid (cmpZ_lt (show D.val us < D.val bs by
            rw [← Hfa.out, ← Hfb.out]
            exact D.val_lt_of_digit HA.out.words (i := k) (by omega) (by have := HA.out.len; omega) (by have := HB.out.len; omega) (fun j h1 h2 => hz.out j (by omega) h2) (by rw [Hx.out, Hy.out]; exact hlt)))
          go_wp2
          go_quiet (fail)
          go_wp2
          go_ret
          exact ⟨by rw [HV.out]; rfl, _, by first | rfl | (simp only [World.drewN_drewN]; rfl)⟩
        · subst heq
          have b4 : decide (x < x) = false := by simp
          go_wp2
          go_quiet (fail)
          go_wp2
          go_quiet (fail)
          go_wp2
          go_roundw
          case rel => exact ⟨k, _, by omega, by go_num, by first | rfl | (simp only [World.drewN_drewN]; rfl), fun j h1 h2 => by
            by_cases e : j = k
            · rw [e, Hx.out, Hy.out]
            · exact hz.out j (by omega) h2⟩
          case measure => simp [intOf]
        · have b4 : decide (x < y) = false := by simp; omega
          have b5 : decide (y < x) = true := by simp; omega
          have HV := Lib.hid (cmpZ_gt (show D.val bs < D.val us by
            rw [← Hfa.out, ← Hfb.out]
            exact D.val_lt_of_digit HB.out.words (i := k) (by omega) (by have := HB.out.len; omega) (by have := HA.out.len; omega) (fun j h1 h2 => (hz.out j (by omega) h2).symm) (by rw [Hx.out, Hy.out]; exact hgt)))
          go_wp2
          go_quiet (fail)
          go_wp2
          go_quiet (fail)
          go_wp2
          go_ret
          exact ⟨by rw [HV.out]; rfl, _, by first | rfl | (simp only [World.drewN_drewN]; rfl)⟩
  · have HV := Lib.hid (cmpZ_gt (D.val_lt_of_tl_lt (ys := us) hB.words (by omega)))
    have b1 : ((n : Int) != (m : Int)) = true := by rw [bne_iff_ne]; omega
    have b2 : decide (n < m) = false := by simp; omega
    clear hta htb hA hB ba bb
    go_enter Tryd.func46, Tryd.ntmps46
    go_wp2
    go_ret
    exact ⟨by rw [HV.out]; rfl, 0, rfl⟩

theorem size64 : (Tryd.prog.info? 104).map (·.size) = some 1 := by kernel_rfl


end Go.Proofs.YtafgooiakmmfkaaDoor
/- The walks of prod.squares and prod.Pow: any power of any number. -/
namespace Go.Proofs.YtafgooiakmmfkaaDoor
open Go.RowKit

theorem half_bit (k p : Nat) : k / 2 ^ p = 2 * (k / 2 ^ (p + 1)) + k / 2 ^ p % 2 := by
  rw [Nat.pow_succ, ← Nat.div_div_eq_div_mul]
  omega
theorem top_one {k : Nat} (hk : 1 ≤ k) : k / 2 ^ (blen k - 1) = 1 := by
  have h1 := blen_le (show k ≠ 0 by omega)
  have h2 := lt_blen k
  have h3 := blen_pos (show k ≠ 0 by omega)
  have h4 : 2 ^ blen k = 2 * 2 ^ (blen k - 1) := by
    rw [Nat.mul_comm, ← Nat.pow_succ]
    congr 1
    omega
  rw [h4] at h2
  apply Nat.div_eq_of_lt_le
  · omega
  · omega
theorem pow_le_of {X j k : Nat} (hX : 1 ≤ X) (h : j ≤ k) : X ^ j ≤ X ^ k := Nat.pow_le_pow_right hX h

theorem bits_and_i64_nat (a b : Nat) (ha : a < 9223372036854775808) (hb : b < 9223372036854775808) : bits .and .i64 (a : Int) (b : Int) = ((a &&& b : Nat) : Int) := by
  have hx : a &&& b < 2 ^ 63 := Nat.and_lt_two_pow _ (by omega)
  have h1 : (BitVec.ofInt 64 (a : Int)).toNat = a := by
    rw [BitVec.ofInt_natCast, BitVec.toNat_ofNat]; exact Nat.mod_eq_of_lt (by omega)
  have h2 : (BitVec.ofInt 64 (b : Int)).toNat = b := by
    rw [BitVec.ofInt_natCast, BitVec.toNat_ofNat]; exact Nat.mod_eq_of_lt (by omega)
  show IntKind.i64.wrap ((BitVec.ofInt 64 (a : Int) &&& BitVec.ofInt 64 (b : Int)).toNat : Int) = _
  rw [BitVec.toNat_and, h1, h2, IntKind.wrap_i64]
  omega
theorem and_one_i64 (k p : Nat) (hk : k < 9223372036854775808) : bits BinOp.and IntKind.i64 ((k : Int) / 2 ^ p) 1 = ((k / 2 ^ p % 2 : Nat) : Int) := by
  have h1 : k / 2 ^ p ≤ k := Nat.div_le_self _ _
  have h := bits_and_i64_nat (k / 2 ^ p) 1 (by omega) (by decide)
  rw [Nat.and_one_is_mod] at h
  rw [← h]
  congr 1

/-- What squares and Pow tell: the power, or that it is too long. -/
def PowTells (w : World) (V : Nat) (e : Ending) (w' : World) : Prop :=
  (blen V ≤ 65536 ∧ Tells2 w V 1024 (.int .i64 0) e w') ∨ (65536 < blen V ∧ e = .returned (.tuple #[.slice none 0 0, .int .i64 2]) ∧ Below w.heap.size w w')






end Go.Proofs.YtafgooiakmmfkaaDoor
/- What the walks of the laws share: new rows of limbs; Cmp with the world behind it a letter; facts on cmpZ. -/
namespace Go.Proofs.YtafgooiakmmfkaaDoor
open Go.RowKit

theorem lim_new1 (w : World) (t x : Nat) (X : Int) (hX : X = (x : Int)) (hx : x < 18446744073709551616) : Lim (w.alloc (.cells #[.int .u64 X] t)) (some ⟨w.heap.size, 0, none⟩) 1 1 [x] := by
  subst hX
  refine ⟨rfl, Nat.le_refl _, Words.one hx, fun _ => ⟨w.heap.size, 0, rfl, by simp, fun k hk => ?_⟩⟩
  obtain rfl : k = 0 := by omega
  simp [World.cell?_alloc_new]
theorem lim_new2 (w : World) (t x y : Nat) (X Y : Int) (hX : X = (x : Int)) (hY : Y = (y : Int)) (hx : x < 18446744073709551616) (hy : y < 18446744073709551616) : Lim (w.alloc (.cells #[.int .u64 X, .int .u64 Y] t)) (some ⟨w.heap.size, 0, none⟩) 2 2 [x, y] := by
  subst hX; subst hY
  refine ⟨rfl, Nat.le_refl _, Words.cons hx (Words.one hy), fun _ => ⟨w.heap.size, 0, rfl, by simp, fun k hk => ?_⟩⟩
  have : k = 0 ∨ k = 1 := by omega
  rcases this with rfl | rfl <;> simp [World.cell?_alloc_new]

theorem bare_one {x : Nat} (hx : x ≠ 0) : Bare [x] := by show (if (0 : Nat) = 0 then (if x = 0 then 0 else 1) else 0 + 1) = 1; simp [hx]

/-- Cmp, with the world behind it a letter. -/
theorem cmp_b (v : Int) (A : Option Addr) (n c : Nat) (xs : List Nat) (B : Option Addr) (m d : Nat) (ys : List Nat) (w : World) (hA : Lim w A n c xs) (hB : Lim w B m d ys) (hn : n ≤ 1099511627776) (hm : m ≤ 1099511627776) (hv : Hid (cmpZ (val xs) (val ys) = v)) :
    Calls Tryd.prog 84 #[.slice A n c, .slice B m d] w fun e w' => e = .returned (.int .i64 v) ∧ Below w.heap.size w w' := by
  rw [← hv.out]
  refine (cmp_any A n c xs B m d ys w hA hB hn hm).mono ?_
  rintro e w' ⟨rfl, q, rfl⟩
  exact ⟨rfl, below_drewN (Below.refl _ _) q⟩

theorem cmpZ_swap (x y : Nat) : cmpZ y x = - cmpZ x y := by
  rcases Nat.lt_trichotomy x y with h | h | h
  · rw [cmpZ_gt h, cmpZ_lt h]; rfl
  · rw [cmpZ_eq h, cmpZ_eq h.symm]; rfl
  · rw [cmpZ_lt h, cmpZ_gt h]
theorem cmpZ_bd (x y : Nat) : -1 ≤ cmpZ x y ∧ cmpZ x y ≤ 1 := by
  rcases Nat.lt_trichotomy x y with h | h | h
  · rw [cmpZ_lt h]; decide
  · rw [cmpZ_eq h]; decide
  · rw [cmpZ_gt h]; decide
theorem cmpZ_le {x y : Nat} (h : cmpZ x y ≤ 0) : x ≤ y := by
  rcases Nat.lt_or_ge y x with h' | h'
  · rw [cmpZ_gt h'] at h; omega
  · exact h'
theorem le_cmpZ {x y : Nat} (h : x ≤ y) : cmpZ x y ≤ 0 := by
  rcases Nat.lt_or_ge x y with h' | h'
  · rw [cmpZ_lt h']; decide
  · rw [cmpZ_eq (by omega)]; decide
end Go.Proofs.YtafgooiakmmfkaaDoor
/- The walk of planimeterlaw02.alive; products and powers by their lengths. -/
namespace Go.Proofs.YtafgooiakmmfkaaDoor
open Go.RowKit

theorem blen_two_pow (k : Nat) : blen (2 ^ k) = k + 1 := by
  apply blen_eq
  · exact Nat.pow_le_pow_right (by decide) (by omega)
  · exact Nat.pow_lt_pow_right (by decide) (by omega)
  · omega
theorem long_two (k : Nat) (hk : 65536 ≤ k) : 65536 < blen (val [2] ^ k) := by
  rw [show val [2] = 2 from by decide, blen_two_pow]; omega
theorem Lim.blen_le {w : World} {A : Option Addr} {n c : Nat} {xs : List Nat} (h : Lim w A n c xs) : blen (val xs) ≤ 64 * n := by
  have := tl_of_blen h.words
  have := h.tl_le
  omega

/-- Mul where both are short. -/
theorem mul_len (A : Option Addr) (n c : Nat) (xs : List Nat) (B : Option Addr) (m d : Nat) (ys : List Nat) (w : World) (hA : Lim w A n c xs) (hB : Lim w B m d ys) (hn : n + m ≤ 1024) :
    Calls Tryd.prog 60 #[.slice A n c, .slice B m d] w (Tells2 w (val xs * val ys) (n + m) (.int .i64 0)) :=
  mul_any A n c xs B m d ys w hA hB (by omega) (by omega) (Or.inr (Or.inr (by have := hA.blen_le; have := hB.blen_le; omega)))



end Go.Proofs.YtafgooiakmmfkaaDoor
/- The walk of nat.Shr. -/
namespace Go.Proofs.YtafgooiakmmfkaaDoor
open Go.RowKit

theorem Tab.below {w w' : World} (h : Tab w) (hb : Below w.heap.size w w') : Tab w' := fun j hj => by
  have hc := h j hj
  exact (hb.cell (p := ⟨0, j, none⟩) (World.block_lt_of_cell? _ _ hc)).trans hc

theorem getD_drop (ps : List Nat) (j k : Nat) : (ps.drop j).getD k 0 = ps.getD (j + k) 0 := by
  rw [List.getD_eq_getElem?_getD, List.getElem?_drop, ← List.getD_eq_getElem?_getD]

theorem pow64 {p : Nat} (hp : p ≤ 64) : (18446744073709551616 : Nat) = 2 ^ p * 2 ^ (64 - p) := by
  rw [← Nat.pow_add, show p + (64 - p) = 64 from by omega]
theorem shr_word (x y p : Nat) (hx : x < 18446744073709551616) (hp : p < 64) : x / 2 ^ p + y % 2 ^ p * 2 ^ (64 - p) < 18446744073709551616 := by
  have h64 := pow64 (p := p) (by omega)
  have h1 : x / 2 ^ p < 2 ^ (64 - p) := by rw [Nat.div_lt_iff_lt_mul (Nat.pow_pos (by decide)), Nat.mul_comm, ← h64]; exact hx
  have h2 : (y % 2 ^ p + 1) * 2 ^ (64 - p) ≤ 2 ^ p * 2 ^ (64 - p) := Nat.mul_le_mul_right _ (Nat.mod_lt _ (Nat.pow_pos (by decide)))
  rw [Nat.add_mul, Nat.one_mul, ← h64] at h2
  omega
theorem shr_or (x y p : Nat) (hx : x < 18446744073709551616) (hp : p < 64) :
    bits BinOp.or IntKind.u64 ((x : Int) / 2 ^ p) (IntKind.u64.wrap ((y : Int) * 2 ^ (64 - p))) = ((x / 2 ^ p + y % 2 ^ p * 2 ^ (64 - p) : Nat) : Int) := by
  have h64 := pow64 (p := p) (by omega)
  have h1 : x / 2 ^ p < 2 ^ (64 - p) := by rw [Nat.div_lt_iff_lt_mul (Nat.pow_pos (by decide)), Nat.mul_comm, ← h64]; exact hx
  have e1 : (x : Int) / 2 ^ p = ((x / 2 ^ p : Nat) : Int) := by simp
  have e2 : IntKind.u64.wrap ((y : Int) * 2 ^ (64 - p)) = ((y % 2 ^ p * 2 ^ (64 - p) : Nat) : Int) := by
    rw [IntKind.wrap_u64, show (y : Int) * 2 ^ (64 - p) = ((y * 2 ^ (64 - p) : Nat) : Int) from by simp]
    rw [show (18446744073709551616 : Int) = ((18446744073709551616 : Nat) : Int) from rfl, ← Int.natCast_emod, h64, Nat.mul_mod_mul_right]
  have hw := shr_word x y p hx hp
  rw [e1, e2, bits_or_u64_nat _ _ (Nat.lt_of_le_of_lt (Nat.le_add_right _ _) hw) (Nat.lt_of_le_of_lt (Nat.le_add_left _ _) hw)]
  have e3 := Nat.shiftLeft_add_eq_or_of_lt h1 (y % 2 ^ p)
  rw [Nat.shiftLeft_eq] at e3
  rw [Nat.or_comm, ← e3, Nat.add_comm]
theorem shr_step {x y p k Z V d : Nat} (hp : p ≤ 64) (h : Z * 2 ^ p + d = V + pw k * (x % 2 ^ p)) :
    (Z + pw k * (x / 2 ^ p + y % 2 ^ p * 2 ^ (64 - p))) * 2 ^ p + d = V + pw k * x + pw (k + 1) * (y % 2 ^ p) := by
  have h64 := pow64 hp
  have e1 : pw (k + 1) * (y % 2 ^ p) = pw k * (y % 2 ^ p * 2 ^ (64 - p) * 2 ^ p) := by
    rw [pw_succ, h64]
    simp only [Nat.mul_assoc, Nat.mul_comm, Nat.mul_left_comm]
  have e2 : pw k * x = pw k * (x / 2 ^ p * 2 ^ p) + pw k * (x % 2 ^ p) := by rw [← Nat.mul_add, Nat.div_add_mod']
  have e3 : (Z + pw k * (x / 2 ^ p + y % 2 ^ p * 2 ^ (64 - p))) * 2 ^ p = Z * 2 ^ p + pw k * (x / 2 ^ p * 2 ^ p) + pw k * (y % 2 ^ p * 2 ^ (64 - p) * 2 ^ p) := by
    rw [Nat.add_mul, Nat.mul_assoc, Nat.add_mul, Nat.mul_add, Nat.add_assoc]
  rw [e1, e2, e3]
  omega
theorem shr_end {ps zs : List Nat} {p wh d : Nat} (h : val zs * 2 ^ p + d % 2 ^ p = val (ps.drop wh)) (hw : wh ≤ ps.length) (hps : Words ps) : val zs = val ps / 2 ^ (64 * wh + p) := by
  have h1 := val_split ps wh hw
  have h2 := val_lt (hps.take wh)
  rw [List.length_take, Nat.min_eq_left hw] at h2
  rw [Nat.pow_add, ← Nat.div_div_eq_div_mul, ← pw_two, h1, Nat.add_mul_div_left _ _ (pw_pos wh), Nat.div_eq_of_lt h2, Nat.zero_add, ← h]
  rw [Nat.add_comm, Nat.mul_comm, Nat.add_mul_div_left _ _ (Nat.pow_pos (by decide)), Nat.div_eq_of_lt (Nat.mod_lt _ (Nat.pow_pos (by decide))), Nat.zero_add]

set_option maxHeartbeats 2000000 in
theorem shr_any (A : Option Addr) (n c : Nat) (xs : List Nat) (w : World) (hA : Lim w A n c xs) (hn : n ≤ 1099511627776) (hT : Tab w) (i : Int) (wh p : Nat) (hi : max i 0 = ((64 * wh + p : Nat) : Int)) (hp : p < 64) (hlt : wh < tl xs) :
    Calls Tryd.prog 80 #[.slice A n c, .int .i64 i] w (Tells2 w (val xs / 2 ^ (64 * wh + p)) n (.bool (decide (val xs % 2 ^ (64 * wh + p) ≠ 0)))) := by
  have hP := hA.trim
  have HX := Lib.hid (val_take_tl xs)
  have l1 := hA.tl_le
  obtain ⟨la, hla⟩ : ∃ l, tl xs = l := ⟨_, rfl⟩
  rw [hla] at l1 hP HX hlt
  have Hla := Lib.hid hla
  clear hla
  generalize xs.take la = ps at hP HX
  obtain ⟨N, hN⟩ : ∃ N, 64 * wh + p = N := ⟨_, rfl⟩
  rw [hN] at hi ⊢
  have e1 : (N : Int) / 64 = (wh : Int) := by omega
  have e2 : (N : Int) % 64 = (p : Int) := by omega
  obtain ⟨L, hL⟩ : ∃ L, la = wh + L := ⟨la - wh, by omega⟩
  have hmk := run_make_row' (P := Tryd.prog) 22 104 (.int .u64 0) 8 Tryd.underlying22 info64 rfl .i64 .i64 L (by omega) (by omega)
  have e3 : (la : Int) - (wh : Int) = (L : Int) := by omega
  have HN := Lib.hid hN
  have HL := Lib.hid hL
  have hL2 : L ≤ la := by omega
  have hL3 : la ≤ wh + L := by omega
  have hL4 : wh + L ≤ la := by omega
  have hN1 : N ≤ 64 * la := by omega
  clear hN hL
  have b0 : decide (la ≤ wh) = false := by simp; omega
  obtain ⟨r, hr⟩ : ∃ r, r = decide (val xs % 2 ^ N ≠ 0) := ⟨_, rfl⟩
  rw [← hr]
  have Hr := Lib.hid hr
  clear hr
  go_enter Tryd.func80, Tryd.ntmps80
  go_wp2_with fail
  refine (trim_to la A n c xs _ hA (by omega) Hla).mono ?_
  rintro e w' ⟨rfl, rfl⟩
  go_wp2_with fail
  clear hmk hi e1 e2 e3
  go_loopw [33] (fun i wr => ∃ (k : Nat) (zs : List Nat), k ≤ L ∧ i = .int .i64 k ∧ Hid (zs.length = k) ∧ Fill w wr w.heap.size 104 L zs ∧ Hid (val zs * 2 ^ p + ps.getD wh 0 % 2 ^ p = val ((ps.drop wh).take k) + pw k * (ps.getD (wh + k) 0 % 2 ^ p))) (fun i _ => L - (intOf i).toNat)
  case atStart => exact ⟨0, [], Nat.zero_le _, rfl, rfl, Fill.start w _ _, by simp [Hid, val, pw_zero]⟩
  case round =>
    obtain ⟨k, zs, hk, rfl, Hzl, hF, HE⟩ := hrel
    by_cases hkl : k < L
    · have hPr := hF.lim hP
      obtain ⟨b, o, hAe, hb, hcl⟩ := hP.at_ (by omega)
      subst hAe
      have c1 := (hF.below.cell (p := ⟨b, o + (wh + k), none⟩) hb).trans (hcl (wh + k) (by omega))
      clear hcl
      have c2 := hF.cell (j := k) (by omega)
      have c3 := hF.frozen k
      have hxw := hP.words.getD (wh + k)
      have hyw := hP.words.getD (wh + k + 1)
      obtain ⟨x, hx⟩ : ∃ x, ps.getD (wh + k) 0 = x := ⟨_, rfl⟩
      obtain ⟨y, hy⟩ : ∃ y, ps.getD (wh + k + 1) 0 = y := ⟨_, rfl⟩
      rw [hx] at c1 hxw
      rw [hy] at hyw
      have Hx := Lib.hid hx
      have Hy := Lib.hid hy
      have HF := Lib.hid hF
      clear hx hy hF
      have hat := at_any (some ⟨b, o, none⟩) la c ps (wh + k + 1)
      rw [Hy.out] at hat
      rw [show ((wh + k + 1 : Nat) : Int) = (wh : Int) + (k : Int) + 1 from by omega] at hat
      have Hat := Lib.hid hat
      clear hat
      have c4 : ∀ v, (wr.setCell ⟨w.heap.size, k, none⟩ v).cell? ⟨b, o + (wh + k), none⟩ = some (.int .u64 (x : Int)) := fun v => by
        rw [World.cell?_setCell_other _ _ _ _ (fun e => by have := congrArg Addr.block e; simp at this; omega)]; exact c1
      have d7 : IntKind.u64.wrap (64 - (p : Int)) = ((64 - p : Nat) : Int) := by rw [IntKind.wrap_u64]; omega
      have d1 : (wh : Int) + (k : Int) < (la : Int) := by omega
      have d2 : (k : Int) < (L : Int) := by omega
      have d3 : IntKind.i64.wrap ((wh : Int) + (k : Int)) = (wh : Int) + (k : Int) := IntWalk.i64_in _ (by omega)
      have d4 : IntKind.i64.wrap ((wh : Int) + (k : Int) + 1) = (wh : Int) + (k : Int) + 1 := IntWalk.i64_in _ (by omega)
      have d5 : ((wh : Int) + (k : Int)).toNat = wh + k := by omega
      have d6 : (0 : Int) ≤ (wh : Int) + (k : Int) := by omega
      go_wp2_with fail
      go_region_held3 (fun w' => w'.cell? ⟨b, o + (wh + k), none⟩ = some (.int .u64 (x : Int))) (go_keep)
        (first
          | (go_at_call 83; refine (Hat.out _ (by exact hPr) (by omega) (by omega)).mono ?_; rintro e w' ⟨rfl, rfl⟩))
      have HE2 := Lib.hid (shr_step (x := x) (y := y) (Nat.le_of_lt hp) (show val zs * 2 ^ p + ps.getD wh 0 % 2 ^ p = val ((ps.drop wh).take k) + pw k * (x % 2 ^ p) by rw [← Hx.out]; exact HE.out))
      go_wp2
      go_roundw
      case rel =>
        refine ⟨k + 1, zs ++ [x / 2 ^ p + y % 2 ^ p * 2 ^ (64 - p)], by omega, by go_num, ?_, ?_, ?_⟩
        · have := Hzl.out; simp [Hid]; omega
        · rw [shr_or x y p hxw hp]
          exact (HF.out.push Hzl.out.symm (by omega) (shr_word x y p hxw hp)).drewN 1
        · have e := HE2.out
          rw [show wh + (k + 1) = wh + k + 1 from by omega, Hy.out, val_snoc, Hzl.out, val_take_succ', getD_drop, Hx.out]
          exact e
      case measure => simp [intOf]; omega
    · obtain rfl : k = L := by omega
      have hlim := hF.done Hzl.out
      have HV : Hid (val zs = val xs / 2 ^ N) := by
        have e1 := HE.out
        have hlen := hP.len
        have e0 : ps.getD (wh + k) 0 = 0 := by rw [List.getD_eq_getElem?_getD, List.getElem?_eq_none (by omega)]; rfl
        rw [e0, List.take_of_length_le (by rw [List.length_drop]; omega), Nat.zero_mod, Nat.mul_zero, Nat.add_zero] at e1
        rw [← HX.out, ← HN.out]
        exact shr_end e1 (by omega) hP.words
      have hbel := hF.below
      have hTr := hT.below hbel
      have hPr := hF.lim hP
      have HR : Hid (r = decide (low (val ps) < N)) := by
        have h0 : 0 < val ps := by
          rcases Nat.eq_zero_or_pos (val ps) with h | h
          · rw [HX.out] at h
            have := tl_zero_iff.2 h
            rw [Hla.out] at this
            omega
          · exact h
        have := low_lt_iff (n := N) h0
        show r = decide (low (val ps) < N)
        rw [Hr.out]
        exact decide_eq_decide.2 (by rw [← HX.out]; exact this.symm)
      have hlow := low_any A la c ps _ hPr (by omega) hTr
      generalize low (val ps) = lw at hlow HR
      have Hlow := Lib.hid hlow
      clear HE hF hP hlow
      go_wp2_with fail
      refine (trim_any _ _ _ zs _ hlim (by omega)).mono ?_
      rintro e w' ⟨rfl, rfl⟩
      go_wp2_with fail
      refine Hlow.out.mono ?_
      rintro e w' ⟨rfl, rfl⟩
      go_wp2
      go_ret2
      rw [HR.out]
      exact tells2_trim hlim hbel HV.out (by omega) rfl

theorem shr_far (A : Option Addr) (n c : Nat) (xs : List Nat) (w : World) (hA : Lim w A n c xs) (hn : n ≤ 1099511627776) (i : Int) (hib : i ≤ 9223372036854775807) (wh N : Nat) (hi : max i 0 = (N : Int)) (hN : N / 64 = wh) (hge : tl xs ≤ wh) :
    Calls Tryd.prog 80 #[.slice A n c, .int .i64 i] w (Tells2 w (val xs / 2 ^ N) n (.bool (decide (val xs % 2 ^ N ≠ 0)))) := by
  have l1 := hA.tl_le
  have h1 : val xs < 2 ^ N := Nat.lt_of_lt_of_le (val_lt_tl hA.words) (by rw [pw_two]; exact Nat.pow_le_pow_right (by decide) (by omega))
  have hr : decide (val xs % 2 ^ N ≠ 0) = decide (0 < tl xs) := by
    rw [Nat.mod_eq_of_lt h1]
    have := tl_zero_iff (xs := xs)
    exact decide_eq_decide.2 ⟨fun h => Nat.pos_of_ne_zero (fun h' => h (this.1 h')), fun h h' => by have := this.2 h'; omega⟩
  rw [hr, Nat.div_eq_of_lt h1]
  obtain ⟨la, hla⟩ : ∃ l, tl xs = l := ⟨_, rfl⟩
  rw [hla] at l1 hge ⊢
  have Hla := Lib.hid hla
  have e1 : (N : Int) / 64 = (wh : Int) := by omega
  have g1 : N ≤ 9223372036854775807 := by omega
  have g2 : wh ≤ 144115188075855871 := by omega
  clear hla h1 hr hN
  have b0 : decide (la ≤ wh) = true := by simp; omega
  go_enter Tryd.func80, Tryd.ntmps80
  go_wp2_with fail
  refine (trim_to la A n c xs _ hA (by omega) Hla).mono ?_
  rintro e w' ⟨rfl, rfl⟩
  go_wp2
  go_ret2
  exact ⟨none, 0, 0, [], rfl, Nat.zero_le _, Lim.nil _ _ _, rfl, rfl, Below.refl _ _⟩

theorem shr_all (A : Option Addr) (n c : Nat) (xs : List Nat) (w : World) (hA : Lim w A n c xs) (hn : n ≤ 1099511627776) (hT : Tab w) (i : Int) (hib : i ≤ 9223372036854775807) :
    Calls Tryd.prog 80 #[.slice A n c, .int .i64 i] w (Tells2 w (val xs / 2 ^ i.toNat) n (.bool (decide (val xs % 2 ^ i.toNat ≠ 0)))) := by
  have hi : max i 0 = (i.toNat : Int) := by omega
  rcases Nat.lt_or_ge (i.toNat / 64) (tl xs) with h | h
  · have e : 64 * (i.toNat / 64) + i.toNat % 64 = i.toNat := by omega
    have := shr_any A n c xs w hA hn hT i (i.toNat / 64) (i.toNat % 64) (by rw [e]; exact hi) (by omega) h
    rwa [e] at this
  · exact shr_far A n c xs w hA hn i hib _ _ hi rfl h
end Go.Proofs.YtafgooiakmmfkaaDoor
/- The walk of nat.Shl. -/
namespace Go.Proofs.YtafgooiakmmfkaaDoor
open Go.RowKit

theorem shl_word (x q p : Nat) (hq : q < 2 ^ p) (hp : p < 64) : x % 2 ^ (64 - p) * 2 ^ p + q < 18446744073709551616 := by
  have h64 := pow64 (p := p) (by omega)
  have h2 : (x % 2 ^ (64 - p) + 1) * 2 ^ p ≤ 2 ^ (64 - p) * 2 ^ p := Nat.mul_le_mul_right _ (Nat.mod_lt _ (Nat.pow_pos (by decide)))
  rw [Nat.add_mul, Nat.one_mul, Nat.mul_comm (2 ^ (64 - p)), ← h64] at h2
  omega
theorem shl_or (x q p : Nat) (hq : q < 2 ^ p) (hp : p < 64) :
    bits BinOp.or IntKind.u64 (q : Int) (IntKind.u64.wrap ((x : Int) * 2 ^ p)) = ((x % 2 ^ (64 - p) * 2 ^ p + q : Nat) : Int) := by
  have h64 := pow64 (p := p) (by omega)
  have e2 : IntKind.u64.wrap ((x : Int) * 2 ^ p) = ((x % 2 ^ (64 - p) * 2 ^ p : Nat) : Int) := by
    rw [IntKind.wrap_u64, show (x : Int) * 2 ^ p = ((x * 2 ^ p : Nat) : Int) from by simp]
    rw [show (18446744073709551616 : Int) = ((18446744073709551616 : Nat) : Int) from rfl, ← Int.natCast_emod, h64, Nat.mul_comm (2 ^ p), Nat.mul_mod_mul_right]
  have hw := shl_word x q p hq hp
  rw [e2, bits_or_u64_nat _ _ (Nat.lt_of_le_of_lt (Nat.le_add_left _ _) hw) (Nat.lt_of_le_of_lt (Nat.le_add_right _ _) hw)]
  have e3 := Nat.shiftLeft_add_eq_or_of_lt hq (x % 2 ^ (64 - p))
  rw [Nat.shiftLeft_eq] at e3
  rw [Nat.or_comm, ← e3]
theorem shl_carry (x p : Nat) (hx : x < 18446744073709551616) (hp : p < 64) : x / 2 ^ (64 - p) < 2 ^ p := by
  have h64 := pow64 (p := p) (by omega)
  rw [Nat.div_lt_iff_lt_mul (Nat.pow_pos (by decide)), ← h64]
  exact hx
theorem shl_step {x q p wh k Z V : Nat} (hp : p < 64) (h : Z + pw (wh + k) * q = 2 ^ (64 * wh + p) * V) :
    Z + pw (wh + k) * (x % 2 ^ (64 - p) * 2 ^ p + q) + pw (wh + k + 1) * (x / 2 ^ (64 - p)) = 2 ^ (64 * wh + p) * (V + pw k * x) := by
  have h64 := pow64 (p := p) (by omega)
  have e1 : pw (wh + k + 1) * (x / 2 ^ (64 - p)) = pw (wh + k) * (2 ^ (64 - p) * (x / 2 ^ (64 - p)) * 2 ^ p) := by
    rw [pw_succ, h64]
    simp only [Nat.mul_assoc, Nat.mul_comm, Nat.mul_left_comm]
  have e2 : pw (wh + k) * (x % 2 ^ (64 - p) * 2 ^ p) + pw (wh + k) * (2 ^ (64 - p) * (x / 2 ^ (64 - p)) * 2 ^ p) = 2 ^ (64 * wh + p) * (pw k * x) := by
    rw [← Nat.mul_add, ← Nat.add_mul, Nat.mod_add_div, pw_add, pw_two wh, Nat.pow_add]
    simp only [Nat.mul_assoc, Nat.mul_comm, Nat.mul_left_comm]
  rw [e1, Nat.mul_add (pw (wh + k)), Nat.mul_add (2 ^ (64 * wh + p)), ← e2, ← h]
  omega
theorem val_zerosL (n : Nat) : val (List.replicate n 0) = 0 := by
  induction n with
  | zero => rfl
  | succ n ih => rw [List.replicate_succ, val, ih]
theorem Fill.zeros {w : World} {t L n : Nat} (hn : n ≤ L) : Fill w (w.alloc (.cells (madeCells #[.int .u64 0] L) t)) w.heap.size t L (List.replicate n 0) :=
  ⟨(Below.refl _ _).alloc (Nat.le_refl _) _, (World.rowIs_made w (.int .u64 0) L t).congr (fun j _ => by
    rw [List.getD_eq_getElem?_getD, List.getElem?_replicate]; split <;> rfl), by simp; omega, fun x hx => by rw [(List.mem_replicate.1 hx).2]; decide⟩

set_option maxHeartbeats 4000000 in
theorem shl_any (A : Option Addr) (n c : Nat) (xs : List Nat) (w : World) (hA : Lim w A n c xs) (hn : n ≤ 1099511627776) (wh p : Nat) (hp : p < 64) (h0 : 0 < tl xs) (hfit : blen (val xs) + (64 * wh + p) ≤ 65536) :
    Calls Tryd.prog 78 #[.slice A n c, .int .i64 ((64 * wh + p : Nat) : Int)] w (Tells2 w (val xs * 2 ^ (64 * wh + p)) (wh + n + 1) (.int .i64 0)) := by
  have hP := hA.trim
  have HX := Lib.hid (val_take_tl xs)
  have l1 := hA.tl_le
  obtain ⟨la, hla⟩ : ∃ l, tl xs = l := ⟨_, rfl⟩
  rw [hla] at l1 hP HX h0
  have Hla := Lib.hid hla
  clear hla
  generalize xs.take la = ps at hP HX
  have hbits := bits_any A la c ps w hP (by omega)
  rw [HX.out] at hbits
  generalize blen (val xs) = bl at hbits hfit
  have Hbits := Lib.hid hbits
  obtain ⟨N, hN⟩ : ∃ N, 64 * wh + p = N := ⟨_, rfl⟩
  rw [hN] at hfit ⊢
  have e1 : (N : Int) / 64 = (wh : Int) := by omega
  have e2 : (N : Int) % 64 = (p : Int) := by omega
  have hmk := run_make_row' (P := Tryd.prog) 22 104 (.int .u64 0) 8 Tryd.underlying22 info64 rfl .i64 .i64 (wh + la + 1) (by omega) (by omega)
  rw [show ((wh + la + 1 : Nat) : Int) = (wh : Int) + (la : Int) + 1 from by omega] at hmk
  have b0 : ((la : Int) == 0) = false := beq_eq_false_iff_ne.2 (by omega)
  have b1 : decide (65536 - (bl : Int) < (N : Int)) = false := by simp; omega
  have HN := Lib.hid hN
  have hN1 : N ≤ 65536 := by omega
  have hw1 : wh ≤ 1024 := by omega
  clear hN hbits
  go_enter Tryd.func78, Tryd.ntmps78
  go_wp2_with fail
  refine (trim_to la A n c xs _ hA (by omega) Hla).mono ?_
  rintro e w' ⟨rfl, rfl⟩
  go_wp2_with fail
  refine Hbits.out.mono ?_
  rintro e w' ⟨rfl, rfl⟩
  go_wp2_with fail
  clear hmk e1 e2 b0 b1 Hbits
  go_loopw [36] (fun i wr => ∃ (k q : Nat) (zs : List Nat), k ≤ la ∧ i = .int .i64 k ∧ Hid (zs.length = wh + k) ∧ q < 2 ^ p ∧ Fill w wr w.heap.size 104 (wh + la + 1) (zs ++ [q]) ∧ Hid (val zs + pw (wh + k) * q = 2 ^ (64 * wh + p) * val (ps.take k))) (fun i _ => la - (intOf i).toNat)
  case atStart => exact ⟨0, 0, List.replicate wh 0, Nat.zero_le _, rfl, by simp [Hid], Nat.pow_pos (by decide), by
      have := Fill.zeros (w := w) (t := 104) (L := wh + la + 1) (n := wh + 1) (by omega)
      rwa [List.replicate_succ'] at this, by simp [Hid, val, val_zerosL]⟩
  case round =>
    obtain ⟨k, q, zs, hk, rfl, Hzl, hq, hF, HE⟩ := hrel
    by_cases hkl : k < la
    · obtain ⟨b, o, hAe, hb, hcl⟩ := hP.at_ (by omega)
      subst hAe
      have c1 := (hF.below.cell (p := ⟨b, o + k, none⟩) hb).trans (hcl k hkl)
      clear hcl
      have c2 := hF.cell (j := wh + k) (by omega)
      rw [getD_snoc, if_pos Hzl.out.symm] at c2
      have c3 := hF.frozen (wh + k)
      have c4 := hF.cell (j := wh + k + 1) (by omega)
      have c5 := hF.frozen (wh + k + 1)
      have hxw := hP.words.getD k
      obtain ⟨x, hx⟩ : ∃ x, ps.getD k 0 = x := ⟨_, rfl⟩
      rw [hx] at c1 hxw
      have d7 : IntKind.u64.wrap (64 - (p : Int)) = ((64 - p : Nat) : Int) := by rw [IntKind.wrap_u64]; omega
      have HE2 := Lib.hid (shl_step (x := x) hp HE.out)
      have hqq := shl_carry x p hxw hp
      have HF1 := Lib.hid ((hF.again Hzl.out.symm (shl_word x q p hq hp)).push (z := x / 2 ^ (64 - p)) (k := wh + k + 1) (by have := Hzl.out; simp; omega) (by omega) (by
        have h64 := pow64 (p := p) (by omega)
        have : 2 ^ p * 1 ≤ 2 ^ p * 2 ^ (64 - p) := Nat.mul_le_mul_left _ (Nat.pow_pos (by decide))
        omega))
      have Hx := Lib.hid hx
      have Hor := Lib.hid (shl_or x q p hq hp)
      clear hx HE hF
      go_wp2
      go_roundw
      case rel =>
        refine ⟨k + 1, x / 2 ^ (64 - p), zs ++ [x % 2 ^ (64 - p) * 2 ^ p + q], by omega, by go_num, ?_, hqq, ?_, ?_⟩
        · have := Hzl.out; simp [Hid]; omega
        · rw [Hor.out, show (x : Int) / 2 ^ (64 - p) = ((x / 2 ^ (64 - p) : Nat) : Int) from by simp]
          exact HF1.out
        · have e := HE2.out
          rw [val_snoc, Hzl.out, val_take_succ', Hx.out]
          exact e
      case measure => simp [intOf]; omega
    · obtain rfl : k = la := by omega
      have hlim := hF.done (by have := Hzl.out; simp; omega)
      have HV : Hid (val (zs ++ [q]) = val xs * 2 ^ N) := by
        rw [val_snoc, Hzl.out]
        refine HE.out.trans ?_
        rw [List.take_of_length_le (by have := hP.len; omega), HX.out, HN.out, Nat.mul_comm]
      have hbel := hF.below
      clear HE hF hP
      go_wp2_with fail
      refine (trim_any _ _ _ (zs ++ [q]) _ hlim (by omega)).mono ?_
      rintro e w' ⟨rfl, rfl⟩
      go_wp2
      go_ret2
      exact tells2_trim hlim hbel HV.out (by omega) rfl

theorem shl_neg (A : Option Addr) (n c : Nat) (w : World) (i : Int) (hi : i < 0) :
    Calls Tryd.prog 78 #[.slice A n c, .int .i64 i] w fun e w' => e = .returned (.tuple #[.slice none 0 0, .int .i64 1]) ∧ w = w' := by
  go_enter Tryd.func78, Tryd.ntmps78
  go_wp2
  go_ret2
  exact ⟨rfl, rfl⟩

theorem shl_zero (A : Option Addr) (n c : Nat) (xs : List Nat) (w : World) (hA : Lim w A n c xs) (hn : n ≤ 1099511627776) (i : Int) (hi : 0 ≤ i) (h0 : val xs = 0) :
    Calls Tryd.prog 78 #[.slice A n c, .int .i64 i] w fun e w' => e = .returned (.tuple #[.slice none 0 0, .int .i64 0]) ∧ w = w' := by
  have Hla := Lib.hid (tl_zero_iff.2 h0)
  clear h0
  go_enter Tryd.func78, Tryd.ntmps78
  go_wp2_with fail
  refine (trim_to 0 A n c xs _ hA (by omega) Hla).mono ?_
  rintro e w' ⟨rfl, rfl⟩
  go_wp2
  go_ret2
  exact ⟨rfl, rfl⟩

theorem shl_long (A : Option Addr) (n c : Nat) (xs : List Nat) (w : World) (hA : Lim w A n c xs) (hn : n ≤ 1099511627776) (i : Int) (hi : 0 ≤ i) (hib : i ≤ 9223372036854775807) (h0 : val xs ≠ 0) (hlong : 65536 < blen (val xs) + i) :
    Calls Tryd.prog 78 #[.slice A n c, .int .i64 i] w fun e w' => e = .returned (.tuple #[.slice none 0 0, .int .i64 2]) ∧ w = w' := by
  have hP := hA.trim
  have l1 := hA.tl_le
  have hbits := bits_any A (tl xs) c (xs.take (tl xs)) w hP (by omega)
  rw [val_take_tl] at hbits
  have hbl : blen (val xs) ≤ 64 * tl xs := blen_le_iff.2 (by rw [← pw_two]; exact val_lt_tl hA.words)
  obtain ⟨la, hla⟩ : ∃ l, tl xs = l := ⟨_, rfl⟩
  have hne : tl xs ≠ 0 := fun h => h0 (tl_zero_iff.1 h)
  rw [hla] at hbits hne l1 hbl
  generalize blen (val xs) = bl at hbits hlong hbl
  have Hla := Lib.hid hla
  have Hbits := Lib.hid hbits
  have b0 : ((la : Int) == 0) = false := beq_eq_false_iff_ne.2 (by omega)
  have b1 : decide (65536 - (bl : Int) < i) = true := by simp; omega
  clear hla hbits h0 hP
  go_enter Tryd.func78, Tryd.ntmps78
  go_wp2_with fail
  refine (trim_to la A n c xs _ hA (by omega) Hla).mono ?_
  rintro e w' ⟨rfl, rfl⟩
  go_wp2_with fail
  refine Hbits.out.mono ?_
  rintro e w' ⟨rfl, rfl⟩
  go_wp2
  go_ret2
  exact ⟨rfl, rfl⟩

/-- Every shift that fits. -/
theorem shl_all (A : Option Addr) (n c : Nat) (xs : List Nat) (w : World) (hA : Lim w A n c xs) (hn : n ≤ 1099511627776) (k : Nat) (hfit : blen (val xs) + k ≤ 65536 ∨ val xs = 0) :
    Calls Tryd.prog 78 #[.slice A n c, .int .i64 (k : Int)] w (Tells2 w (val xs * 2 ^ k) (k + n + 1) (.int .i64 0)) := by
  by_cases h0 : val xs = 0
  · refine (shl_zero A n c xs w hA hn k (by omega) h0).mono ?_
    rintro e w' ⟨rfl, rfl⟩
    exact ⟨none, 0, 0, [], rfl, Nat.zero_le _, Lim.nil _ _ _, rfl, by rw [h0]; simp [val], Below.refl _ _⟩
  · have e : 64 * (k / 64) + k % 64 = k := by omega
    have h1 : 0 < tl xs := Nat.pos_of_ne_zero (fun h => h0 (tl_zero_iff.1 h))
    have := shl_any A n c xs w hA hn (k / 64) (k % 64) (by omega) h1 (by rw [e]; rcases hfit with h | h; exact h; exact absurd h h0)
    rw [e] at this
    exact this.mono fun _ _ h => h.wider (by omega)
end Go.Proofs.YtafgooiakmmfkaaDoor
/- From what the form reads to what the walks ask: a slice of limbs that came in; the table of math/bits. -/
namespace Go.Proofs.YtafgooiakmmfkaaDoor
open Go.ChangeShapes Go.WideShapes Go.ChangeAt Go.RowKit

theorem own : ownKnob Tryd.prog.godebug = none := by kernel_rfl
theorem laidOut : laidOutB Tryd.prog = true := by kernel_rfl
theorem gTab : Tryd.prog.globalNamed "math/bits.deBruijn64tab" = some 0 := by kernel_rfl
theorem gTabType : (Tryd.prog.globals[0]?).map (·.type) = some 148 := by kernel_rfl
theorem cellsTab : Tryd.prog.cellsOf 148 = 64 := by kernel_rfl
theorem cellsByte : Tryd.prog.cellsOf 5 = 1 := by kernel_rfl

theorem tab_of_laid {W : World} (h : laidMet Tryd.prog [("math/bits.deBruijn64tab", Rows.laid_math_bits_deBruijn64tab)] W) : Tab W := by
  have hT : Lib.TabIs Tryd.prog W "math/bits.deBruijn64tab" .u8 (Lib.deBruijn64tab.map (fun (z : Nat) => (z : Int))) :=
    Lib.tabIs_of_head (rest := []) gTab gTabType Tryd.underlying148 Tryd.underlying5 cellsByte cellsTab h
  intro j hj
  have := hT.cell gTab j (by simpa using hj)
  rw [this]
  simp only [List.getD_eq_getElem?_getD, List.getElem?_map, List.getElem?_eq_getElem hj, Option.map_some, Option.getD_some]

theorem lim_of_trod {H : Type} {enc : TypeId × Value → H} {W : World} {a : Option Addr} {len cap : Nat} {d : DataW H} {p : List MemPlace}
    (h : DataW.Trod enc Tryd.prog W 0 (fun _ => true) true 22 (.slice a len cap) d p) : ∃ xs, Lim W a len cap xs ∧ len ≤ 9223372036854775807 := by
  obtain ⟨fuel, hf⟩ := h
  rcases open_ints Tryd.underlying22 Tryd.underlying104 (by kernel_rfl) hf with ⟨hcs, _⟩ | ⟨x, l, c, zs, hcs, _, hl, hm, hz, _, hcell, hwz⟩
  · simp [Value.cells] at hcs
    obtain ⟨rfl, rfl, rfl⟩ := hcs
    exact ⟨[], Lim.nil _ _ _, by omega⟩
  · simp [Value.cells] at hcs
    obtain ⟨rfl, rfl, rfl⟩ := hcs
    have hz' : zs.length = cap := by simpa using hz
    unfold maxLen at hm
    have hb : ∀ j, j < zs.length → 0 ≤ zs.getD j 0 ∧ zs.getD j 0 ≤ 18446744073709551615 := fun j hj => by
      rw [List.getD_eq_getElem?_getD, List.getElem?_eq_getElem hj, Option.getD_some]
      exact bounds_u64 (hwz _ (List.getElem_mem hj))
    refine ⟨(zs.take len).map Int.toNat, ⟨by simp; omega, hl, ?_, fun hn => ?_⟩, by omega⟩
    · intro y hy
      obtain ⟨z, hzm, rfl⟩ := List.mem_map.1 hy
      have := bounds_u64 (hwz z (List.mem_of_mem_take hzm))
      omega
    · obtain ⟨b, off, spot⟩ := x
      have hc0 := hcell 0 (by omega)
      have hspot : spot = none := by simpa [Addr.add] using World.cell?_spot hc0
      subst hspot
      have hblk : b < W.heap.size := by
        have hc := hcell 0 (by omega)
        have := World.block_lt_of_cell? _ _ hc
        simpa [Addr.add] using this
      refine ⟨b, off, rfl, hblk, fun k hk => ?_⟩
      have hc := hcell k (by omega)
      have e : (⟨b, off, none⟩ : Addr).add k = ⟨b, off + k, none⟩ := by
        unfold Addr.add
        split
        · rename_i h; subst h; rfl
        · rfl
      rw [e] at hc
      rw [hc]
      have hbk := hb k (by omega)
      have e2 : ((zs.take len).map Int.toNat).getD k 0 = (zs.getD k 0).toNat := by
        rw [List.getD_eq_getElem?_getD, List.getElem?_map, List.getElem?_take_of_lt hk, List.getElem?_eq_getElem (by omega), List.getD_eq_getElem?_getD, List.getElem?_eq_getElem (by omega)]; rfl
      rw [e2, Int.toNat_of_nonneg hbk.1]
end Go.Proofs.YtafgooiakmmfkaaDoor
/- The walk of planimeterref01.Sub. -/
namespace Go.Proofs.YtafgooiakmmfkaaDoor
open Go.RowKit

section
variable {kd : IntKind} {t : TypeId} {w : World} {B n c : Nat} {A : Option Addr} {es : List Nat}
theorem Own.form (h : Own kd t w B (.slice A n c) es) (hl : es.length = n) (hn : 0 < n) : ∃ g, A = some ⟨g, 0, none⟩ ∧ B ≤ g := by
  obtain ⟨_, h | ⟨g, cap, cur, hv, hg, _⟩⟩ := h
  · obtain ⟨_, h⟩ := h; omega
  · injection hv with e1 e2 e3
    exact ⟨g, e1, hg⟩
theorem Own.cellAt {g : Nat} (h : Own kd t w B (.slice (some ⟨g, 0, none⟩) n c) es) (hl : es.length = n) {j : Nat} (hj : j < n) : w.cell? ⟨g, j, none⟩ = some (.int kd ((es.getD j 0 : Nat) : Int)) := by
  unfold Own at h
  rw [hl] at h
  rw [World.ownsRow.cellAt h j (by omega), List.getElem?_map, List.getD_eq_getElem?_getD, List.getElem?_eq_getElem (by omega)]
  rfl
theorem Own.frozenAt {g : Nat} (h : Own kd t w B (.slice (some ⟨g, 0, none⟩) n c) es) (hl : es.length = n) (j : Nat) : w.frozen? ⟨g, j, none⟩ = false := by
  unfold Own at h
  rw [hl] at h
  exact World.ownsRow.frozenAt h j
theorem Own.set {g : Nat} (h : Own kd t w B (.slice (some ⟨g, 0, none⟩) n c) es) (hl : es.length = n) (j z : Nat) : Own kd t (w.setCell ⟨g, j, none⟩ (.int kd (z : Int))) B (.slice (some ⟨g, 0, none⟩) n c) (es.set j z) := by
  unfold Own at h ⊢
  rw [hl] at h
  have := (World.ownsRow.stored h j (.int kd (z : Int))).1
  rw [List.length_set, hl, List.map_set]
  exact this
end

theorem dsub_step {x y bn s t k X Y Z : Nat} (hs : s + (bn + y) = x + 65536 * t) (h : Z + Y = X + D.pw k * bn) : Z + D.pw k * s + (Y + D.pw k * y) = X + D.pw k * x + D.pw (k + 1) * t := by
  have e : D.pw (k + 1) * t = D.pw k * (65536 * t) := by rw [D.pw_succ, Nat.mul_assoc, ← Nat.mul_assoc, ← Nat.mul_assoc, Nat.mul_comm (D.pw k)]
  have e2 : D.pw k * (s + (bn + y)) = D.pw k * (x + 65536 * t) := by rw [hs]
  rw [Nat.mul_add, Nat.mul_add, Nat.mul_add] at e2
  omega
theorem dsub_end {X Y Z bn k : Nat} (h : Z + Y = X + D.pw k * bn) (hb : bn ≤ 1) (hz : Z < D.pw k) (hle : Y ≤ X) : Z = X - Y := by
  have : bn = 0 ∨ bn = 1 := by omega
  rcases this with rfl | rfl
  · simp at h; omega
  · simp at h; omega
theorem set_take {es : List Nat} {k z : Nat} (hk : k < es.length) : D.val ((es.set k z).take (k + 1)) = D.val (es.take k) + D.pw k * z := by
  rw [D.val_take_succ _ k (by simpa using hk), List.take_set_of_le (Nat.le_refl _)]
  congr 2
  rw [List.getD_eq_getElem?_getD, List.getElem?_set_self hk]; rfl
theorem set_words {es : List Nat} {k z : Nat} (h : D.Words es) (hz : z < 65536) : D.Words (es.set k z) := by
  intro x hx
  rcases List.mem_or_eq_of_mem_set hx with h' | h'
  · exact h x h'
  · rw [h']; exact hz

set_option maxHeartbeats 4000000 in
theorem rsub_any (A : Option Addr) (n c : Nat) (us : List Nat) (B : Option Addr) (m d : Nat) (bs : List Nat) (w : World) (hA : Dig w A n c us) (hB : Dig w B m d bs) (bb : D.Bare bs) (hle : D.val bs ≤ D.val us) (hn : n ≤ 1000000) (hm : m ≤ 1000000) :
    Calls Tryd.prog 47 #[.slice A n c, .slice B m d] w (DTells w (D.val us - D.val bs) n) := by
  have hmn : m ≤ n := by
    have h1 := D.tl_le_of_val_le hA.words hle
    rw [bb, hB.len] at h1
    have := hA.tl_le
    omega
  have HA := Lib.hid hA
  have HB := Lib.hid hB
  have Hle := Lib.hid hle
  obtain ⟨A1, c1, w1, hrun, ho1, hb1⟩ := app_copy w A n c us hA.1 (by omega)
  have Hrun := Lib.hid hrun
  have Ho1 := Lib.hid ho1
  clear hA hB bb hle hrun ho1
  go_enter Tryd.func47, Tryd.ntmps47
  go_wp2_with (at_builtin; refine wpList_app (s := .tmp 9) (x := .tmp 10) (by rfl) rfl rfl rfl Hrun.out ?_)
  go_loopw [6, 7] (fun cy i wr => ∃ (k bn : Nat) (es : List Nat), k ≤ n ∧ bn ≤ 1 ∧ i = .int .i64 k ∧ cy = .int .u32 bn ∧ Hid (es.length = n) ∧ Hid (Own .u32 69 wr w.heap.size (.slice A1 n c1) es) ∧ Hid (D.Words es) ∧ Hid (∀ j, k ≤ j → es.getD j 0 = us.getD j 0) ∧ Hid (D.val (es.take k) + D.val (bs.take k) = D.val (us.take k) + D.pw k * bn) ∧ Below w.heap.size w wr) (fun _ i _ => n - (intOf i).toNat)
  case atStart => exact ⟨0, 0, us, Nat.zero_le _, Nat.zero_le _, rfl, rfl, HA.out.len, Ho1, HA.out.words, fun j _ => rfl, by simp [Hid, D.val], hb1⟩
  case round =>
    obtain ⟨k, bn, es, hk, hbn, rfl, rfl, Hl, Ho, Hw, Hr, HE, hb⟩ := hrel
    by_cases hlt : k < n
    · obtain ⟨g, rfl, hg⟩ := Ho.out.form Hl.out (by omega)
      have c2 := Ho.out.cellAt Hl.out hlt
      have c3 := Ho.out.frozenAt Hl.out k
      obtain ⟨x, hx⟩ : ∃ x, us.getD k 0 = x := ⟨_, rfl⟩
      obtain ⟨y, hy⟩ : ∃ y, bs.getD k 0 = y := ⟨_, rfl⟩
      have hxw := HA.out.words.getD k
      have hyw := HB.out.words.getD k
      rw [Hr.out k (Nat.le_refl _), hx] at c2
      rw [hx] at hxw
      rw [hy] at hyw
      have hlb := HB.out.len
      have key : ∀ s t, s + (bn + y) = x + 65536 * t → s < 65536 → Hid ((es.set k s).length = n) ∧ Hid (D.Words (es.set k s)) ∧ Hid (∀ j, k + 1 ≤ j → (es.set k s).getD j 0 = us.getD j 0) ∧ Hid (D.val ((es.set k s).take (k + 1)) + D.val (bs.take (k + 1)) = D.val (us.take (k + 1)) + D.pw (k + 1) * t) := by
        intro s t hst hs
        refine ⟨by have := Hl.out; simp [Hid]; exact this, set_words Hw.out hs, fun j hj => ?_, ?_⟩
        · rw [List.getD_eq_getElem?_getD, List.getElem?_set_ne (by omega), ← List.getD_eq_getElem?_getD]
          exact Hr.out j (by omega)
        · have h1 := dsub_step hst HE.out
          rw [← hx, ← hy, ← D.val_take_succ', ← D.val_take_succ'] at h1
          rw [set_take (by have := Hl.out; omega)]
          exact h1
      have Hkey := Lib.hid key
      have Hx := Lib.hid hx
      have Hy := Lib.hid hy
      clear key hx hy
      by_cases h1 : k < m
      · by_cases h2 : x < bn + y
        · obtain ⟨bb, ob, rfl, hbb, hcl⟩ := HB.out.at_ (by omega)
          have cb := (hb.cell (p := ⟨bb, ob + k, none⟩) hbb).trans (hcl k (by omega))
          rw [Hy.out] at cb
          have b1 : decide (k < m) = true := by simp; omega
          clear hcl
          obtain ⟨s, hs⟩ : ∃ s, s + (bn + y) = x + 65536 * 1 := ⟨x + 65536 - (bn + y), by omega⟩
          obtain ⟨k1, k2, k3, k4⟩ := Hkey.out s 1 hs (by omega)
          have e1 : (x : Int) + 65536 - ((bn : Int) + (y : Int)) = (s : Int) := by omega
          have b2 : decide ((x : Int) < (bn : Int) + (y : Int)) = true := by simp; omega
          have Hown := Lib.hid ((Ho.out.set Hl.out k (x + 65536)).set (by have := Hl.out; simp; exact this) k s)
          rw [List.set_set] at Hown
          have hbel := (hb.setCell (p := ⟨g, k, none⟩) hg (.int .u32 ((x + 65536 : Nat) : Int))).setCell (p := ⟨g, k, none⟩) hg (.int .u32 (s : Int))
          rw [show ((x + 65536 : Nat) : Int) = (x : Int) + 65536 from by omega] at hbel Hown
          clear hs
          go_wp2
          go_roundw
          case rel => exact ⟨k + 1, 1, es.set k s, by omega, by omega, by go_num, rfl, k1, Hown, k2, k3, k4, hbel⟩
          case measure => simp [intOf]; omega
        · obtain ⟨bb, ob, rfl, hbb, hcl⟩ := HB.out.at_ (by omega)
          have cb := (hb.cell (p := ⟨bb, ob + k, none⟩) hbb).trans (hcl k (by omega))
          rw [Hy.out] at cb
          have b1 : decide (k < m) = true := by simp; omega
          clear hcl
          obtain ⟨s, hs⟩ : ∃ s, s + (bn + y) = x + 65536 * 0 := ⟨x - (bn + y), by omega⟩
          obtain ⟨k1, k2, k3, k4⟩ := Hkey.out s 0 hs (by omega)
          have e1 : (x : Int) - ((bn : Int) + (y : Int)) = (s : Int) := by omega
          have b2 : decide ((x : Int) < (bn : Int) + (y : Int)) = false := by simp; omega
          have Hown := Lib.hid (Ho.out.set Hl.out k s)
          have hbel := hb.setCell (p := ⟨g, k, none⟩) hg (.int .u32 (s : Int))
          clear hs
          go_wp2
          go_roundw
          case rel => exact ⟨k + 1, 0, es.set k s, by omega, by omega, by go_num, rfl, k1, Hown, k2, k3, k4, hbel⟩
          case measure => simp [intOf]; omega
      · have hy00 : y = 0 := by rw [← Hy.out]; exact getD_past (by omega)
        by_cases h2 : x < bn
        · clear hy00
          have hy0 : y = 0 := by rw [← Hy.out]; exact getD_past (by omega)
          have b1 : decide (k < m) = false := by simp; omega
          obtain ⟨s, hs⟩ : ∃ s, s + (bn + y) = x + 65536 * 1 := ⟨x + 65536 - (bn + y), by omega⟩
          obtain ⟨k1, k2, k3, k4⟩ := Hkey.out s 1 hs (by omega)
          have e1 : (x : Int) + 65536 - ((bn : Int)) = (s : Int) := by omega
          have b2 : decide ((x : Int) < (bn : Int)) = true := by simp; omega
          have Hown := Lib.hid ((Ho.out.set Hl.out k (x + 65536)).set (by have := Hl.out; simp; exact this) k s)
          rw [List.set_set] at Hown
          have hbel := (hb.setCell (p := ⟨g, k, none⟩) hg (.int .u32 ((x + 65536 : Nat) : Int))).setCell (p := ⟨g, k, none⟩) hg (.int .u32 (s : Int))
          rw [show ((x + 65536 : Nat) : Int) = (x : Int) + 65536 from by omega] at hbel Hown
          clear hs hy0
          go_wp2
          go_roundw
          case rel => exact ⟨k + 1, 1, es.set k s, by omega, by omega, by go_num, rfl, k1, Hown, k2, k3, k4, hbel⟩
          case measure => simp [intOf]; omega
        · clear hy00
          have hy0 : y = 0 := by rw [← Hy.out]; exact getD_past (by omega)
          have b1 : decide (k < m) = false := by simp; omega
          obtain ⟨s, hs⟩ : ∃ s, s + (bn + y) = x + 65536 * 0 := ⟨x - (bn + y), by omega⟩
          obtain ⟨k1, k2, k3, k4⟩ := Hkey.out s 0 hs (by omega)
          have e1 : (x : Int) - ((bn : Int)) = (s : Int) := by omega
          have b2 : decide ((x : Int) < (bn : Int)) = false := by simp; omega
          have Hown := Lib.hid (Ho.out.set Hl.out k s)
          have hbel := hb.setCell (p := ⟨g, k, none⟩) hg (.int .u32 (s : Int))
          clear hs hy0
          go_wp2
          go_roundw
          case rel => exact ⟨k + 1, 0, es.set k s, by omega, by omega, by go_num, rfl, k1, Hown, k2, k3, k4, hbel⟩
          case measure => simp [intOf]; omega
    · obtain rfl : k = n := by omega
      have hV : D.val es = D.val us - D.val bs := by
        have e1 := HE.out
        rw [List.take_of_length_le (l := es) (by have := Hl.out; omega), List.take_of_length_le (l := bs) (by have := HB.out.len; omega), List.take_of_length_le (l := us) (by have := HA.out.len; omega)] at e1
        have e2 := D.val_lt Hw.out
        rw [Hl.out] at e2
        exact dsub_end e1 hbn e2 Hle.out
      have hN := (norm_any A1 k c1 es _ (Ho.out.dig Hl.out Hw.out) (by omega)).mono (R' := DTells w (D.val us - D.val bs) k) (fun e w' h => by
        obtain ⟨A', m', c', fs, h1, h2, h3, h4, h5, h6⟩ := h
        exact ⟨A', m', c', fs, h1, h2, h3, h4, h5.trans hV, hb.trans (h6.mono hb.size)⟩)
      have HN := Lib.hid hN
      clear hV hN
      go_wp2_with fail
      refine HN.out.mono ?_
      intro e w' hr
      obtain ⟨A', m', c', fs, rfl, h3⟩ := hr
      have H3 := Lib.hid h3
      clear h3
      go_wp2
      go_ret
      exact ⟨A', m', c', fs, rfl, H3.out⟩
end Go.Proofs.YtafgooiakmmfkaaDoor
/- The walks of planimeterref01.Bits, Bit and Double. -/
namespace Go.Proofs.YtafgooiakmmfkaaDoor
open Go.RowKit

theorem blen_top {lo x p : Nat} (hlo : lo < 2 ^ p) (hx : x ≠ 0) : blen (lo + 2 ^ p * x) = p + blen x := by
  have hx1 := blen_pos hx
  apply blen_eq
  · have h1 := blen_le hx
    have e : p + blen x - 1 = p + (blen x - 1) := by omega
    rw [e, Nat.pow_add]
    exact Nat.le_trans (Nat.mul_le_mul_left _ h1) (Nat.le_add_left _ _)
  · have h1 := lt_blen x
    rw [Nat.pow_add]
    have h2 : 2 ^ p * (x + 1) ≤ 2 ^ p * 2 ^ blen x := Nat.mul_le_mul_left _ h1
    rw [Nat.mul_add] at h2
    omega
  · omega
theorem blen_half {x : Nat} (hx : x ≠ 0) : blen x = blen (x / 2) + 1 := by
  have hx1 := blen_pos hx
  by_cases h1 : x = 1
  · subst h1; decide
  · have h2 : x / 2 ≠ 0 := by omega
    have h3 := blen_le hx
    have h4 := lt_blen x
    have h5 : 2 ≤ blen x := by
      rcases Nat.lt_or_ge (blen x) 2 with h | h
      · obtain h6 : blen x = 1 := by omega
        rw [h6] at h4; omega
      · exact h
    obtain ⟨j, hj⟩ : ∃ j, blen x = j + 2 := ⟨blen x - 2, by omega⟩
    rw [hj] at h3 h4
    rw [show j + 2 - 1 = j + 1 from rfl, Nat.pow_succ] at h3
    rw [Nat.pow_succ, Nat.pow_succ] at h4
    have := blen_eq (x := x / 2) (k := j + 1) (by rw [Nat.add_sub_cancel]; omega) (by rw [Nat.pow_succ]; omega) (by omega)
    omega

set_option maxHeartbeats 1000000 in
theorem rbits_any (A : Option Addr) (n c : Nat) (ds : List Nat) (w : World) (h : Dig w A n c ds) (hb : D.Bare ds) (hn : n ≤ 1000000) :
    Calls Tryd.prog 67 #[.slice A n c] w fun e w' => e = .returned (.int .i64 (blen (D.val ds) : Int)) ∧ w = w' := by
  cases n with
  | zero =>
    have HV : Hid (blen (D.val ds) = 0) := by
      have : ds = [] := List.eq_nil_of_length_eq_zero h.len
      subst this; rfl
    clear h hb
    go_enter Tryd.func67, Tryd.ntmps67
    go_wp2
    go_ret
    exact ⟨by rw [HV.out]; rfl, rfl⟩
  | succ j =>
    have hne := D.getD_tl_pred (xs := ds) (j := j) (by rw [hb, h.len])
    have hlo := D.val_lt (h.words.take j)
    rw [List.length_take, h.len, Nat.min_eq_left (by omega), D.pw_two] at hlo
    have hlast := D.val_take_succ ds j (by rw [h.len]; omega)
    rw [List.take_of_length_le (by rw [h.len]; exact Nat.le_refl _), D.pw_two] at hlast
    have hV : blen (D.val ds) = 16 * j + blen (ds.getD j 0) := by rw [hlast]; exact blen_top hlo hne
    obtain ⟨b, o, rfl, hbl, hcl⟩ := h.at_ (by omega)
    have c1 := hcl j (by omega)
    have hxw := h.words.getD j
    generalize ds.getD j 0 = x at c1 hV hxw hne
    have hxb := blen_le_iff.2 (show x < 2 ^ 16 from hxw)
    have b1 : (((j : Int) + 1) == 0) = false := beq_eq_false_iff_ne.2 (by omega)
    have HV := Lib.hid hV
    have Hxb := Lib.hid hxb
    clear hne hlo hlast hV hcl h hb hxb
    go_enter Tryd.func67, Tryd.ntmps67
    go_wp2
    clear b1 c1
    go_loop [3, 4] (fun i y => ∃ k z : Nat, k ≤ 16 ∧ z < 65536 ∧ i = .int .i64 (16 * (j : Int) + k) ∧ y = .int .u32 z ∧ Hid (k + blen z = blen x)) (fun _ y => (intOf y).toNat)
    case atStart => exact ⟨0, x, by omega, hxw, rfl, rfl, by show 0 + blen x = blen x; omega⟩
    case round =>
      obtain ⟨k, z, hk, hz, rfl, rfl, HE⟩ := hrel
      by_cases h0 : z = 0
      · subst h0
        have HF : Hid (blen (D.val ds) = 16 * j + k) := by
          rw [HV.out]
          have := HE.out
          rw [blen_zero] at this
          show _ = _
          omega
        go_wp2
        go_ret
        exact ⟨ret_int (a := 16 * (j : Int) + k) (by rw [HF.out]; omega), rfl⟩
      · have HE2 : Hid ((k + 1) + blen (z / 2) = blen x) := by
          have h1 := HE.out
          rw [blen_half h0] at h1
          show _ = _
          omega
        have hk2 : k + 1 ≤ 16 := by have h1 := HE2.out; have h2 := Hxb.out; omega
        have b2 : decide (0 < z) = true := by simp; omega
        have b3 : decide ((0 : Int) < (z : Int)) = true := by simp; omega
        go_wp2
        go_round
        case rel => exact ⟨k + 1, z / 2, hk2, by omega, by go_num, by go_num, HE2⟩
        case measure => simp [intOf]; omega

theorem bit_digit {lo d hi q r : Nat} (hlo : lo < 2 ^ (16 * q)) (hr : r < 16) : (lo + 2 ^ (16 * q) * (d + 65536 * hi)) / 2 ^ (16 * q + r) % 2 = d / 2 ^ r % 2 := by
  rw [Nat.pow_add, ← Nat.div_div_eq_div_mul, Nat.add_mul_div_left _ _ (Nat.pow_pos (by decide)), Nat.div_eq_of_lt hlo, Nat.zero_add]
  have e : 65536 * hi = 2 ^ r * (2 * (2 ^ (15 - r) * hi)) := by
    have : (65536 : Nat) = 2 ^ r * (2 * 2 ^ (15 - r)) := by
      rw [← Nat.pow_succ', ← Nat.pow_add, show r + (15 - r).succ = 16 from by omega]
    rw [this, Nat.mul_assoc, Nat.mul_assoc]
  rw [e, Nat.add_mul_div_left _ _ (Nat.pow_pos (by decide))]
  omega
theorem bit_past {ds : List Nat} {i : Nat} (hw : D.Words ds) (h : ds.length ≤ i / 16) : D.val ds / 2 ^ i % 2 = 0 := by
  have h1 := D.val_lt hw
  rw [D.pw_two] at h1
  have h2 : 2 ^ (16 * ds.length) ≤ 2 ^ i := Nat.pow_le_pow_right (by decide) (by omega)
  rw [Nat.div_eq_of_lt (by omega)]
theorem bit_at {ds : List Nat} {i : Nat} (hw : D.Words ds) (h : i / 16 < ds.length) : D.val ds / 2 ^ i % 2 = ds.getD (i / 16) 0 / 2 ^ (i % 16) % 2 := by
  have h1 := D.val_split ds (i / 16) (by omega)
  rw [D.drop_cons ds (i / 16) h, D.val] at h1
  have h2 := D.val_lt (hw.take (i / 16))
  rw [List.length_take, Nat.min_eq_left (by omega), D.pw_two] at h2
  rw [D.pw_two] at h1
  rw [h1]
  have := bit_digit (d := ds.getD (i / 16) 0) (hi := D.val (ds.drop (i / 16 + 1))) h2 (show i % 16 < 16 by omega)
  rw [show 16 * (i / 16) + i % 16 = i from by omega] at this
  exact this

set_option maxHeartbeats 1000000 in
theorem rbit_any (v : Nat) (A : Option Addr) (n c : Nat) (ds : List Nat) (i : Nat) (w : World) (h : Dig w A n c ds) (hn : n ≤ 1000000) (hi : i ≤ 1000000000) (hv : Hid (D.val ds / 2 ^ i % 2 = v)) :
    Calls Tryd.prog 34 #[.slice A n c, .int .i64 (i : Int)] w fun e w' => e = .returned (.int .u32 (v : Int)) ∧ w = w' := by
  obtain ⟨q, hq⟩ : ∃ q, i / 16 = q := ⟨_, rfl⟩
  obtain ⟨r, hr⟩ : ∃ r, i % 16 = r := ⟨_, rfl⟩
  have e1 : (i : Int) / 16 = (q : Int) := by omega
  have e2 : (i : Int) % 16 = (r : Int) := by omega
  have hr16 : r < 16 := by omega
  by_cases hlt : q < n
  · have HV := Lib.hid (hv.out.symm.trans (bit_at (i := i) h.words (by rw [h.len]; omega)))
    rw [hq, hr] at HV
    obtain ⟨b, o, rfl, hbl, hcl⟩ := h.at_ (by omega)
    have c1 := hcl q hlt
    have hxw := h.words.getD q
    generalize ds.getD q 0 = x at c1 HV hxw
    have b1 : decide (n ≤ q) = false := by simp; omega
    clear hcl h hq hr hv
    go_enter Tryd.func34, Tryd.ntmps34
    go_wp2
    clear c1 e1
    go_loop [5, 6] (fun y j => ∃ k z : Nat, k ≤ r ∧ z < 65536 ∧ j = .int .i64 k ∧ y = .int .u32 z ∧ Hid (z = x / 2 ^ k)) (fun _ j => r - (intOf j).toNat)
    case atStart => exact ⟨0, x, Nat.zero_le _, hxw, rfl, rfl, by simp [Hid]⟩
    case round =>
      obtain ⟨k, z, hk, hz, rfl, rfl, HE⟩ := hrel
      by_cases hkr : k < r
      · have HE2 : Hid (z / 2 = x / 2 ^ (k + 1)) := by rw [HE.out, Nat.div_div_eq_div_mul, Nat.pow_succ]; rfl
        go_wp2
        go_round
        case rel => exact ⟨k + 1, z / 2, by omega, by omega, by go_num, by go_num, HE2⟩
        case measure => simp [intOf]; omega
      · obtain rfl : k = r := by omega
        have HF : Hid (v = z % 2) := by rw [HV.out, HE.out]; rfl
        go_wp2
        go_ret
        exact ⟨ret_int (a := (z : Int) % 2) (by rw [HF.out]; omega), rfl⟩
  · have HV := Lib.hid (hv.out.symm.trans (bit_past (i := i) h.words (by rw [h.len]; omega)))
    have b1 : decide (n ≤ q) = true := by simp; omega
    clear h hq hr hv
    go_enter Tryd.func34, Tryd.ntmps34
    go_wp2
    go_ret
    exact ⟨by rw [HV.out]; rfl, rfl⟩

theorem ddbl_step {x cn s t k X Z mo : Nat} (hs : s + 65536 * t = cn + 2 * x) (h : Z + D.pw k * cn = 2 * X + mo) : Z + D.pw k * s + D.pw (k + 1) * t = 2 * (X + D.pw k * x) + mo := by
  have e : D.pw (k + 1) * t = D.pw k * (65536 * t) := by rw [D.pw_succ, Nat.mul_assoc, ← Nat.mul_assoc, ← Nat.mul_assoc, Nat.mul_comm (D.pw k)]
  have e2 : D.pw k * (s + 65536 * t) = D.pw k * (cn + 2 * x) := by rw [hs]
  have e3 : D.pw k * (2 * x) = 2 * (D.pw k * x) := by rw [← Nat.mul_assoc, Nat.mul_comm (D.pw k), Nat.mul_assoc]
  rw [Nat.mul_add, Nat.mul_add, e3] at e2
  omega

set_option maxHeartbeats 4000000 in
theorem rdouble_any (A : Option Addr) (n c : Nat) (us : List Nat) (mo : Nat) (w : World) (hA : Dig w A n c us) (ba : D.Bare us) (hmo : mo ≤ 1) (hn : n ≤ 1000000) :
    Calls Tryd.prog 68 #[.slice A n c, .int .u32 (mo : Int)] w (DTells w (2 * D.val us + mo) (n + 1)) := by
  have HA := Lib.hid hA
  have Hga := Lib.hid (dval_ge ba hA.len)
  clear hA ba
  go_enter Tryd.func68, Tryd.ntmps68
  go_wp2
  go_loopw [5, 6, 7] (fun v cy i wr => ∃ (k cn m1 c1 : Nat) (A1 : Option Addr) (es : List Nat), k ≤ n + 1 ∧ cn ≤ 1 ∧ m1 ≤ k ∧ k ≤ m1 ∧ i = .int .i64 k ∧ cy = .int .u32 cn ∧ v = .slice A1 m1 c1 ∧ Hid (es.length = m1) ∧ Hid (Own .u32 69 wr w.heap.size (.slice A1 m1 c1) es) ∧ Hid (D.Words es) ∧ Hid (D.val es + D.pw k * cn = 2 * D.val (us.take k) + mo) ∧ Hid (k ≤ n ∨ (cn = 0 ∧ D.pw n ≤ 2 * D.val us + mo)) ∧ Below w.heap.size w wr) (fun _ _ i _ => n + 1 - (intOf i).toNat)
  case atStart => exact ⟨0, mo, 0, 0, none, [], Nat.zero_le _, hmo, Nat.zero_le _, Nat.zero_le _, rfl, rfl, rfl, rfl, Own.nil _ _ _ _, D.Words.nil, by simp [Hid, D.val, D.pw_zero], Or.inl (Nat.zero_le _), Below.refl _ _⟩
  case round =>
    obtain ⟨k, cn, m1, c1, A1, es, hk, hcn, hm1, hm2, rfl, rfl, rfl, Hl, Ho, Hw, HE, HM, hb⟩ := hrel
    obtain ⟨x, hx⟩ : ∃ x, us.getD k 0 = x := ⟨_, rfl⟩
    have hxw := HA.out.words.getD k
    rw [hx] at hxw
    obtain ⟨s, t, hst, hs, ht⟩ : ∃ s t, s + 65536 * t = cn + 2 * x ∧ s < 65536 ∧ t ≤ 1 := ⟨(cn + 2 * x) % 65536, (cn + 2 * x) / 65536, by omega, by omega, by omega⟩
    have hm3 : m1 = k := by omega
    have HE' := Lib.hid (ddbl_step hst HE.out)
    rw [← hx, ← D.val_take_succ'] at HE'
    obtain ⟨A3, c3, w3, hrun, ho3, hb3⟩ := app_digit wr w.heap.size A1 m1 c1 es s s rfl Ho.out Hl.out hb.size (by omega)
    have Hrun := Lib.hid hrun
    have Ho3 := Lib.hid ho3
    have hb4 := hb.trans hb3
    have Hl3 : Hid ((es ++ [s]).length = m1 + 1) := by have := Hl.out; simp [Hid]; omega
    have Hw3 : Hid (D.Words (es ++ [s])) := Hw.out.append (D.Words.one hs)
    have HE3 : Hid (D.val (es ++ [s]) + D.pw (k + 1) * t = 2 * D.val (us.take (k + 1)) + mo) := by rw [D.val_snoc, Hl.out, hm3]; exact HE'.out
    have Hst := Lib.hid hst
    have Hx := Lib.hid hx
    have hla := HA.out.len
    clear hrun ho3 hb3 hx hst HE' hm3
    by_cases h1 : k < n
    · have HM3 : Hid (k + 1 ≤ n ∨ (t = 0 ∧ D.pw n ≤ 2 * D.val us + mo)) := Or.inl (by omega)
      obtain ⟨ba, oa, rfl, hba, hcl⟩ := HA.out.at_ (by omega)
      have ca := (hb.cell (p := ⟨ba, oa + k, none⟩) hba).trans (hcl k (by omega))
      rw [Hx.out] at ca
      clear hcl
      have e1 : ((cn : Int) + 2 * (x : Int)) % 65536 = (s : Int) := by have := Hst.out; omega
      have e2 : ((cn : Int) + 2 * (x : Int)) / 65536 = (t : Int) := by have := Hst.out; omega
      have b1 : decide (k < n) = true := by simp; omega
      clear hla
      go_wp2_with (at_builtin; refine wpList_app (s := .tmp 32) (x := .tmp 35) (by rfl) rfl rfl rfl Hrun.out ?_)
      go_roundw
      case rel => exact ⟨k + 1, t, m1 + 1, c3, A3, es ++ [s], by omega, ht, by omega, by omega, by go_num, by first | rfl | rw [e2], rfl, Hl3, Ho3, Hw3, HE3, HM3, hb4⟩
      case measure => simp [intOf]; omega
    · have hx0 : x = 0 := by rw [← Hx.out]; exact getD_past (by omega)
      have b1 : decide (k < n) = false := by simp; omega
      have hta : us.take k = us := List.take_of_length_le (by omega)
      have HEf : Hid (D.val es + D.pw k * cn = 2 * D.val us + mo) := by have := HE.out; rw [hta] at this; exact this
      by_cases h3 : cn = 1
      · have e1 : (cn : Int) % 65536 = (s : Int) := by have := Hst.out; omega
        have e2 : (cn : Int) / 65536 = (t : Int) := by have := Hst.out; omega
        have b3 : decide (0 < cn) = true := by simp; omega
        have hkM : k ≤ n := by
          rcases HM.out with h | ⟨h, _⟩
          · exact h
          · omega
        have HM3 : Hid (k + 1 ≤ n ∨ (t = 0 ∧ D.pw n ≤ 2 * D.val us + mo)) := Or.inr ⟨by have := Hst.out; omega, by
          have h4 := HEf.out
          rw [h3, Nat.mul_one, show k = n from by omega] at h4
          omega⟩
        clear hla hx0 hta h3
        go_wp2_with (at_builtin; refine wpList_app (s := .tmp 32) (x := .tmp 35) (by rfl) rfl rfl rfl Hrun.out ?_)
        go_roundw
        case rel => exact ⟨k + 1, t, m1 + 1, c3, A3, es ++ [s], by omega, ht, by omega, by omega, by go_num, by first | rfl | rw [e2], rfl, Hl3, Ho3, Hw3, HE3, HM3, hb4⟩
        case measure => simp [intOf]; omega
      · obtain rfl : cn = 0 := by omega
        have hV : D.val es = 2 * D.val us + mo := by have := HEf.out; rw [Nat.mul_zero, Nat.add_zero] at this; exact this
        have hbare : D.Bare es := dbare_of Hw.out Hl.out (by
          rw [hV]
          rcases HM.out with h | ⟨_, h⟩
          · obtain rfl : m1 = n := by omega
            rcases Hga.out with g | g
            · exact Or.inl g
            · exact Or.inr (by omega)
          · by_cases e : m1 ≤ n
            · obtain rfl : m1 = n := by omega
              have : D.pw (m1 - 1) ≤ D.pw m1 := D.pw_mono (by omega)
              exact Or.inr (by omega)
            · rw [show m1 - 1 = n from by omega]
              exact Or.inr h)
        have Hfin : Hid (DTells w (2 * D.val us + mo) (n + 1) (.returned (.slice A1 m1 c1)) wr) := ⟨A1, m1, c1, es, rfl, by omega, Ho.out.dig Hl.out Hw.out, hbare, hV, hb⟩
        clear hla hx0 hta h3 hV hbare
        go_wp2
        go_ret
        exact Hfin.out
end Go.Proofs.YtafgooiakmmfkaaDoor
/- The walks of planimeterref01.Shr and Shl. -/
namespace Go.Proofs.YtafgooiakmmfkaaDoor
open Go.RowKit

/-- Digits, with a second result. -/
def DTells2 (w : World) (V L : Nat) (u : Value) (e : Ending) (w' : World) : Prop :=
  ∃ A m c ds, e = .returned (.tuple #[.slice A m c, u]) ∧ m ≤ L ∧ Dig w' A m c ds ∧ D.Bare ds ∧ D.val ds = V ∧ Below w.heap.size w w'

theorem half_step (V j : Nat) : 2 * (V / 2 ^ (j + 1)) + V / 2 ^ j % 2 = V / 2 ^ j := by
  rw [Nat.pow_succ, ← Nat.div_div_eq_div_mul]
  omega
theorem mod_step (V k : Nat) : V % 2 ^ (k + 1) = V % 2 ^ k + 2 ^ k * (V / 2 ^ k % 2) := by
  rw [Nat.pow_succ, Nat.mod_mul]
theorem rest_step {V k v : Nat} {r : Bool} (hr : r = decide (V % 2 ^ k ≠ 0)) (hv : V / 2 ^ k % 2 = v) : (r || (v == 1)) = decide (V % 2 ^ (k + 1) ≠ 0) := by
  rw [mod_step, hv, hr]
  have hv2 : v < 2 := by rw [← hv]; exact Nat.mod_lt _ (by decide)
  have hp : 0 < 2 ^ k := Nat.pow_pos (by decide)
  have : v = 0 ∨ v = 1 := by omega
  rcases this with h | h
  · subst h; simp
  · subst h
    have : V % 2 ^ k + 2 ^ k * 1 ≠ 0 := by omega
    rw [decide_eq_true this]; simp

set_option maxHeartbeats 4000000 in
theorem rshr_pos (A : Option Addr) (n c : Nat) (ds : List Nat) (N : Nat) (hNb : N ≤ 9223372036854775807) (w : World) (hA : Dig w A n c ds) (ba : D.Bare ds) (hn : n ≤ 2600) :
    Calls Tryd.prog 35 #[.slice A n c, .int .i64 (N : Int)] w (DTells2 w (D.val ds / 2 ^ N) 100000 (.bool (decide (D.val ds % 2 ^ N ≠ 0)))) := by
  obtain ⟨V, hV⟩ : ∃ V, D.val ds = V := ⟨_, rfl⟩
  obtain ⟨R, hR⟩ : ∃ R, decide (V % 2 ^ N ≠ 0) = R := ⟨_, rfl⟩
  obtain ⟨Q, hQ⟩ : ∃ Q, V / 2 ^ N = Q := ⟨_, rfl⟩
  rw [hV, hR, hQ]
  have HR := Lib.hid hR
  have HQ := Lib.hid hQ
  have HV := Lib.hid hV
  have HA := Lib.hid hA
  obtain ⟨bl, hbl⟩ : ∃ bl, blen V = bl := ⟨_, rfl⟩
  have hblb : bl ≤ 16 * n := by
    rw [← hbl, ← hV]
    exact blen_le_iff.2 (by rw [← D.pw_two, ← hA.len]; exact D.val_lt hA.words)
  have Hlt : Hid (V < 2 ^ bl) := by rw [← hbl]; exact lt_blen V
  have hbits := rbits_any A n c ds w hA ba (by omega)
  rw [hV, hbl] at hbits
  have Hbits := Lib.hid hbits
  have b0 : decide ((N : Int) < 0) = false := by simp
  clear hR hQ hV hbl hbits hA ba
  go_enter Tryd.func35, Tryd.ntmps35
  go_wp2_with fail
  refine Hbits.out.mono ?_
  rintro e w' ⟨rfl, rfl⟩
  go_wp2_with fail
  clear Hbits b0
  go_loopw [7, 8] (fun v i wr => ∃ (j m1 c1 : Nat) (A1 : Option Addr) (es : List Nat), j ≤ bl ∧ m1 + j ≤ 2 * bl + 5 ∧ i = .int .i64 ((j : Int) - 1) ∧ v = .slice A1 m1 c1 ∧ Hid (N ≤ j ∨ j = bl) ∧ Hid (Dig wr A1 m1 c1 es) ∧ Hid (D.Bare es) ∧ Hid (D.val es = V / 2 ^ j) ∧ Below w.heap.size w wr) (fun _ i _ => (intOf i + 1).toNat)
  case atStart => exact ⟨bl, 0, 0, none, [], Nat.le_refl _, by omega, rfl, rfl, Or.inr rfl, Dig.nil _ _ _, rfl, by rw [Nat.div_eq_of_lt Hlt.out]; rfl, Below.refl _ _⟩
  case round =>
    obtain ⟨j, m1, c1, A1, es, hj, hm1, rfl, rfl, Hj, Hes, Hbe, HE, hb⟩ := hrel
    by_cases hc : N < j
    · obtain ⟨j, rfl⟩ : ∃ j', j = j' + 1 := ⟨j - 1, by omega⟩
      rw [show (((j + 1 : Nat) : Int) - 1) = (j : Int) from by omega]
      obtain ⟨v, hv⟩ : ∃ v, V / 2 ^ j % 2 = v := ⟨_, rfl⟩
      have hv2 : v ≤ 1 := by rw [← hv]; omega
      have hdb := half_step V j
      rw [hv] at hdb
      have Hdb := Lib.hid hdb
      have Hv := Lib.hid hv
      have hbit := rbit_any v A n c ds j wr (HA.out.below hb) (by omega) (by omega) (by rw [HV.out]; exact Hv)
      have Hbit := Lib.hid hbit
      have b2 : decide (N ≤ j) = true := by simp; omega
      clear hbit hdb hv
      go_wp2_with fail
      refine Hbit.out.mono ?_
      rintro e w' ⟨rfl, rfl⟩
      go_wp2_with fail
      refine (rdouble_any A1 m1 c1 es v _ Hes.out Hbe.out hv2 (by omega)).mono ?_
      rintro e w2 ⟨A2, m2, c2, fs, rfl, hm2, hfs, hbf, hvf, hb2⟩
      have Hfs := Lib.hid hfs
      have Hbf := Lib.hid hbf
      have Hvf : Hid (D.val fs = V / 2 ^ j) := by rw [hvf, HE.out]; exact Hdb.out
      have hb3 := hb.trans (hb2.mono hb.size)
      clear hfs hbf hvf hb2
      go_wp2
      go_roundw
      case rel => exact ⟨j, m2, c2, A2, fs, by omega, by omega, by go_num, rfl, Or.inl (by omega), Hfs, Hbf, Hvf, hb3⟩
      case measure => simp [intOf]
    · have HQ2 : Hid (D.val es = Q) := by
        rw [HE.out, ← HQ.out]
        rcases Hj.out with h | h
        · rw [show j = N from by omega]; rfl
        · have h1 := Hlt.out
          rw [h, Nat.div_eq_of_lt h1, Nat.div_eq_of_lt (Nat.lt_of_lt_of_le h1 (Nat.pow_le_pow_right (by decide) (by omega)))]; rfl
      have b2 : decide ((N : Int) ≤ (j : Int) - 1) = false := by simp; omega
      go_wp2_with fail
      clear b2
      go_loop [9, 10] (fun r i => ∃ (k : Nat) (rb : Bool), k ≤ N ∧ k ≤ bl ∧ i = .int .i64 k ∧ r = .bool rb ∧ Hid (rb = decide (V % 2 ^ k ≠ 0))) (fun _ i => bl - (intOf i).toNat)
      case atStart => exact ⟨0, false, Nat.zero_le _, Nat.zero_le _, rfl, rfl, by simp [Hid, Nat.mod_one]⟩
      case round =>
        obtain ⟨k, rb, hk1, hk2, rfl, rfl, Hrb⟩ := hrel
        by_cases hc2 : k < N ∧ k < bl
        · obtain ⟨h1, h2⟩ := hc2
          obtain ⟨v, hv⟩ : ∃ v, V / 2 ^ k % 2 = v := ⟨_, rfl⟩
          have hv2 : v = 0 ∨ v = 1 := by rw [← hv]; omega
          have hst := rest_step Hrb.out hv
          have Hst := Lib.hid hst
          have Hv := Lib.hid hv
          have hbit := rbit_any v A n c ds k wr (HA.out.below hb) (by omega) (by omega) (by rw [HV.out]; exact Hv)
          have Hbit := Lib.hid hbit
          have b3 : decide (k < N) = true := by simp; omega
          have b4 : decide (k < bl) = true := by simp; omega
          clear hbit hst hv
          cases rb with
          | true =>
            clear hv2
            go_wp2
            go_round
            case rel => exact ⟨k + 1, true, by omega, by omega, by go_num, rfl, by have := Hst.out; rw [Bool.true_or] at this; exact this⟩
            case measure => simp [intOf]; omega
          | false =>
            rcases hv2 with rfl | rfl
            · go_wp2_with fail
              refine Hbit.out.mono ?_
              rintro e w' ⟨rfl, rfl⟩
              go_wp2
              go_round
              case rel => exact ⟨k + 1, false, by omega, by omega, by go_num, rfl, Hst.out⟩
              case measure => simp [intOf]; omega
            · go_wp2_with fail
              refine Hbit.out.mono ?_
              rintro e w' ⟨rfl, rfl⟩
              go_wp2
              go_round
              case rel => exact ⟨k + 1, true, by omega, by omega, by go_num, rfl, Hst.out⟩
              case measure => simp [intOf]; omega
        · have HR2 : Hid (rb = R) := by
            rw [Hrb.out, ← HR.out]
            by_cases e : k = N
            · rw [e]; rfl
            · have h1 := Hlt.out
              have ek : k = bl := by omega
              rw [ek, Nat.mod_eq_of_lt h1, Nat.mod_eq_of_lt (Nat.lt_of_lt_of_le h1 (Nat.pow_le_pow_right (by decide) (by omega)))]; rfl
          have g : decide (k < N) = false ∨ (decide (k < N) = true ∧ decide (k < bl) = false) := by
            by_cases e : k < N
            · exact Or.inr ⟨by simp; omega, by simp; omega⟩
            · exact Or.inl (by simp; omega)
          have hfin : DTells2 w Q 100000 (.bool R) (.returned (.tuple #[.slice A1 m1 c1, .bool rb])) wr := by
            rw [HR2.out]
            exact ⟨A1, m1, c1, es, rfl, by omega, Hes.out, Hbe.out, HQ2.out, hb⟩
          have Hfin := Lib.hid hfin
          clear hfin hc2
          rcases g with b3 | ⟨b3, b4⟩
          all_goals
            go_wp2
            go_ret2
            exact Hfin.out

set_option maxHeartbeats 4000000 in
theorem rshr_neg (A : Option Addr) (n c : Nat) (ds : List Nat) (i : Int) (hi : i < 0) (w : World) (hA : Dig w A n c ds) (ba : D.Bare ds) (hn : n ≤ 2600) :
    Calls Tryd.prog 35 #[.slice A n c, .int .i64 i] w (DTells2 w (D.val ds / 2 ^ 0) 100000 (.bool (decide (D.val ds % 2 ^ 0 ≠ 0)))) := by
  obtain ⟨V, hV⟩ : ∃ V, D.val ds = V := ⟨_, rfl⟩
  obtain ⟨R, hR⟩ : ∃ R, decide (V % 2 ^ 0 ≠ 0) = R := ⟨_, rfl⟩
  obtain ⟨Q, hQ⟩ : ∃ Q, V / 2 ^ 0 = Q := ⟨_, rfl⟩
  rw [hV, hR, hQ]
  have HR := Lib.hid hR
  have HQ := Lib.hid hQ
  have HV := Lib.hid hV
  have HA := Lib.hid hA
  obtain ⟨bl, hbl⟩ : ∃ bl, blen V = bl := ⟨_, rfl⟩
  have hblb : bl ≤ 16 * n := by
    rw [← hbl, ← hV]
    exact blen_le_iff.2 (by rw [← D.pw_two, ← hA.len]; exact D.val_lt hA.words)
  have Hlt : Hid (V < 2 ^ bl) := by rw [← hbl]; exact lt_blen V
  have hbits := rbits_any A n c ds w hA ba (by omega)
  rw [hV, hbl] at hbits
  have Hbits := Lib.hid hbits
  have b0 : decide (i < 0) = true := by simpa using hi
  clear hR hQ hV hbl hbits hA ba
  go_enter Tryd.func35, Tryd.ntmps35
  go_wp2_with fail
  refine Hbits.out.mono ?_
  rintro e w' ⟨rfl, rfl⟩
  go_wp2_with fail
  clear Hbits b0
  go_loopw [7, 8] (fun v i wr => ∃ (j m1 c1 : Nat) (A1 : Option Addr) (es : List Nat), j ≤ bl ∧ m1 + j ≤ 2 * bl + 5 ∧ i = .int .i64 ((j : Int) - 1) ∧ v = .slice A1 m1 c1 ∧ Hid (0 ≤ j ∨ j = bl) ∧ Hid (Dig wr A1 m1 c1 es) ∧ Hid (D.Bare es) ∧ Hid (D.val es = V / 2 ^ j) ∧ Below w.heap.size w wr) (fun _ i _ => (intOf i + 1).toNat)
  case atStart => exact ⟨bl, 0, 0, none, [], Nat.le_refl _, by omega, rfl, rfl, Or.inr rfl, Dig.nil _ _ _, rfl, by rw [Nat.div_eq_of_lt Hlt.out]; rfl, Below.refl _ _⟩
  case round =>
    obtain ⟨j, m1, c1, A1, es, hj, hm1, rfl, rfl, Hj, Hes, Hbe, HE, hb⟩ := hrel
    by_cases hc : 0 < j
    · obtain ⟨j, rfl⟩ : ∃ j', j = j' + 1 := ⟨j - 1, by omega⟩
      rw [show (((j + 1 : Nat) : Int) - 1) = (j : Int) from by omega]
      obtain ⟨v, hv⟩ : ∃ v, V / 2 ^ j % 2 = v := ⟨_, rfl⟩
      have hv2 : v ≤ 1 := by rw [← hv]; omega
      have hdb := half_step V j
      rw [hv] at hdb
      have Hdb := Lib.hid hdb
      have Hv := Lib.hid hv
      have hbit := rbit_any v A n c ds j wr (HA.out.below hb) (by omega) (by omega) (by rw [HV.out]; exact Hv)
      have Hbit := Lib.hid hbit
      have b2 : decide ((0 : Int) ≤ (j : Int)) = true := by simp
      clear hbit hdb hv
      go_wp2_with fail
      refine Hbit.out.mono ?_
      rintro e w' ⟨rfl, rfl⟩
      go_wp2_with fail
      refine (rdouble_any A1 m1 c1 es v _ Hes.out Hbe.out hv2 (by omega)).mono ?_
      rintro e w2 ⟨A2, m2, c2, fs, rfl, hm2, hfs, hbf, hvf, hb2⟩
      have Hfs := Lib.hid hfs
      have Hbf := Lib.hid hbf
      have Hvf : Hid (D.val fs = V / 2 ^ j) := by rw [hvf, HE.out]; exact Hdb.out
      have hb3 := hb.trans (hb2.mono hb.size)
      clear hfs hbf hvf hb2
      go_wp2
      go_roundw
      case rel => exact ⟨j, m2, c2, A2, fs, by omega, by omega, by go_num, rfl, Or.inl (by omega), Hfs, Hbf, Hvf, hb3⟩
      case measure => simp [intOf]
    · have HQ2 : Hid (D.val es = Q) := by
        rw [HE.out, ← HQ.out]
        rcases Hj.out with h | h
        · rw [show j = 0 from by omega]; rfl
        · have h1 := Hlt.out
          rw [h, Nat.div_eq_of_lt h1, Nat.div_eq_of_lt (Nat.lt_of_lt_of_le h1 (Nat.pow_le_pow_right (by decide) (by omega)))]; rfl
      have b2 : decide (0 ≤ (j : Int) - 1) = false := by simp; omega
      go_wp2_with fail
      clear b2
      go_loop [9, 10] (fun r i => ∃ (k : Nat) (rb : Bool), k ≤ 0 ∧ k ≤ bl ∧ i = .int .i64 k ∧ r = .bool rb ∧ Hid (rb = decide (V % 2 ^ k ≠ 0))) (fun _ i => bl - (intOf i).toNat)
      case atStart => exact ⟨0, false, Nat.zero_le _, Nat.zero_le _, rfl, rfl, by simp [Hid, Nat.mod_one]⟩
      case round =>
        obtain ⟨k, rb, hk1, hk2, rfl, rfl, Hrb⟩ := hrel
        by_cases hc2 : k < 0 ∧ k < bl
        · obtain ⟨h1, h2⟩ := hc2
          exact absurd h1 (by omega)
        · have HR2 : Hid (rb = R) := by
            rw [Hrb.out, ← HR.out]
            by_cases e : k = 0
            · rw [e]; rfl
            · have h1 := Hlt.out
              have ek : k = bl := by omega
              rw [ek, Nat.mod_eq_of_lt h1, Nat.mod_eq_of_lt (Nat.lt_of_lt_of_le h1 (Nat.pow_le_pow_right (by decide) (by omega)))]; rfl
          have b3 : decide (k < 0) = false := by simp
          have hfin : DTells2 w Q 100000 (.bool R) (.returned (.tuple #[.slice A1 m1 c1, .bool rb])) wr := by
            rw [HR2.out]
            exact ⟨A1, m1, c1, es, rfl, by omega, Hes.out, Hbe.out, HQ2.out, hb⟩
          have Hfin := Lib.hid hfin
          clear hfin hc2
          go_wp2
          go_ret2
          exact Hfin.out

theorem rshr_any (A : Option Addr) (n c : Nat) (ds : List Nat) (i : Int) (w : World) (hA : Dig w A n c ds) (ba : D.Bare ds) (hn : n ≤ 2600) (hib : i ≤ 9223372036854775807) :
    Calls Tryd.prog 35 #[.slice A n c, .int .i64 i] w (DTells2 w (D.val ds / 2 ^ i.toNat) 100000 (.bool (decide (D.val ds % 2 ^ i.toNat ≠ 0)))) := by
  by_cases h : i < 0
  · have e : i.toNat = 0 := by omega
    rw [e]
    exact rshr_neg A n c ds i h w hA ba hn
  · obtain ⟨N, rfl⟩ := Int.eq_ofNat_of_zero_le (show 0 ≤ i by omega)
    rw [Int.toNat_natCast]
    exact rshr_pos A n c ds N (by omega) w hA ba hn

theorem dval_zeros (q : Nat) (ds : List Nat) : D.val (List.replicate q 0 ++ ds) = D.pw q * D.val ds := by
  rw [D.val_append, List.length_replicate]
  have : D.val (List.replicate q 0) = 0 := by
    induction q with
    | zero => rfl
    | succ q ih => rw [List.replicate_succ, D.val, ih]
  omega
/-- append(make([]uint32, q), a...). -/
theorem app_zeros (w : World) (A : Option Addr) (n c q : Nat) (ds : List Nat) (hA : Row .u32 w A n c ds) (hn : n ≤ 1000000) (hq : q ≤ 1000000) :
    ∃ A' c' w', (Builtin.append_ #[29, 29] 29 #[.slice (some ⟨w.heap.size, 0, none⟩) q q, .slice A n c]).run Tryd.prog (w.alloc (.cells (madeCells #[.int .u32 0] q) 69)) = .ok (.slice A' (q + n) c') w' ∧
      Own .u32 69 w' w.heap.size (.slice A' (q + n) c') (List.replicate q 0 ++ ds) ∧ Below w.heap.size w w' := by
  have hb : Below w.heap.size w (w.alloc (.cells (madeCells #[.int .u32 0] q) 69)) := (Below.refl _ _).alloc (Nat.le_refl _) _
  have hown : Own .u32 69 (w.alloc (.cells (madeCells #[.int .u32 0] q) 69)) w.heap.size (.slice (some ⟨w.heap.size, 0, none⟩) q q) (List.replicate q 0) := by
    refine ⟨by simp, Or.inr ⟨w.heap.size, q, madeCells #[.int .u32 0] q, by simp, Nat.le_refl _, heap_alloc_new w _, by simp, by unfold maxLen; omega, by rw [size_madeCells]; omega, ?_⟩⟩
    have hr := World.rowIs_made w (.int .u32 0) q 69
    apply List.ext_getElem?
    intro k
    by_cases hk : k < q
    · have hc := hr.cell hk
      rw [cell_of_row _ w.heap.size k (madeCells #[.int .u32 0] q) 69 (0, 0) (heap_alloc_new w _)] at hc
      rw [List.getElem?_take_of_lt (by simpa using hk), Array.getElem?_toList, hc, List.getElem?_map, List.getElem?_replicate, if_pos hk]
      rfl
    · rw [List.getElem?_eq_none (by rw [List.length_take, List.length_replicate]; omega), List.getElem?_eq_none (by simp; omega)]
  obtain ⟨v', w', hrun, ho, hb'⟩ := run_app (P := Tryd.prog) (T := 29) (ty := 29) Tryd.underlying29 info32 hown (hA.below hb) hb.size (by simp; omega) (by simp; omega)
  obtain ⟨A1, c1, rfl, hr⟩ := ho.row
  have el : (List.replicate q 0 ++ ds).length = q + n := by rw [List.length_append, List.length_replicate, hA.len]
  rw [el] at hrun ho
  exact ⟨A1, c1, w', hrun, ho, hb.trans hb'⟩

set_option maxHeartbeats 4000000 in
theorem rshl_any (A : Option Addr) (n c : Nat) (ds : List Nat) (N : Nat) (w : World) (hA : Dig w A n c ds) (ba : D.Bare ds) (hn : n ≤ 2600) (hN : N ≤ 24000) :
    Calls Tryd.prog 44 #[.slice A n c, .int .i64 (N : Int)] w (DTells w (D.val ds * 2 ^ N) 100000) := by
  cases n with
  | zero =>
    have hd : ds = [] := List.eq_nil_of_length_eq_zero hA.len
    subst hd
    have Hfin : Hid (DTells w (D.val [] * 2 ^ N) 100000 (.returned (.slice none 0 0)) w) := ⟨none, 0, 0, [], rfl, by omega, Dig.nil _ _ _, rfl, by simp [D.val], Below.refl _ _⟩
    clear hA ba
    go_enter Tryd.func44, Tryd.ntmps44
    go_wp2
    go_ret
    exact Hfin.out
  | succ n =>
    obtain ⟨q, hq⟩ : ∃ q, N / 16 = q := ⟨_, rfl⟩
    obtain ⟨r, hr⟩ : ∃ r, N % 16 = r := ⟨_, rfl⟩
    have e1 : (N : Int) / 16 = (q : Int) := by omega
    have e2 : (N : Int) % 16 = (r : Int) := by omega
    have hqb : q ≤ 1500 := by omega
    have hrb : r < 16 := by omega
    have hwz : D.Words (List.replicate q 0 ++ ds) := D.Words.append (fun x hx => by rw [(List.mem_replicate.1 hx).2]; decide) hA.words
    have hlen : (List.replicate q 0 ++ ds).length = q + (n + 1) := by rw [List.length_append, List.length_replicate, hA.len]
    have hv0 := dval_zeros q ds
    have hb0 : D.Bare (List.replicate q 0 ++ ds) := dbare_of hwz hlen (Or.inr (by
      rw [hv0, show q + (n + 1) - 1 = q + n from by omega, D.pw_add]
      exact Nat.mul_le_mul_left _ (D.val_pos_of_tl (by rw [ba, hA.len]))))
    obtain ⟨A1, c1, w1, hrun, ho, hb1⟩ := app_zeros w A (n + 1) c q ds hA.1 (by omega) (by omega)
    have hd1 := ho.dig hlen hwz
    have hV : D.val ds * 2 ^ N = 2 ^ r * D.val (List.replicate q 0 ++ ds) := by
      rw [hv0, D.pw_two, ← Nat.mul_assoc, ← Nat.pow_add, show r + 16 * q = N from by omega, Nat.mul_comm]
    obtain ⟨T, hT⟩ : ∃ T, D.val ds * 2 ^ N = T := ⟨_, rfl⟩
    rw [hT] at hV ⊢
    have HV := Lib.hid hV
    have Hd1 := Lib.hid hd1
    have Hb0 := Lib.hid hb0
    have Hrun := Lib.hid hrun
    have hmk := run_make_row' (P := Tryd.prog) 29 69 (.int .u32 0) 4 Tryd.underlying29 info32 rfl .i64 .i64 q (by omega) (by omega)
    have b0 : (((n : Int) + 1) == 0) = false := beq_eq_false_iff_ne.2 (by omega)
    clear hA ba hwz hlen hv0 hb0 hrun ho hd1 hV hT hq hr
    generalize List.replicate q 0 ++ ds = zs at HV Hd1 Hb0
    go_enter Tryd.func44, Tryd.ntmps44
    go_wp2_with (at_builtin; refine wpList_app (s := .tmp 12) (x := .tmp 13) (by rfl) rfl rfl rfl Hrun.out ?_)
    clear hmk e1 b0
    go_loopw [5, 6] (fun v i wr => ∃ (k m2 c2 : Nat) (A2 : Option Addr) (es : List Nat), k ≤ r ∧ m2 ≤ q + (n + 1) + k ∧ i = .int .i64 k ∧ v = .slice A2 m2 c2 ∧ Hid (Dig wr A2 m2 c2 es) ∧ Hid (D.Bare es) ∧ Hid (2 ^ (r - k) * D.val es = T) ∧ Below w.heap.size w wr) (fun _ i _ => r - (intOf i).toNat)
    case atStart => exact ⟨0, q + (n + 1), c1, A1, zs, Nat.zero_le _, Nat.le_refl _, rfl, rfl, Hd1, Hb0, HV.out.symm, hb1⟩
    case round =>
      obtain ⟨k, m2, c2, A2, es, hk, hm2, rfl, rfl, Hes, Hbe, HE, hb⟩ := hrel
      by_cases hkr : k < r
      · go_wp2_with fail
        refine (rdouble_any A2 m2 c2 es 0 _ Hes.out Hbe.out (by omega) (by omega)).mono ?_
        rintro e w2 ⟨A3, m3, c3, fs, rfl, hm3, hfs, hbf, hvf, hb2⟩
        have Hfs := Lib.hid hfs
        have Hbf := Lib.hid hbf
        have HE2 : Hid (2 ^ (r - (k + 1)) * D.val fs = T) := by
          rw [hvf, ← HE.out, show r - k = r - (k + 1) + 1 from by omega, Nat.pow_succ, Nat.add_zero, Nat.mul_assoc]; rfl
        have hb3 := hb.trans (hb2.mono hb.size)
        clear hfs hbf hvf hb2
        go_wp2
        go_roundw
        case rel => exact ⟨k + 1, m3, c3, A3, fs, by omega, by omega, by go_num, rfl, Hfs, Hbf, HE2, hb3⟩
        case measure => simp [intOf]; omega
      · obtain rfl : k = r := by omega
        have Hfin : Hid (DTells w T 100000 (.returned (.slice A2 m2 c2)) wr) := ⟨A2, m2, c2, es, rfl, by omega, Hes.out, Hbe.out, by have := HE.out; rwa [Nat.sub_self, Nat.pow_zero, Nat.one_mul] at this, hb⟩
        go_wp2
        go_ret
        exact Hfin.out
end Go.Proofs.YtafgooiakmmfkaaDoor
/- The walks of planimeterref01.Num and of planimeterref02.Mul, Pow. -/
namespace Go.Proofs.YtafgooiakmmfkaaDoor
open Go.RowKit

theorem D.val_set (zs : List Nat) (k z : Nat) (hk : k < zs.length) : D.val (zs.set k z) + D.pw k * zs.getD k 0 = D.val zs + D.pw k * z := by
  induction zs generalizing k with
  | nil => simp at hk
  | cons x xs ih =>
    cases k with
    | zero => rw [List.set_cons_zero, D.val, D.val, D.pw_zero, D.getD_cons_zero]; omega
    | succ k =>
      rw [List.length_cons] at hk
      have := ih k (by omega)
      rw [List.set_cons_succ, D.val, D.val, D.pw_succ, D.getD_cons_succ, Nat.mul_assoc, Nat.mul_assoc]
      omega
theorem getD_set (zs : List Nat) (k z j : Nat) (hk : k < zs.length) : (zs.set k z).getD j 0 = if j = k then z else zs.getD j 0 := by
  rw [List.getD_eq_getElem?_getD, List.getD_eq_getElem?_getD, List.getElem?_set]
  by_cases h : k = j
  · subst h; simp [hk]
  · rw [if_neg h, if_neg (fun e => h e.symm)]
theorem D.Words.set {zs : List Nat} (h : D.Words zs) (k : Nat) {z : Nat} (hz : z < 65536) : D.Words (zs.set k z) := by
  intro x hx
  rcases List.mem_or_eq_of_mem_set hx with h1 | h1
  · exact h x h1
  · rw [h1]; exact hz
theorem D.getD_of_lt {zs : List Nat} {k : Nat} (h : D.val zs < D.pw k) : zs.getD k 0 = 0 := by
  apply D.getD_of_tl
  rcases Nat.lt_or_ge k (D.tl zs) with h1 | h1
  · obtain ⟨j, hj⟩ : ∃ j, D.tl zs = j + 1 := ⟨D.tl zs - 1, by omega⟩
    have h2 := D.val_pos_of_tl hj
    have h3 := D.pw_mono (show k ≤ j by omega)
    omega
  · exact h1
theorem D.val_zeros (L : Nat) : D.val (List.replicate L 0) = 0 := by
  induction L with
  | zero => rfl
  | succ L ih => rw [List.replicate_succ, D.val, ih]

/-- A row of the call's own, L numbers long, that is turned in place: it holds zs; below block g nothing has turned. -/
def Keep (kd : IntKind) (w wr : World) (g t L : Nat) (zs : List Nat) : Prop :=
  Below g w wr ∧ wr.rowIs g t L (fun j => .int kd ((zs.getD j 0 : Nat) : Int)) ∧ zs.length = L
section
variable {kd : IntKind} {w wr : World} {g t L : Nat} {zs : List Nat}
theorem Keep.below (h : Keep kd w wr g t L zs) : Below g w wr := h.1
theorem Keep.len (h : Keep kd w wr g t L zs) : zs.length = L := h.2.2
theorem Keep.cell (h : Keep kd w wr g t L zs) {j : Nat} (hj : j < L) : wr.cell? ⟨g, j, none⟩ = some (.int kd ((zs.getD j 0 : Nat) : Int)) := h.2.1.cell hj
theorem Keep.frozen (h : Keep kd w wr g t L zs) (j : Nat) : wr.frozen? ⟨g, j, none⟩ = false := h.2.1.frozen j
theorem Keep.start (kd : IntKind) (w : World) (t L : Nat) : Keep kd w (w.alloc (.cells (madeCells #[.int kd 0] L) t)) w.heap.size t L (List.replicate L 0) :=
  ⟨(Below.refl _ _).alloc (Nat.le_refl _) _, (World.rowIs_made w (.int kd 0) L t).congr (fun j hj => by rw [List.getD_eq_getElem?_getD, List.getElem?_replicate, if_pos hj]; rfl), List.length_replicate⟩
theorem Keep.set (h : Keep kd w wr g t L zs) {z k : Nat} (hk : k < L) : Keep kd w (wr.setCell ⟨g, k, none⟩ (.int kd (z : Int))) g t L (zs.set k z) :=
  ⟨h.1.setCell (Nat.le_refl _) _, (h.2.1.set _ _).congr (fun j _ => by
    rw [getD_set zs k z j (by rw [h.2.2]; exact hk)]
    split <;> rfl), by rw [List.length_set]; exact h.2.2⟩
theorem Keep.drewN (h : Keep kd w wr g t L zs) (k : Nat) : Keep kd w (wr.drewN k) g t L zs := ⟨below_drewN h.1 k, h.2.1, h.2.2⟩
theorem Keep.row (h : Keep kd w wr g t L zs) : Row kd wr (some ⟨g, 0, none⟩) L L zs :=
  ⟨h.2.2, Nat.le_refl _, fun _ => ⟨g, 0, rfl, h.2.1.lt, fun k hk => by rw [Nat.zero_add]; exact h.cell hk⟩⟩
end

theorem dmul_step {x y o cn d c2 j V Z T U : Nat} (hs : d + 65536 * c2 = o + cn + x * y) (hset : U + D.pw j * o = Z + D.pw j * d) (h : Z + D.pw j * cn = V + T) : U + D.pw (j + 1) * c2 = V + (T + D.pw j * (x * y)) := by
  have e : D.pw (j + 1) * c2 = D.pw j * (65536 * c2) := by rw [D.pw_succ, Nat.mul_comm 65536, Nat.mul_assoc]
  have e2 : D.pw j * (d + 65536 * c2) = D.pw j * (o + cn + x * y) := by rw [hs]
  rw [Nat.mul_add, Nat.mul_add, Nat.mul_add] at e2
  omega
theorem D.mul_lt {us bs : List Nat} (hu : D.Words us) (hb : D.Words bs) (i : Nat) (hi : i ≤ us.length) : D.val (us.take i) * D.val bs < D.pw (i + bs.length) := by
  rw [D.pw_add]
  have h1 := D.val_lt (hu.take i)
  rw [List.length_take, Nat.min_eq_left hi] at h1
  exact Nat.mul_lt_mul'' h1 (D.val_lt hb)

set_option maxHeartbeats 4000000 in
set_option maxRecDepth 100000 in
theorem rmul_any (A : Option Addr) (n c : Nat) (us : List Nat) (B : Option Addr) (m d : Nat) (bs : List Nat) (w : World) (hA : Dig w A n c us) (hB : Dig w B m d bs) (hn : n ≤ 100000) (hm : m ≤ 100000) :
    Calls Tryd.prog 73 #[.slice A n c, .slice B m d] w (DTells w (D.val us * D.val bs) (n + m + 1)) := by
  have HA := Lib.hid hA
  have HB := Lib.hid hB
  obtain ⟨L, hL⟩ : ∃ L, n + m + 1 = L := ⟨_, rfl⟩
  rw [hL]
  have hmk := run_make_row' (P := Tryd.prog) 29 69 (.int .u32 0) 4 Tryd.underlying29 info32 rfl .i64 .i64 L (by omega) (by omega)
  have e0 : (n : Int) + (m : Int) + 1 = (L : Int) := by omega
  clear hA hB
  go_enter Tryd.func73, Tryd.ntmps73
  go_wp2
  clear hmk e0
  go_loopw [6] (fun i wr => ∃ (k : Nat) (os : List Nat), k ≤ n ∧ i = .int .i64 k ∧ Hid (Keep .u32 w wr w.heap.size 69 L os) ∧ Hid (D.Words os) ∧ Hid (D.val os = D.val (us.take k) * D.val bs)) (fun i _ => n - (intOf i).toNat)
  case atStart => exact ⟨0, List.replicate L 0, Nat.zero_le _, rfl, Keep.start _ w _ _, fun x hx => by rw [(List.mem_replicate.1 hx).2]; decide, by rw [D.val_zeros]; simp [Hid, D.val]⟩
  case round =>
    obtain ⟨w1, rfl⟩ : ∃ w1, w1 = wr := ⟨_, rfl⟩
    obtain ⟨i, os, hi, rfl, HK, HW, HV⟩ := hrel
    by_cases hlt : i < n
    · obtain ⟨x, hx⟩ : ∃ x, us.getD i 0 = x := ⟨_, rfl⟩
      have hxw := HA.out.words.getD i
      rw [hx] at hxw
      have Hx := Lib.hid hx
      have Hz : Hid (os.getD (i + m) 0 = 0) := by
        apply D.getD_of_lt
        rw [HV.out]
        have := D.mul_lt HA.out.words HB.out.words i (by have := HA.out.len; omega)
        rw [HB.out.len] at this
        exact this
      clear hx
      go_wp2
      go_loopw [7, 8] (fun s7 s8 wr2 => ∃ (k cn : Nat) (zs : List Nat), k ≤ m + 1 ∧ (k = m + 1 → cn = 0) ∧ cn < 65536 ∧ s7 = .int .u32 cn ∧ s8 = .int .i64 k ∧ Hid (Keep .u32 w wr2 w.heap.size 69 L zs) ∧ Hid (D.Words zs) ∧ Hid (∀ j, i + k ≤ j → zs.getD j 0 = os.getD j 0) ∧ Hid (D.val zs + D.pw (i + k) * cn = D.val os + D.pw i * (x * D.val (bs.take k)))) (fun _ s8 _ => m + 1 - (intOf s8).toNat)
      case atStart => exact ⟨0, 0, os, Nat.zero_le _, fun _ => rfl, by decide, rfl, rfl, HK, HW, fun _ _ => rfl, by simp [Hid, D.val]⟩
      case round =>
        obtain ⟨w2, rfl⟩ : ∃ w2, w2 = wr := ⟨_, rfl⟩
        obtain ⟨k, cn, zs, hk, hkc, hcn, rfl, rfl, HK2, HW2, HT2, HE2⟩ := hrel
        by_cases hkm : k < m
        · obtain ⟨j, hj⟩ : ∃ j, i + k = j := ⟨_, rfl⟩
          have ej : (i : Int) + (k : Int) = (j : Int) := by omega
          have hjL : j < L := by omega
          have c1 := HK2.out.cell hjL
          have c2 := HK2.out.frozen j
          have how := HW2.out.getD j
          obtain ⟨b, o, hAe, hb, hcl⟩ := HA.out.at_ (by omega)
          subst hAe
          have c3 := (HK2.out.below.cell (p := ⟨b, o + i, none⟩) hb).trans (hcl i hlt)
          clear hcl
          obtain ⟨b', o', hBe, hb', hcl⟩ := HB.out.at_ (by omega)
          subst hBe
          have c4 := (HK2.out.below.cell (p := ⟨b', o' + k, none⟩) hb').trans (hcl k hkm)
          clear hcl
          have hyw := HB.out.words.getD k
          rw [Hx.out] at c3
          obtain ⟨y, hy⟩ : ∃ y, bs.getD k 0 = y := ⟨_, rfl⟩
          rw [hy] at c4 hyw
          obtain ⟨oo, hoo⟩ : ∃ y, zs.getD j 0 = y := ⟨_, rfl⟩
          rw [hoo] at c1 how
          have hxy : x * y ≤ 65535 * 65535 := Nat.mul_le_mul (by omega) (by omega)
          obtain ⟨xy, hxye⟩ : ∃ v, x * y = v := ⟨_, rfl⟩
          have exy : (x : Int) * (y : Int) = (xy : Int) := by rw [← hxye]; exact (Int.natCast_mul x y).symm
          rw [hxye] at hxy
          obtain ⟨dg, cy, hdc, hdg, hcy⟩ : ∃ dg cy, dg + 65536 * cy = oo + cn + xy ∧ dg < 65536 ∧ cy < 65536 := ⟨(oo + cn + xy) % 65536, (oo + cn + xy) / 65536, by omega, by omega, by omega⟩
          have e1 : ((oo : Int) + (cn : Int) + (xy : Int)) % 65536 = (dg : Int) := by omega
          have e2 : ((oo : Int) + (cn : Int) + (xy : Int)) / 65536 = (cy : Int) := by omega
          have HK3 : Hid (∀ q, Keep .u32 w ((w2.drewN q).setCell ⟨w.heap.size, j, none⟩ (.int .u32 (dg : Int))) w.heap.size 69 L (zs.set j dg)) := fun q => (HK2.out.drewN q).set (z := dg) hjL
          have HE3 : Hid (D.val (zs.set j dg) + D.pw (i + (k + 1)) * cy = D.val os + D.pw i * (x * D.val (bs.take (k + 1)))) := by
            have h1 := D.val_set zs j dg (by rw [HK2.out.len]; exact hjL)
            rw [hoo] at h1
            have h2 := HE2.out
            rw [hj] at h2
            rw [← hxye] at hdc
            have h3 := dmul_step hdc h1 h2
            show _ = _
            rw [D.val_take_succ', hy, ← Nat.add_assoc, hj, h3, Nat.mul_add, Nat.mul_add, ← hj, D.pw_add, Nat.mul_left_comm x, Nat.mul_assoc]
          have HT3 : Hid (∀ j', i + (k + 1) ≤ j' → (zs.set j dg).getD j' 0 = os.getD j' 0) := fun j' hj' => by
            rw [getD_set zs j dg j' (by rw [HK2.out.len]; exact hjL), if_neg (by omega)]
            exact HT2.out j' (by omega)
          have HW3 : Hid (D.Words (zs.set j dg)) := HW2.out.set j hdg
          clear hxye hdc hoo hy hj HE2 HT2
          go_wp2
          go_quiet (fail)
          go_wp2
          go_roundw
          case rel => exact ⟨k + 1, cy, zs.set j dg, by omega, fun h => by omega, hcy, by rw [e2], by go_num, HK3.out _, HW3, HT3, HE3⟩
          case measure => simp [intOf]; omega
        · by_cases hc0 : cn = 0
          · subst hc0
            have HV2 : Hid (D.val zs = D.val (us.take (i + 1)) * D.val bs) := by
              have h1 := HE2.out
              rw [Nat.mul_zero, Nat.add_zero, List.take_of_length_le (by have := HB.out.len; omega), HV.out] at h1
              show _ = _
              rw [D.val_take_succ', Hx.out, Nat.add_mul, h1, Nat.mul_assoc]
            have b1 : decide ((k : Int) < (m : Int)) = false := by simp; omega
            clear HE2 HT2 hkc
            go_wp2
            go_roundw
            case rel => exact ⟨i + 1, zs, by omega, by go_num, HK2, HW2, HV2⟩
            case measure => simp [intOf]; omega
          · obtain rfl : k = m := by
              have : k ≠ m + 1 := fun h => hc0 (hkc h)
              omega
            obtain ⟨j, hj⟩ : ∃ j, i + k = j := ⟨_, rfl⟩
            have ej : (i : Int) + (k : Int) = (j : Int) := by omega
            have hjL : j < L := by omega
            have c1 := HK2.out.cell hjL
            have c2 := HK2.out.frozen j
            have h0 : zs.getD j 0 = 0 := by rw [HT2.out j (by omega), ← hj]; exact Hz.out
            rw [h0] at c1
            have HK3 := Lib.hid (HK2.out.set (z := cn) hjL)
            have HE3 : Hid (D.val (zs.set j cn) + D.pw (i + (k + 1)) * 0 = D.val os + D.pw i * (x * D.val (bs.take (k + 1)))) := by
              have h1 := D.val_set zs j cn (by rw [HK2.out.len]; exact hjL)
              have h2 := HE2.out
              rw [h0] at h1
              rw [hj, List.take_of_length_le (by have := HB.out.len; omega)] at h2
              show _ = _
              rw [List.take_of_length_le (by have := HB.out.len; omega)]
              omega
            have HT3 : Hid (∀ j', i + (k + 1) ≤ j' → (zs.set j cn).getD j' 0 = os.getD j' 0) := fun j' hj' => by
              rw [getD_set zs j cn j' (by rw [HK2.out.len]; exact hjL), if_neg (by omega)]
              exact HT2.out j' (by omega)
            have HW3 : Hid (D.Words (zs.set j cn)) := HW2.out.set j hcn
            have b1 : decide ((k : Int) < (k : Int)) = false := by simp
            have b2 : decide ((0 : Int) < (cn : Int)) = true := by simp; omega
            have b3 : 0 < cn := by omega
            have e1 : (cn : Int) % 65536 = (cn : Int) := by omega
            have e2 : (cn : Int) / 65536 = 0 := by omega
            clear h0 hj HE2 HT2 hkc hc0
            go_wp2
            go_roundw
            case rel => exact ⟨k + 1, 0, zs.set j cn, by omega, fun _ => rfl, by decide, by first | rfl | (rw [e2]; rfl), by go_num, HK3, HW3, HT3, HE3⟩
            case measure => simp [intOf]
    · obtain rfl : i = n := by omega
      have hV : D.val os = D.val us * D.val bs := by
        have h1 := HV.out
        rw [List.take_of_length_le (by have := HA.out.len; omega)] at h1
        exact h1
      have hd : Dig w1 (some ⟨w.heap.size, 0, none⟩) L L os := ⟨HK.out.row, HW.out⟩
      have hN := norm_any _ L L os w1 hd (by omega)
      rw [hV] at hN
      have HN := Lib.hid hN
      have hb := HK.out.below
      clear hV hd hN
      go_wp2_with fail
      refine HN.out.mono ?_
      rintro e w2 ⟨A1, m1, c1, es, rfl, h1, h2, h3, h4, h5⟩
      have Hfin : Hid (DTells w (D.val us * D.val bs) L (.returned (.slice A1 m1 c1)) w2) := ⟨A1, m1, c1, es, rfl, h1, h2, h3, h4, hb.trans (h5.mono hb.size)⟩
      clear h1 h2 h3 h4 h5
      go_wp2
      go_ret
      exact Hfin.out


theorem D.len_of_lt {es : List Nat} {M : Nat} (hb : D.Bare es) (h : D.val es < D.pw M) : es.length ≤ M := by
  rcases Nat.lt_or_ge M es.length with h1 | h1
  · have h2 := D.val_pos_of_tl (xs := es) (j := es.length - 1) (by rw [hb]; omega)
    have h3 := D.pw_mono (show M ≤ es.length - 1 by omega)
    omega
  · exact h1


end Go.Proofs.YtafgooiakmmfkaaDoor
