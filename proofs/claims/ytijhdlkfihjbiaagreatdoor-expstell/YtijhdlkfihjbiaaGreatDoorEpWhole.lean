/- The program's whole numbers (a sign and a size) in blocks of their own; the walks of exps.signed, moved, at, less and times (written by law_ewhole.py). -/
import Derived.Test.YtijhdlkfihjbiaaGreatDoorEpNum
import Derived.Test.YtijhdlkfihjbiaaGreatDoorK6
namespace Go.Proofs.YtijhdlkfihjbiaaGreatDoor
open Go.RowKit

/-- Block b is a variable that holds a whole number. -/
def Wd (w : World) (b : Nat) (g : Bool) (A : Option Addr) (n c : Nat) : Prop := w.heap[b]? = some (.cells #[.bool g, .slice A n c] 69)
/-- A whole number laid into block b. -/
abbrev World.putW (w : World) (b : Nat) (g : Bool) (A : Option Addr) (n c : Nat) : World := (w.setCell ⟨b, 0, none⟩ (.bool g)).setCell ⟨b, 1, none⟩ (.slice A n c)
section
variable {w w' : World} {b : Nat} {g : Bool} {A : Option Addr} {n c : Nat}
theorem Wd.lt (h : Wd w b g A n c) : b < w.heap.size := by
  rcases Nat.lt_or_ge b w.heap.size with h' | h'
  · exact h'
  · rw [Wd, Array.getElem?_eq_none h'] at h; cases h
theorem Wd.new (w : World) (g : Bool) (A : Option Addr) (n c : Nat) : Wd (w.alloc (.cells #[.bool g, .slice A n c] 69)) w.heap.size g A n c := by
  show (w.heap.push _)[w.heap.size]? = _
  simp
theorem Wd.below (h : Wd w b g A n c) (hb : Below w.heap.size w w') : Wd w' b g A n c := by
  rw [Wd, hb.block b h.lt]; exact h
theorem Wd.alloc (h : Wd w b g A n c) (o : Obj) : Wd (w.alloc o) b g A n c := h.below ((Below.refl _ _).alloc (Nat.le_refl _) o)
theorem Wd.c0 (h : Wd w b g A n c) : w.cell? ⟨b, 0, none⟩ = some (.bool g) := by simp [World.cell?, show w.heap[b]? = _ from h]
theorem Wd.c1 (h : Wd w b g A n c) : w.cell? ⟨b, 1, none⟩ = some (.slice A n c) := by simp [World.cell?, show w.heap[b]? = _ from h]
theorem Wd.fz (h : Wd w b g A n c) (o : Nat) : w.frozen? ⟨b, o, none⟩ = false := by simp [World.frozen?, show w.heap[b]? = _ from h]
theorem Wd.drew (h : Wd w b g A n c) : Wd w.drew b g A n c := h
theorem Wd.not (h : Wd w b g A n c) {o : Nat} {k : IntKind} {z : Int} (hc : w.cell? ⟨b, o, none⟩ = some (.int k z)) : False := by
  simp only [World.cell?, show w.heap[b]? = _ from h] at hc
  rcases o with _ | _ | o
  · simp at hc
  · simp at hc
  · simp at hc
theorem putW_heap (w : World) (b : Nat) (g : Bool) (A : Option Addr) (n c : Nat) (k : Nat) (hk : k ≠ b) : (World.putW w b g A n c).heap[k]? = w.heap[k]? := by
  unfold World.putW
  rw [Below.heap_setCell _ _ _ _ hk, Below.heap_setCell _ _ _ _ hk]
theorem putW_size (w : World) (b : Nat) (g : Bool) (A : Option Addr) (n c : Nat) : (World.putW w b g A n c).heap.size = w.heap.size := by
  simp [World.putW, World.setCell]
theorem putW_cell (w : World) (b : Nat) (g : Bool) (A : Option Addr) (n c : Nat) (p : Addr) (hp : p.block ≠ b) : (World.putW w b g A n c).cell? p = w.cell? p :=
  World.cell?_of_block (w := w) (putW_heap w b g A n c p.block hp)
theorem below_putW {B : Nat} {a w : World} (h : Below B a w) {b : Nat} (hb : B ≤ b) (g : Bool) (A : Option Addr) (n c : Nat) : Below B a (World.putW w b g A n c) :=
  (h.setCell (p := ⟨b, 0, none⟩) hb _).setCell (p := ⟨b, 1, none⟩) hb _
theorem Wd.putW (h : Wd w b g A n c) (g' : Bool) (A' : Option Addr) (n' c' : Nat) : Wd (World.putW w b g' A' n' c') b g' A' n' c' := by
  unfold Wd at h ⊢
  unfold World.putW
  simp [World.setCell, Array.getElem?_modify, h]
theorem Wd.other (h : Wd w b g A n c) {b' : Nat} (hb : b ≠ b') (g' : Bool) (A' : Option Addr) (n' c' : Nat) : Wd (World.putW w b' g' A' n' c') b g A n c := by
  unfold Wd; rw [putW_heap _ _ _ _ _ _ _ hb]; exact h
theorem Wd.lim (h : Wd w b g A n c) {A1 : Option Addr} {n1 c1 : Nat} {xs : List Nat} (hA : Lim w A1 n1 c1 xs) (g' : Bool) (A' : Option Addr) (n' c' : Nat) : Lim (World.putW w b g' A' n' c') A1 n1 c1 xs :=
  ⟨hA.1, hA.2.1, hA.2.2.1, fun hn => by
    obtain ⟨k, o, ek, hk, hc⟩ := hA.at_ hn
    have hne : k ≠ b := by
      rintro rfl
      exact h.not (hc 0 hn)
    exact ⟨k, o, ek, by rw [putW_size]; exact hk, fun j hj => by rw [putW_cell _ _ _ _ _ _ _ hne]; exact hc j hj⟩⟩
end

/-- What tells a whole number. -/
def WTold (w : World) (Z : Int) (L : Nat) (e : Ending) (w' : World) : Prop :=
  ∃ A m c zs, e = .returned (.agg #[.bool (decide (Z < 0)), .slice A m c]) ∧ m ≤ L ∧ Lim w' A m c zs ∧ Bare zs ∧ val zs = Z.natAbs ∧ Below w.heap.size w w'
theorem WTold.wider {w w' : World} {Z : Int} {L M : Nat} {e : Ending} (h : WTold w Z L e w') (hM : L ≤ M) : WTold w Z M e w' := by
  obtain ⟨A, m, c, zs, h1, h2, h3⟩ := h
  exact ⟨A, m, c, zs, h1, Nat.le_trans h2 hM, h3⟩
theorem signed_l (g : Bool) (A : Option Addr) (n c : Nat) (xs : List Nat) (Z : Int) (w : World) (hA : Lim w A n c xs) (hb : Bare xs) (hz : Hid (wz g (val xs) = Z)) :
    Calls Tryz.prog 74 #[.bool g, .slice A n c] w (WTold w Z n) := by
  obtain ⟨v, hv⟩ : ∃ v, decide (Z < 0) = v := ⟨_, rfl⟩
  have hg : v = (g && decide (n ≠ 0)) := by
    rw [← hv, ← hz.out, wz_neg, decide_eq_decide.2 (not_congr (bare_zero hA hb)).symm]
  have hn : val xs = Z.natAbs := by rw [← hz.out, wz_abs]
  have Hfin : Hid (WTold w Z n (.returned (.agg #[.bool v, .slice A n c])) (w.alloc (.cells #[.bool v, .slice A n c] 69))) := ⟨A, n, c, xs, by rw [hv], Nat.le_refl _, hA.below (below1 _ _), hb, hn, below1 _ _⟩
  clear hA hb hz hv hn
  cases g with
  | false =>
    obtain rfl : v = false := hg
    go_enter Tryz.func74, Tryz.ntmps74
    go_wp2
    exact bodyPost_ret (v := .agg #[.bool false, .slice A n c]) (by simp [results, Tryz.results74, go_sem]) rfl Hfin.out
  | true =>
    have d : decide ((0 : Int) < (n : Int)) = v := by
      rw [hg, Bool.true_and]
      exact decide_eq_decide.2 (by omega)
    have dn : decide (0 < n) = v := by
      rw [← d]
      exact decide_eq_decide.2 (by omega)
    clear hg
    cases v with
    | false =>
      go_enter Tryz.func74, Tryz.ntmps74
      go_wp2
      exact bodyPost_ret (v := .agg #[.bool false, .slice A n c]) (by simp [results, Tryz.results74, go_sem]) rfl Hfin.out
    | true =>
      go_enter Tryz.func74, Tryz.ntmps74
      go_wp2
      exact bodyPost_ret (v := .agg #[.bool true, .slice A n c]) (by simp [results, Tryz.results74, go_sem]) rfl Hfin.out

theorem moved_l (A : Option Addr) (n c : Nat) (xs : List Nat) (k : Int) (r : Bool) (w : World) (hA : Lim w A n c xs) (hn : n ≤ 100000) (hT : Tab w) (hk1 : -100000 ≤ k) (hk2 : k ≤ 60000) (hfit : (blen (val xs) : Int) + k ≤ 65536 ∨ val xs = 0) (hr : Hid (mvR (val xs) k = r)) :
    Calls Tryz.prog 72 #[.slice A n c, .int .i64 k] w (Tells2 w (mvQ (val xs) k) (n + k.toNat + 1) (.bool r)) := by
  have hr' := hr.out
  clear hr
  by_cases h : k < 0
  · obtain ⟨N, hN⟩ : ∃ N : Nat, -k = (N : Int) := ⟨k.natAbs, by omega⟩
    have eN : (-k).toNat = N := by omega
    have hr2 : decide (val xs % 2 ^ N ≠ 0) = r := by rw [← hr', ← eN]; unfold mvR; rw [if_pos h]
    have H1 := Lib.hid (shr_l N A n c xs w hA (by omega) hT (by omega) r hr2)
    have HQ : Hid (mvQ (val xs) k = val xs / 2 ^ N) := by show _ = _; rw [← eN]; unfold mvQ; rw [if_pos h]
    have wn : IntKind.i64.wrap (-k) = (N : Int) := by rw [IntKind.wrap_i64]; omega
    have d : decide (k < 0) = true := decide_eq_true h
    clear hA hT hr' hr2 eN hfit hN
    go_enter Tryz.func72, Tryz.ntmps72
    go_wp2_with fail
    refine H1.out.mono ?_
    rintro e w1 ⟨A1, m1, c1, zs, rfl, hm1, hl1, hb1, hv1, hB1⟩
    have Hfin : Hid (Tells2 w (mvQ (val xs) k) (n + k.toNat + 1) (.bool r) (.returned (.tuple #[.slice A1 m1 c1, .bool r])) w1) := ⟨A1, m1, c1, zs, rfl, by omega, hl1, hb1, by rw [hv1, HQ.out], hB1⟩
    clear H1 HQ hl1 hb1 hv1 hB1
    go_wp2
    go_ret2
    exact Hfin.out
  · obtain ⟨N, rfl⟩ : ∃ N : Nat, k = (N : Int) := ⟨k.natAbs, by omega⟩
    have eN : ((N : Int)).toNat = N := Int.toNat_natCast N
    obtain rfl : false = r := by rw [← hr']; unfold mvR; rw [if_neg h]
    have H1 := Lib.hid (shl_all A n c xs w hA (by omega) N (by omega))
    have HQ : Hid (mvQ (val xs) (N : Int) = val xs * 2 ^ N) := by show _ = _; unfold mvQ; rw [if_neg h, eN]
    have d : decide ((N : Int) < 0) = false := decide_eq_false h
    clear hA hT hr' eN hfit
    go_enter Tryz.func72, Tryz.ntmps72
    go_wp2_with fail
    refine H1.out.mono ?_
    rintro e w1 ⟨A1, m1, c1, zs, rfl, hm1, hl1, hb1, hv1, hB1⟩
    have Hfin : Hid (Tells2 w (mvQ (val xs) (N : Int)) (n + ((N : Int)).toNat + 1) (.bool false) (.returned (.tuple #[.slice A1 m1 c1, .bool false])) w1) := ⟨A1, m1, c1, zs, rfl, by omega, hl1, hb1, by rw [hv1, HQ.out], hB1⟩
    clear H1 HQ hl1 hb1 hv1 hB1
    go_wp2
    go_ret2
    exact Hfin.out

set_option maxHeartbeats 1000000 in
set_option maxRecDepth 20000 in
theorem at_fff (A : Option Addr) (n c : Nat) (xs : List Nat) (e0 s k : Int) (Z : Int) (w : World) (hA : Lim w A n c xs) (hn : n ≤ 1000) (hT : Tab w) (hk : e0 + s = k) (hk1 : -100000 ≤ k) (hk2 : k ≤ 60000) (hfit : (blen (val xs) : Int) + k ≤ 65536 ∨ val xs = 0) (hr : Hid (mvR (val xs) k = false)) (hZ : Hid (wz false (mvQ (val xs) k + 0) = Z)) :
    Calls Tryz.prog 36 #[.agg #[.bool false, .slice A n c, .int .i64 e0], .int .i64 s, .bool false] w (WTold w Z 100000) := by
  have a1 : Below w.heap.size w ((w.alloc (.cells #[.bool false, .slice A n c, .int .i64 e0] 32)).alloc (.cells #[.bool false, .slice none 0 0] 69)) := ((Below.refl _ _).alloc (Nat.le_refl _) _).alloc (by simp) _
  have b1 := (Bd.new w 32 false A n c e0).alloc (.cells #[.bool false, .slice none 0 0] 69)
  have b2 := Wd.new (w.alloc (.cells #[.bool false, .slice A n c, .int .i64 e0] 32)) false none 0 0
  rw [World.size_alloc] at b2
  have H1 := Lib.hid (moved_l A n c xs k false _ (hA.below a1) (by omega) (hT.below a1) hk1 hk2 hfit hr)
  have HB := Lib.hid b1
  have HW := Lib.hid b2
  have HS := Lib.hid a1
  have ek : IntKind.i64.wrap (e0 + s) = k := by rw [IntKind.wrap_i64]; omega
  have HZ := Lib.hid hZ.out
  clear hA hT hk hfit hr a1 b1 b2 hZ
  go_enter Tryz.func36, Tryz.ntmps36
  go_wp2_with fail
  refine H1.out.mono ?_
  rintro e w1 ⟨A1, m1, c1, zs, rfl, hm1, hl1, hb1, hv1, hB1⟩
  replace HB := Lib.hid (HB.out.below hB1)
  replace HW := Lib.hid (HW.out.below hB1)
  replace HS := Lib.hid (HS.out.trans (hB1.mono HS.out.size))
  have x0 := HB.out.c0
  have hkn : k.toNat ≤ 60000 := by omega
  rw [← hv1] at HZ
  clear hv1 H1
  rw [Nat.add_zero] at HZ
  have H4 := Lib.hid (signed_l false A1 m1 c1 zs Z w1 hl1 hb1 HZ)
  have x0 := HB.out.c0
  clear hl1 hb1 hB1
  go_wp2_with fail
  refine H4.out.mono ?_
  rintro e w4 ⟨A4, m4, c4, ts, rfl, hm4, hl4, hb4, hv4, hB4⟩
  replace HW := Lib.hid (HW.out.below hB4)
  have hs9 := HS.out.trans (hB4.mono HS.out.size)
  have y0 := HW.out.c0
  have y1 := HW.out.c1
  have yf := HW.out.fz
  have Hfin : Hid (WTold w Z 100000 (.returned (.agg #[.bool (decide (Z < 0)), .slice A4 m4 c4])) (World.putW w4 (w.heap.size + 1) (decide (Z < 0)) A4 m4 c4)) :=
    ⟨A4, m4, c4, ts, rfl, by omega, HW.out.lim hl4 _ _ _ _, hb4, hv4, below_putW hs9 (by omega) _ _ _ _⟩
  obtain ⟨dz, hdz⟩ : ∃ dz, decide (Z < 0) = dz := ⟨_, rfl⟩
  rw [hdz] at Hfin ⊢
  clear x0 H4 hl4 hb4 hv4 hB4 hs9 HW HB HS HZ hdz
  go_wp2
  exact bodyPost_ret (v := .agg #[.bool dz, .slice A4 m4 c4]) (by simp [results, Tryz.results36, go_sem, y0, y1]) rfl Hfin.out

set_option maxHeartbeats 1000000 in
set_option maxRecDepth 20000 in
theorem at_fft (A : Option Addr) (n c : Nat) (xs : List Nat) (e0 s k : Int) (Z : Int) (w : World) (hA : Lim w A n c xs) (hn : n ≤ 1000) (hT : Tab w) (hk : e0 + s = k) (hk1 : -100000 ≤ k) (hk2 : k ≤ 60000) (hfit : (blen (val xs) : Int) + k ≤ 65536 ∨ val xs = 0) (hr : Hid (mvR (val xs) k = true)) (hZ : Hid (wz false (mvQ (val xs) k + 0) = Z)) :
    Calls Tryz.prog 36 #[.agg #[.bool false, .slice A n c, .int .i64 e0], .int .i64 s, .bool false] w (WTold w Z 100000) := by
  have a1 : Below w.heap.size w ((w.alloc (.cells #[.bool false, .slice A n c, .int .i64 e0] 32)).alloc (.cells #[.bool false, .slice none 0 0] 69)) := ((Below.refl _ _).alloc (Nat.le_refl _) _).alloc (by simp) _
  have b1 := (Bd.new w 32 false A n c e0).alloc (.cells #[.bool false, .slice none 0 0] 69)
  have b2 := Wd.new (w.alloc (.cells #[.bool false, .slice A n c, .int .i64 e0] 32)) false none 0 0
  rw [World.size_alloc] at b2
  have H1 := Lib.hid (moved_l A n c xs k true _ (hA.below a1) (by omega) (hT.below a1) hk1 hk2 hfit hr)
  have HB := Lib.hid b1
  have HW := Lib.hid b2
  have HS := Lib.hid a1
  have ek : IntKind.i64.wrap (e0 + s) = k := by rw [IntKind.wrap_i64]; omega
  have HZ := Lib.hid hZ.out
  clear hA hT hk hfit hr a1 b1 b2 hZ
  go_enter Tryz.func36, Tryz.ntmps36
  go_wp2_with fail
  refine H1.out.mono ?_
  rintro e w1 ⟨A1, m1, c1, zs, rfl, hm1, hl1, hb1, hv1, hB1⟩
  replace HB := Lib.hid (HB.out.below hB1)
  replace HW := Lib.hid (HW.out.below hB1)
  replace HS := Lib.hid (HS.out.trans (hB1.mono HS.out.size))
  have x0 := HB.out.c0
  have hkn : k.toNat ≤ 60000 := by omega
  rw [← hv1] at HZ
  clear hv1 H1
  rw [Nat.add_zero] at HZ
  have H4 := Lib.hid (signed_l false A1 m1 c1 zs Z w1 hl1 hb1 HZ)
  have x0 := HB.out.c0
  clear hl1 hb1 hB1
  go_wp2_with fail
  refine H4.out.mono ?_
  rintro e w4 ⟨A4, m4, c4, ts, rfl, hm4, hl4, hb4, hv4, hB4⟩
  replace HW := Lib.hid (HW.out.below hB4)
  have hs9 := HS.out.trans (hB4.mono HS.out.size)
  have y0 := HW.out.c0
  have y1 := HW.out.c1
  have yf := HW.out.fz
  have Hfin : Hid (WTold w Z 100000 (.returned (.agg #[.bool (decide (Z < 0)), .slice A4 m4 c4])) (World.putW w4 (w.heap.size + 1) (decide (Z < 0)) A4 m4 c4)) :=
    ⟨A4, m4, c4, ts, rfl, by omega, HW.out.lim hl4 _ _ _ _, hb4, hv4, below_putW hs9 (by omega) _ _ _ _⟩
  obtain ⟨dz, hdz⟩ : ∃ dz, decide (Z < 0) = dz := ⟨_, rfl⟩
  rw [hdz] at Hfin ⊢
  clear x0 H4 hl4 hb4 hv4 hB4 hs9 HW HB HS HZ hdz
  go_wp2
  exact bodyPost_ret (v := .agg #[.bool dz, .slice A4 m4 c4]) (by simp [results, Tryz.results36, go_sem, y0, y1]) rfl Hfin.out

set_option maxHeartbeats 1000000 in
set_option maxRecDepth 20000 in
theorem at_ftf (A : Option Addr) (n c : Nat) (xs : List Nat) (e0 s k : Int) (Z : Int) (w : World) (hA : Lim w A n c xs) (hn : n ≤ 1000) (hT : Tab w) (hk : e0 + s = k) (hk1 : -100000 ≤ k) (hk2 : k ≤ 60000) (hfit : (blen (val xs) : Int) + k ≤ 65536 ∨ val xs = 0) (hr : Hid (mvR (val xs) k = false)) (hZ : Hid (wz true (mvQ (val xs) k + 0) = Z)) :
    Calls Tryz.prog 36 #[.agg #[.bool true, .slice A n c, .int .i64 e0], .int .i64 s, .bool false] w (WTold w Z 100000) := by
  have a1 : Below w.heap.size w ((w.alloc (.cells #[.bool true, .slice A n c, .int .i64 e0] 32)).alloc (.cells #[.bool false, .slice none 0 0] 69)) := ((Below.refl _ _).alloc (Nat.le_refl _) _).alloc (by simp) _
  have b1 := (Bd.new w 32 true A n c e0).alloc (.cells #[.bool false, .slice none 0 0] 69)
  have b2 := Wd.new (w.alloc (.cells #[.bool true, .slice A n c, .int .i64 e0] 32)) false none 0 0
  rw [World.size_alloc] at b2
  have H1 := Lib.hid (moved_l A n c xs k false _ (hA.below a1) (by omega) (hT.below a1) hk1 hk2 hfit hr)
  have HB := Lib.hid b1
  have HW := Lib.hid b2
  have HS := Lib.hid a1
  have ek : IntKind.i64.wrap (e0 + s) = k := by rw [IntKind.wrap_i64]; omega
  have HZ := Lib.hid hZ.out
  clear hA hT hk hfit hr a1 b1 b2 hZ
  go_enter Tryz.func36, Tryz.ntmps36
  go_wp2_with fail
  refine H1.out.mono ?_
  rintro e w1 ⟨A1, m1, c1, zs, rfl, hm1, hl1, hb1, hv1, hB1⟩
  replace HB := Lib.hid (HB.out.below hB1)
  replace HW := Lib.hid (HW.out.below hB1)
  replace HS := Lib.hid (HS.out.trans (hB1.mono HS.out.size))
  have x0 := HB.out.c0
  have hkn : k.toNat ≤ 60000 := by omega
  rw [← hv1] at HZ
  clear hv1 H1
  rw [Nat.add_zero] at HZ
  have H4 := Lib.hid (signed_l true A1 m1 c1 zs Z w1 hl1 hb1 HZ)
  have x0 := HB.out.c0
  clear hl1 hb1 hB1
  go_wp2_with fail
  refine H4.out.mono ?_
  rintro e w4 ⟨A4, m4, c4, ts, rfl, hm4, hl4, hb4, hv4, hB4⟩
  replace HW := Lib.hid (HW.out.below hB4)
  have hs9 := HS.out.trans (hB4.mono HS.out.size)
  have y0 := HW.out.c0
  have y1 := HW.out.c1
  have yf := HW.out.fz
  have Hfin : Hid (WTold w Z 100000 (.returned (.agg #[.bool (decide (Z < 0)), .slice A4 m4 c4])) (World.putW w4 (w.heap.size + 1) (decide (Z < 0)) A4 m4 c4)) :=
    ⟨A4, m4, c4, ts, rfl, by omega, HW.out.lim hl4 _ _ _ _, hb4, hv4, below_putW hs9 (by omega) _ _ _ _⟩
  obtain ⟨dz, hdz⟩ : ∃ dz, decide (Z < 0) = dz := ⟨_, rfl⟩
  rw [hdz] at Hfin ⊢
  clear x0 H4 hl4 hb4 hv4 hB4 hs9 HW HB HS HZ hdz
  go_wp2
  exact bodyPost_ret (v := .agg #[.bool dz, .slice A4 m4 c4]) (by simp [results, Tryz.results36, go_sem, y0, y1]) rfl Hfin.out

set_option maxHeartbeats 1000000 in
set_option maxRecDepth 20000 in
theorem at_ftt (A : Option Addr) (n c : Nat) (xs : List Nat) (e0 s k : Int) (Z : Int) (w : World) (hA : Lim w A n c xs) (hn : n ≤ 1000) (hT : Tab w) (hk : e0 + s = k) (hk1 : -100000 ≤ k) (hk2 : k ≤ 60000) (hfit : (blen (val xs) : Int) + k ≤ 65536 ∨ val xs = 0) (hr : Hid (mvR (val xs) k = true)) (hZ : Hid (wz true (mvQ (val xs) k + 1) = Z)) :
    Calls Tryz.prog 36 #[.agg #[.bool true, .slice A n c, .int .i64 e0], .int .i64 s, .bool false] w (WTold w Z 100000) := by
  have a1 : Below w.heap.size w ((w.alloc (.cells #[.bool true, .slice A n c, .int .i64 e0] 32)).alloc (.cells #[.bool false, .slice none 0 0] 69)) := ((Below.refl _ _).alloc (Nat.le_refl _) _).alloc (by simp) _
  have b1 := (Bd.new w 32 true A n c e0).alloc (.cells #[.bool false, .slice none 0 0] 69)
  have b2 := Wd.new (w.alloc (.cells #[.bool true, .slice A n c, .int .i64 e0] 32)) false none 0 0
  rw [World.size_alloc] at b2
  have H1 := Lib.hid (moved_l A n c xs k true _ (hA.below a1) (by omega) (hT.below a1) hk1 hk2 hfit hr)
  have HB := Lib.hid b1
  have HW := Lib.hid b2
  have HS := Lib.hid a1
  have ek : IntKind.i64.wrap (e0 + s) = k := by rw [IntKind.wrap_i64]; omega
  have HZ := Lib.hid hZ.out
  clear hA hT hk hfit hr a1 b1 b2 hZ
  go_enter Tryz.func36, Tryz.ntmps36
  go_wp2_with fail
  refine H1.out.mono ?_
  rintro e w1 ⟨A1, m1, c1, zs, rfl, hm1, hl1, hb1, hv1, hB1⟩
  replace HB := Lib.hid (HB.out.below hB1)
  replace HW := Lib.hid (HW.out.below hB1)
  replace HS := Lib.hid (HS.out.trans (hB1.mono HS.out.size))
  have x0 := HB.out.c0
  have hkn : k.toNat ≤ 60000 := by omega
  rw [← hv1] at HZ
  clear hv1 H1
  have H2 := Lib.hid (of_any 1 (by decide) w1)
  have HL1 : Hid (Lim w1 A1 m1 c1 zs) := hl1
  clear hl1 hb1 hB1
  go_wp2_with fail
  refine H2.out.mono ?_
  rintro e w2 ⟨A2, m2, c2, ys, rfl, hm2, hl2, hb2, hv2, hB2⟩
  replace HB := Lib.hid (HB.out.below hB2)
  replace HW := Lib.hid (HW.out.below hB2)
  replace HS := Lib.hid (HS.out.trans (hB2.mono HS.out.size))
  have H3 := Lib.hid (add_any A1 m1 c1 zs A2 m2 c2 ys w2 (HL1.out.below hB2) hl2 (by omega) (by omega))
  rw [hv2] at H3
  clear hl2 hb2 hv2 hB2 x0 H2 HL1
  go_wp2_with fail
  refine H3.out.mono ?_
  rintro e w3 ⟨A3, m3, c3, us, rfl, hm3, hl3, hb3, hv3, hB3⟩
  replace HB := Lib.hid (HB.out.below hB3)
  replace HW := Lib.hid (HW.out.below hB3)
  replace HS := Lib.hid (HS.out.trans (hB3.mono HS.out.size))
  rw [← hv3] at HZ
  have H4 := Lib.hid (signed_l true A3 m3 c3 us Z w3 hl3 hb3 HZ)
  have x0 := HB.out.c0
  clear hl3 hb3 hv3 hB3 H3
  go_wp2_with fail
  refine H4.out.mono ?_
  rintro e w4 ⟨A4, m4, c4, ts, rfl, hm4, hl4, hb4, hv4, hB4⟩
  replace HW := Lib.hid (HW.out.below hB4)
  have hs9 := HS.out.trans (hB4.mono HS.out.size)
  have y0 := HW.out.c0
  have y1 := HW.out.c1
  have yf := HW.out.fz
  have Hfin : Hid (WTold w Z 100000 (.returned (.agg #[.bool (decide (Z < 0)), .slice A4 m4 c4])) (World.putW w4 (w.heap.size + 1) (decide (Z < 0)) A4 m4 c4)) :=
    ⟨A4, m4, c4, ts, rfl, by omega, HW.out.lim hl4 _ _ _ _, hb4, hv4, below_putW hs9 (by omega) _ _ _ _⟩
  obtain ⟨dz, hdz⟩ : ∃ dz, decide (Z < 0) = dz := ⟨_, rfl⟩
  rw [hdz] at Hfin ⊢
  clear x0 H4 hl4 hb4 hv4 hB4 hs9 HW HB HS HZ hdz
  go_wp2
  exact bodyPost_ret (v := .agg #[.bool dz, .slice A4 m4 c4]) (by simp [results, Tryz.results36, go_sem, y0, y1]) rfl Hfin.out

set_option maxHeartbeats 1000000 in
set_option maxRecDepth 20000 in
theorem at_tff (A : Option Addr) (n c : Nat) (xs : List Nat) (e0 s k : Int) (Z : Int) (w : World) (hA : Lim w A n c xs) (hn : n ≤ 1000) (hT : Tab w) (hk : e0 + s = k) (hk1 : -100000 ≤ k) (hk2 : k ≤ 60000) (hfit : (blen (val xs) : Int) + k ≤ 65536 ∨ val xs = 0) (hr : Hid (mvR (val xs) k = false)) (hZ : Hid (wz false (mvQ (val xs) k + 0) = Z)) :
    Calls Tryz.prog 36 #[.agg #[.bool false, .slice A n c, .int .i64 e0], .int .i64 s, .bool true] w (WTold w Z 100000) := by
  have a1 : Below w.heap.size w ((w.alloc (.cells #[.bool false, .slice A n c, .int .i64 e0] 32)).alloc (.cells #[.bool false, .slice none 0 0] 69)) := ((Below.refl _ _).alloc (Nat.le_refl _) _).alloc (by simp) _
  have b1 := (Bd.new w 32 false A n c e0).alloc (.cells #[.bool false, .slice none 0 0] 69)
  have b2 := Wd.new (w.alloc (.cells #[.bool false, .slice A n c, .int .i64 e0] 32)) false none 0 0
  rw [World.size_alloc] at b2
  have H1 := Lib.hid (moved_l A n c xs k false _ (hA.below a1) (by omega) (hT.below a1) hk1 hk2 hfit hr)
  have HB := Lib.hid b1
  have HW := Lib.hid b2
  have HS := Lib.hid a1
  have ek : IntKind.i64.wrap (e0 + s) = k := by rw [IntKind.wrap_i64]; omega
  have HZ := Lib.hid hZ.out
  clear hA hT hk hfit hr a1 b1 b2 hZ
  go_enter Tryz.func36, Tryz.ntmps36
  go_wp2_with fail
  refine H1.out.mono ?_
  rintro e w1 ⟨A1, m1, c1, zs, rfl, hm1, hl1, hb1, hv1, hB1⟩
  replace HB := Lib.hid (HB.out.below hB1)
  replace HW := Lib.hid (HW.out.below hB1)
  replace HS := Lib.hid (HS.out.trans (hB1.mono HS.out.size))
  have x0 := HB.out.c0
  have hkn : k.toNat ≤ 60000 := by omega
  rw [← hv1] at HZ
  clear hv1 H1
  rw [Nat.add_zero] at HZ
  have H4 := Lib.hid (signed_l false A1 m1 c1 zs Z w1 hl1 hb1 HZ)
  have x0 := HB.out.c0
  clear hl1 hb1 hB1
  go_wp2_with fail
  refine H4.out.mono ?_
  rintro e w4 ⟨A4, m4, c4, ts, rfl, hm4, hl4, hb4, hv4, hB4⟩
  replace HW := Lib.hid (HW.out.below hB4)
  have hs9 := HS.out.trans (hB4.mono HS.out.size)
  have y0 := HW.out.c0
  have y1 := HW.out.c1
  have yf := HW.out.fz
  have Hfin : Hid (WTold w Z 100000 (.returned (.agg #[.bool (decide (Z < 0)), .slice A4 m4 c4])) (World.putW w4 (w.heap.size + 1) (decide (Z < 0)) A4 m4 c4)) :=
    ⟨A4, m4, c4, ts, rfl, by omega, HW.out.lim hl4 _ _ _ _, hb4, hv4, below_putW hs9 (by omega) _ _ _ _⟩
  obtain ⟨dz, hdz⟩ : ∃ dz, decide (Z < 0) = dz := ⟨_, rfl⟩
  rw [hdz] at Hfin ⊢
  clear x0 H4 hl4 hb4 hv4 hB4 hs9 HW HB HS HZ hdz
  go_wp2
  exact bodyPost_ret (v := .agg #[.bool dz, .slice A4 m4 c4]) (by simp [results, Tryz.results36, go_sem, y0, y1]) rfl Hfin.out

set_option maxHeartbeats 1000000 in
set_option maxRecDepth 20000 in
theorem at_tft (A : Option Addr) (n c : Nat) (xs : List Nat) (e0 s k : Int) (Z : Int) (w : World) (hA : Lim w A n c xs) (hn : n ≤ 1000) (hT : Tab w) (hk : e0 + s = k) (hk1 : -100000 ≤ k) (hk2 : k ≤ 60000) (hfit : (blen (val xs) : Int) + k ≤ 65536 ∨ val xs = 0) (hr : Hid (mvR (val xs) k = true)) (hZ : Hid (wz false (mvQ (val xs) k + 1) = Z)) :
    Calls Tryz.prog 36 #[.agg #[.bool false, .slice A n c, .int .i64 e0], .int .i64 s, .bool true] w (WTold w Z 100000) := by
  have a1 : Below w.heap.size w ((w.alloc (.cells #[.bool false, .slice A n c, .int .i64 e0] 32)).alloc (.cells #[.bool false, .slice none 0 0] 69)) := ((Below.refl _ _).alloc (Nat.le_refl _) _).alloc (by simp) _
  have b1 := (Bd.new w 32 false A n c e0).alloc (.cells #[.bool false, .slice none 0 0] 69)
  have b2 := Wd.new (w.alloc (.cells #[.bool false, .slice A n c, .int .i64 e0] 32)) false none 0 0
  rw [World.size_alloc] at b2
  have H1 := Lib.hid (moved_l A n c xs k true _ (hA.below a1) (by omega) (hT.below a1) hk1 hk2 hfit hr)
  have HB := Lib.hid b1
  have HW := Lib.hid b2
  have HS := Lib.hid a1
  have ek : IntKind.i64.wrap (e0 + s) = k := by rw [IntKind.wrap_i64]; omega
  have HZ := Lib.hid hZ.out
  clear hA hT hk hfit hr a1 b1 b2 hZ
  go_enter Tryz.func36, Tryz.ntmps36
  go_wp2_with fail
  refine H1.out.mono ?_
  rintro e w1 ⟨A1, m1, c1, zs, rfl, hm1, hl1, hb1, hv1, hB1⟩
  replace HB := Lib.hid (HB.out.below hB1)
  replace HW := Lib.hid (HW.out.below hB1)
  replace HS := Lib.hid (HS.out.trans (hB1.mono HS.out.size))
  have x0 := HB.out.c0
  have hkn : k.toNat ≤ 60000 := by omega
  rw [← hv1] at HZ
  clear hv1 H1
  have H2 := Lib.hid (of_any 1 (by decide) w1)
  have HL1 : Hid (Lim w1 A1 m1 c1 zs) := hl1
  clear hl1 hb1 hB1
  go_wp2_with fail
  refine H2.out.mono ?_
  rintro e w2 ⟨A2, m2, c2, ys, rfl, hm2, hl2, hb2, hv2, hB2⟩
  replace HB := Lib.hid (HB.out.below hB2)
  replace HW := Lib.hid (HW.out.below hB2)
  replace HS := Lib.hid (HS.out.trans (hB2.mono HS.out.size))
  have H3 := Lib.hid (add_any A1 m1 c1 zs A2 m2 c2 ys w2 (HL1.out.below hB2) hl2 (by omega) (by omega))
  rw [hv2] at H3
  clear hl2 hb2 hv2 hB2 x0 H2 HL1
  go_wp2_with fail
  refine H3.out.mono ?_
  rintro e w3 ⟨A3, m3, c3, us, rfl, hm3, hl3, hb3, hv3, hB3⟩
  replace HB := Lib.hid (HB.out.below hB3)
  replace HW := Lib.hid (HW.out.below hB3)
  replace HS := Lib.hid (HS.out.trans (hB3.mono HS.out.size))
  rw [← hv3] at HZ
  have H4 := Lib.hid (signed_l false A3 m3 c3 us Z w3 hl3 hb3 HZ)
  have x0 := HB.out.c0
  clear hl3 hb3 hv3 hB3 H3
  go_wp2_with fail
  refine H4.out.mono ?_
  rintro e w4 ⟨A4, m4, c4, ts, rfl, hm4, hl4, hb4, hv4, hB4⟩
  replace HW := Lib.hid (HW.out.below hB4)
  have hs9 := HS.out.trans (hB4.mono HS.out.size)
  have y0 := HW.out.c0
  have y1 := HW.out.c1
  have yf := HW.out.fz
  have Hfin : Hid (WTold w Z 100000 (.returned (.agg #[.bool (decide (Z < 0)), .slice A4 m4 c4])) (World.putW w4 (w.heap.size + 1) (decide (Z < 0)) A4 m4 c4)) :=
    ⟨A4, m4, c4, ts, rfl, by omega, HW.out.lim hl4 _ _ _ _, hb4, hv4, below_putW hs9 (by omega) _ _ _ _⟩
  obtain ⟨dz, hdz⟩ : ∃ dz, decide (Z < 0) = dz := ⟨_, rfl⟩
  rw [hdz] at Hfin ⊢
  clear x0 H4 hl4 hb4 hv4 hB4 hs9 HW HB HS HZ hdz
  go_wp2
  exact bodyPost_ret (v := .agg #[.bool dz, .slice A4 m4 c4]) (by simp [results, Tryz.results36, go_sem, y0, y1]) rfl Hfin.out

set_option maxHeartbeats 1000000 in
set_option maxRecDepth 20000 in
theorem at_ttf (A : Option Addr) (n c : Nat) (xs : List Nat) (e0 s k : Int) (Z : Int) (w : World) (hA : Lim w A n c xs) (hn : n ≤ 1000) (hT : Tab w) (hk : e0 + s = k) (hk1 : -100000 ≤ k) (hk2 : k ≤ 60000) (hfit : (blen (val xs) : Int) + k ≤ 65536 ∨ val xs = 0) (hr : Hid (mvR (val xs) k = false)) (hZ : Hid (wz true (mvQ (val xs) k + 0) = Z)) :
    Calls Tryz.prog 36 #[.agg #[.bool true, .slice A n c, .int .i64 e0], .int .i64 s, .bool true] w (WTold w Z 100000) := by
  have a1 : Below w.heap.size w ((w.alloc (.cells #[.bool true, .slice A n c, .int .i64 e0] 32)).alloc (.cells #[.bool false, .slice none 0 0] 69)) := ((Below.refl _ _).alloc (Nat.le_refl _) _).alloc (by simp) _
  have b1 := (Bd.new w 32 true A n c e0).alloc (.cells #[.bool false, .slice none 0 0] 69)
  have b2 := Wd.new (w.alloc (.cells #[.bool true, .slice A n c, .int .i64 e0] 32)) false none 0 0
  rw [World.size_alloc] at b2
  have H1 := Lib.hid (moved_l A n c xs k false _ (hA.below a1) (by omega) (hT.below a1) hk1 hk2 hfit hr)
  have HB := Lib.hid b1
  have HW := Lib.hid b2
  have HS := Lib.hid a1
  have ek : IntKind.i64.wrap (e0 + s) = k := by rw [IntKind.wrap_i64]; omega
  have HZ := Lib.hid hZ.out
  clear hA hT hk hfit hr a1 b1 b2 hZ
  go_enter Tryz.func36, Tryz.ntmps36
  go_wp2_with fail
  refine H1.out.mono ?_
  rintro e w1 ⟨A1, m1, c1, zs, rfl, hm1, hl1, hb1, hv1, hB1⟩
  replace HB := Lib.hid (HB.out.below hB1)
  replace HW := Lib.hid (HW.out.below hB1)
  replace HS := Lib.hid (HS.out.trans (hB1.mono HS.out.size))
  have x0 := HB.out.c0
  have hkn : k.toNat ≤ 60000 := by omega
  rw [← hv1] at HZ
  clear hv1 H1
  rw [Nat.add_zero] at HZ
  have H4 := Lib.hid (signed_l true A1 m1 c1 zs Z w1 hl1 hb1 HZ)
  have x0 := HB.out.c0
  clear hl1 hb1 hB1
  go_wp2_with fail
  refine H4.out.mono ?_
  rintro e w4 ⟨A4, m4, c4, ts, rfl, hm4, hl4, hb4, hv4, hB4⟩
  replace HW := Lib.hid (HW.out.below hB4)
  have hs9 := HS.out.trans (hB4.mono HS.out.size)
  have y0 := HW.out.c0
  have y1 := HW.out.c1
  have yf := HW.out.fz
  have Hfin : Hid (WTold w Z 100000 (.returned (.agg #[.bool (decide (Z < 0)), .slice A4 m4 c4])) (World.putW w4 (w.heap.size + 1) (decide (Z < 0)) A4 m4 c4)) :=
    ⟨A4, m4, c4, ts, rfl, by omega, HW.out.lim hl4 _ _ _ _, hb4, hv4, below_putW hs9 (by omega) _ _ _ _⟩
  obtain ⟨dz, hdz⟩ : ∃ dz, decide (Z < 0) = dz := ⟨_, rfl⟩
  rw [hdz] at Hfin ⊢
  clear x0 H4 hl4 hb4 hv4 hB4 hs9 HW HB HS HZ hdz
  go_wp2
  exact bodyPost_ret (v := .agg #[.bool dz, .slice A4 m4 c4]) (by simp [results, Tryz.results36, go_sem, y0, y1]) rfl Hfin.out

set_option maxHeartbeats 1000000 in
set_option maxRecDepth 20000 in
theorem at_ttt (A : Option Addr) (n c : Nat) (xs : List Nat) (e0 s k : Int) (Z : Int) (w : World) (hA : Lim w A n c xs) (hn : n ≤ 1000) (hT : Tab w) (hk : e0 + s = k) (hk1 : -100000 ≤ k) (hk2 : k ≤ 60000) (hfit : (blen (val xs) : Int) + k ≤ 65536 ∨ val xs = 0) (hr : Hid (mvR (val xs) k = true)) (hZ : Hid (wz true (mvQ (val xs) k + 0) = Z)) :
    Calls Tryz.prog 36 #[.agg #[.bool true, .slice A n c, .int .i64 e0], .int .i64 s, .bool true] w (WTold w Z 100000) := by
  have a1 : Below w.heap.size w ((w.alloc (.cells #[.bool true, .slice A n c, .int .i64 e0] 32)).alloc (.cells #[.bool false, .slice none 0 0] 69)) := ((Below.refl _ _).alloc (Nat.le_refl _) _).alloc (by simp) _
  have b1 := (Bd.new w 32 true A n c e0).alloc (.cells #[.bool false, .slice none 0 0] 69)
  have b2 := Wd.new (w.alloc (.cells #[.bool true, .slice A n c, .int .i64 e0] 32)) false none 0 0
  rw [World.size_alloc] at b2
  have H1 := Lib.hid (moved_l A n c xs k true _ (hA.below a1) (by omega) (hT.below a1) hk1 hk2 hfit hr)
  have HB := Lib.hid b1
  have HW := Lib.hid b2
  have HS := Lib.hid a1
  have ek : IntKind.i64.wrap (e0 + s) = k := by rw [IntKind.wrap_i64]; omega
  have HZ := Lib.hid hZ.out
  clear hA hT hk hfit hr a1 b1 b2 hZ
  go_enter Tryz.func36, Tryz.ntmps36
  go_wp2_with fail
  refine H1.out.mono ?_
  rintro e w1 ⟨A1, m1, c1, zs, rfl, hm1, hl1, hb1, hv1, hB1⟩
  replace HB := Lib.hid (HB.out.below hB1)
  replace HW := Lib.hid (HW.out.below hB1)
  replace HS := Lib.hid (HS.out.trans (hB1.mono HS.out.size))
  have x0 := HB.out.c0
  have hkn : k.toNat ≤ 60000 := by omega
  rw [← hv1] at HZ
  clear hv1 H1
  rw [Nat.add_zero] at HZ
  have H4 := Lib.hid (signed_l true A1 m1 c1 zs Z w1 hl1 hb1 HZ)
  have x0 := HB.out.c0
  clear hl1 hb1 hB1
  go_wp2_with fail
  refine H4.out.mono ?_
  rintro e w4 ⟨A4, m4, c4, ts, rfl, hm4, hl4, hb4, hv4, hB4⟩
  replace HW := Lib.hid (HW.out.below hB4)
  have hs9 := HS.out.trans (hB4.mono HS.out.size)
  have y0 := HW.out.c0
  have y1 := HW.out.c1
  have yf := HW.out.fz
  have Hfin : Hid (WTold w Z 100000 (.returned (.agg #[.bool (decide (Z < 0)), .slice A4 m4 c4])) (World.putW w4 (w.heap.size + 1) (decide (Z < 0)) A4 m4 c4)) :=
    ⟨A4, m4, c4, ts, rfl, by omega, HW.out.lim hl4 _ _ _ _, hb4, hv4, below_putW hs9 (by omega) _ _ _ _⟩
  obtain ⟨dz, hdz⟩ : ∃ dz, decide (Z < 0) = dz := ⟨_, rfl⟩
  rw [hdz] at Hfin ⊢
  clear x0 H4 hl4 hb4 hv4 hB4 hs9 HW HB HS HZ hdz
  go_wp2
  exact bodyPost_ret (v := .agg #[.bool dz, .slice A4 m4 c4]) (by simp [results, Tryz.results36, go_sem, y0, y1]) rfl Hfin.out

/-- Each end at a scale. -/
theorem at_l (up : Bool) (d : Dy) (A : Option Addr) (n c : Nat) (xs : List Nat) (s : Nat) (Z : Int) (w : World) (hA : Lim w A n c xs) (hn : n ≤ 1000) (hT : Tab w) (hv : val xs = d.V) (hs : s ≤ 9000) (hf : Fine d) (hm : Mid d) (hZ : Hid ((if up = true then clU s d else flU s d) = Z)) :
    Calls Tryz.prog 36 #[.agg #[.bool d.neg, .slice A n c, .int .i64 d.e], .int .i64 (s : Int), .bool up] w (WTold w Z 100000) := by
  obtain ⟨g, V, e0⟩ := d
  obtain ⟨m1, m2, m3⟩ := hm
  dsimp only at hv m1 m2 m3
  have he : e0 ≤ 12 := by
    by_cases h0 : V = 0
    · have := (hf.2.2 h0).2
      dsimp only at this
      omega
    · have := m3 h0
      omega
  have hfit : (blen (val xs) : Int) + (e0 + (s : Int)) ≤ 65536 ∨ val xs = 0 := by rw [hv]; omega
  have hz := hZ.out
  clear hZ
  obtain ⟨k, hk⟩ : ∃ k, e0 + (s : Int) = k := ⟨_, rfl⟩
  obtain ⟨r, hr⟩ : ∃ r, mvR V k = r := ⟨_, rfl⟩
  rw [hk] at hfit
  rw [at_fl hf hs, at_cl hf hs] at hz
  dsimp only at hz
  rw [hk, hr] at hz
  rw [← hv] at hr hz
  dsimp only
  cases up <;> cases g <;> cases r
  · exact at_fff A n c xs e0 s k Z w hA hn hT hk (by omega) (by omega) hfit hr hz
  · exact at_fft A n c xs e0 s k Z w hA hn hT hk (by omega) (by omega) hfit hr hz
  · exact at_ftf A n c xs e0 s k Z w hA hn hT hk (by omega) (by omega) hfit hr hz
  · exact at_ftt A n c xs e0 s k Z w hA hn hT hk (by omega) (by omega) hfit hr hz
  · exact at_tff A n c xs e0 s k Z w hA hn hT hk (by omega) (by omega) hfit hr hz
  · exact at_tft A n c xs e0 s k Z w hA hn hT hk (by omega) (by omega) hfit hr hz
  · exact at_ttf A n c xs e0 s k Z w hA hn hT hk (by omega) (by omega) hfit hr hz
  · exact at_ttt A n c xs e0 s k Z w hA hn hT hk (by omega) (by omega) hfit hr hz

set_option maxHeartbeats 1000000 in
theorem etimes_l (A : Option Addr) (n c : Nat) (xs : List Nat) (k : Int) (Z : Int) (w : World) (hA : Lim w A n c xs) (hn : n ≤ 1000) (hk : k.natAbs ≤ 100000) (hZ : Hid (k * (val xs : Int) = Z)) :
    Calls Tryz.prog 39 #[.slice A n c, .int .i64 k] w (WTold w Z (n + 1)) := by
  have a1 := below1 w (.cells #[.bool false, .slice none 0 0] 69)
  have b2 := Wd.new w false none 0 0
  obtain ⟨x, hx⟩ : ∃ x : Nat, max k (-k) = (x : Int) := ⟨k.natAbs, by omega⟩
  have hx9 : x ≤ 100000 := by omega
  have H1 := Lib.hid (times_any A n c xs x _ (hA.below a1) (by omega) (by omega) (by have := hA.blen_le; omega))
  have wn : IntKind.i64.wrap (-k) = -k := by rw [IntKind.wrap_i64]; omega
  obtain ⟨g, hg⟩ : ∃ g, decide (k < 0) = g := ⟨_, rfl⟩
  have HZ : Hid (wz g (val xs * x) = Z) := by
    show _ = _
    rw [← hZ.out, ← times_sg, hg, show x = k.natAbs by omega]
  have HW := Lib.hid b2
  have HS := Lib.hid a1
  clear hA hZ a1 b2
  go_enter Tryz.func39, Tryz.ntmps39
  go_wp2_with fail
  refine H1.out.mono ?_
  rintro e w1 ⟨A1, m1, c1, zs, rfl, hm1, hl1, hb1, hv1, hB1⟩
  replace HW := Lib.hid (HW.out.below hB1)
  replace HS := Lib.hid (HS.out.trans (hB1.mono HS.out.size))
  rw [← hv1] at HZ
  have H4 := Lib.hid (signed_l g A1 m1 c1 zs Z w1 hl1 hb1 HZ)
  clear hl1 hb1 hB1 hv1 H1
  go_wp2_with fail
  refine H4.out.mono ?_
  rintro e w4 ⟨A4, m4, c4, ts, rfl, hm4, hl4, hb4, hv4, hB4⟩
  replace HW := Lib.hid (HW.out.below hB4)
  have hs9 := HS.out.trans (hB4.mono HS.out.size)
  have y0 := HW.out.c0
  have y1 := HW.out.c1
  have yf := HW.out.fz
  have Hfin : Hid (WTold w Z (n + 1) (.returned (.agg #[.bool (decide (Z < 0)), .slice A4 m4 c4])) (World.putW w4 w.heap.size (decide (Z < 0)) A4 m4 c4)) :=
    ⟨A4, m4, c4, ts, rfl, by omega, HW.out.lim hl4 _ _ _ _, hb4, hv4, below_putW hs9 (by omega) _ _ _ _⟩
  obtain ⟨dz, hdz⟩ : ∃ dz, decide (Z < 0) = dz := ⟨_, rfl⟩
  rw [hdz] at Hfin ⊢
  clear H4 hl4 hb4 hv4 hB4 hs9 HW HS HZ hdz hg hx wn
  go_wp2
  exact bodyPost_ret (v := .agg #[.bool dz, .slice A4 m4 c4]) (by simp [results, Tryz.results39, go_sem, y0, y1]) rfl Hfin.out

end Go.Proofs.YtijhdlkfihjbiaaGreatDoor
