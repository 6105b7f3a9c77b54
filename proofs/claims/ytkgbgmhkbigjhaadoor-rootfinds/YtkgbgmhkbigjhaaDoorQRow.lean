/- Words for a row that a callee turns in place: a window of it; the callees' walks: quo.bare, guessed, takeTimes, putBack. -/
import Derived.Test.YtkgbgmhkbigjhaaDoorQDiv64
import Derived.Test.YtkgbgmhkbigjhaaDoorLaws
import Derived.Test.YtkgbgmhkbigjhaaDoorWAdd
namespace Go.Proofs.YtkgbgmhkbigjhaaDoor
open Go.RowKit

/-- Block g alone has turned. -/
structure But (g : Nat) (w w' : World) : Prop where
  os : w'.os = w.os
  tape : w'.tape = w.tape
  output : w'.output = w.output
  size : w'.heap.size = w.heap.size
  block : ∀ k, k ≠ g → w'.heap[k]? = w.heap[k]?

theorem But.refl (g : Nat) (w : World) : But g w w := ⟨rfl, rfl, rfl, rfl, fun _ _ => rfl⟩
theorem But.trans {g : Nat} {a b c : World} (h : But g a b) (k : But g b c) : But g a c :=
  ⟨k.os.trans h.os, k.tape.trans h.tape, k.output.trans h.output, k.size.trans h.size, fun i hi => (k.block i hi).trans (h.block i hi)⟩
theorem But.drewN {g : Nat} {a w : World} (h : But g a w) (n : Nat) : But g a (w.drewN n) := ⟨h.os, h.tape, h.output, h.size, h.block⟩
theorem But.setCell {g : Nat} {a w : World} (h : But g a w) (j : Nat) (v : Value) : But g a (w.setCell ⟨g, j, none⟩ v) :=
  h.trans ⟨rfl, rfl, rfl, by simp [World.setCell], fun k hk => Below.heap_setCell _ _ _ _ hk⟩
theorem But.below {g B : Nat} {w w' : World} (h : But g w w') (hB : B ≤ g) : Below B w w' := ⟨h.os, h.tape, h.output, by rw [h.size]; exact Nat.le_refl _, fun k hk => h.block k (by omega)⟩
theorem But.cell {g : Nat} {w w' : World} (h : But g w w') {p : Addr} (hp : p.block ≠ g) : w'.cell? p = w.cell? p := World.cell?_of_block (w := w) (h.block p.block hp)
theorem Lim.but {g b o n c : Nat} {w w' : World} {xs : List Nat} (h : Lim w (some ⟨b, o, none⟩) n c xs) (hb : But g w w') (hg : b ≠ g) : Lim w' (some ⟨b, o, none⟩) n c xs :=
  ⟨h.1, h.2.1, h.2.2.1, fun hn => by
    obtain ⟨b', o', e, hl, hc⟩ := h.at_ hn
    cases e
    exact ⟨b, o, rfl, by rw [hb.size]; exact hl, fun k hk => (hb.cell (p := ⟨b, o + k, none⟩) hg).trans (hc k hk)⟩⟩

/-- A row of limbs: block g holds ls. -/
def Holds (w : World) (g t : Nat) (ls : List Nat) : Prop := w.rowIs g t ls.length (fun j => .int .u64 ((ls.getD j 0 : Nat) : Int)) ∧ Words ls
theorem Holds.lim {w : World} {g t : Nat} {ls : List Nat} (h : Holds w g t ls) : Lim w (some ⟨g, 0, none⟩) ls.length ls.length ls := Lim.row h.1 rfl h.2 (fun _ _ => rfl)
theorem Holds.lt {w : World} {g t : Nat} {ls : List Nat} (h : Holds w g t ls) : g < w.heap.size := h.1.lt
theorem Holds.but {w w' : World} {g g' t : Nat} {ls : List Nat} (h : Holds w g t ls) (hb : But g' w w') (hg : g ≠ g') : Holds w' g t ls := ⟨h.1.of_block (hb.block g hg), h.2⟩
theorem Holds.below {w w' : World} {g B t : Nat} {ls : List Nat} (h : Holds w g t ls) (hb : Below B w w') (hg : g < B) : Holds w' g t ls := ⟨h.1.of_block (hb.block g hg), h.2⟩
theorem Holds.cell {w : World} {g t : Nat} {ls : List Nat} (h : Holds w g t ls) {j : Nat} (hj : j < ls.length) : w.cell? ⟨g, j, none⟩ = some (.int .u64 ((ls.getD j 0 : Nat) : Int)) := h.1.cell hj
theorem Holds.frozen {w : World} {g t : Nat} {ls : List Nat} (h : Holds w g t ls) (j : Nat) : w.frozen? ⟨g, j, none⟩ = false := h.1.frozen j
theorem getD_set' (zs : List Nat) (k z j : Nat) (hk : k < zs.length) : (zs.set k z).getD j 0 = if j = k then z else zs.getD j 0 := by
  rw [List.getD_eq_getElem?_getD, List.getD_eq_getElem?_getD, List.getElem?_set]
  by_cases h : k = j
  · subst h; simp [hk]
  · rw [if_neg h, if_neg (fun e => h e.symm)]
theorem Holds.set {w : World} {g t : Nat} {ls : List Nat} (h : Holds w g t ls) {k z : Nat} (hk : k < ls.length) (hz : z < 18446744073709551616) : Holds (w.setCell ⟨g, k, none⟩ (.int .u64 (z : Int))) g t (ls.set k z) :=
  ⟨by
    rw [List.length_set]
    exact (h.1.set _ _).congr (fun j _ => by rw [getD_set' ls k z j hk]; split <;> rfl), h.2.set k hz⟩
theorem Holds.drewN {w : World} {g t : Nat} {ls : List Nat} (h : Holds w g t ls) (n : Nat) : Holds (w.drewN n) g t ls := h

/-- A window of such a row: ps ahead of it, qs behind it. -/
def Win (w wr : World) (g t o : Nat) (ps ws qs : List Nat) : Prop := But g w wr ∧ Holds wr g t (ps ++ (ws ++ qs)) ∧ ps.length = o
section
variable {w wr : World} {g t o : Nat} {ps ws qs : List Nat}
theorem Win.cell (h : Win w wr g t o ps ws qs) {k : Nat} (hk : k < ws.length) : wr.cell? ⟨g, o + k, none⟩ = some (.int .u64 ((ws.getD k 0 : Nat) : Int)) := by
  have := h.2.1.cell (j := o + k) (by have := h.2.2; simp; omega)
  rw [this, ← h.2.2]
  have e : (ps ++ (ws ++ qs)).getD (ps.length + k) 0 = ws.getD k 0 := by
    rw [List.getD_eq_getElem?_getD, List.getD_eq_getElem?_getD, List.getElem?_append_right (by omega), Nat.add_sub_cancel_left, List.getElem?_append_left hk]
  rw [e]
theorem Win.frozen (h : Win w wr g t o ps ws qs) (k : Nat) : wr.frozen? ⟨g, k, none⟩ = false := h.2.1.frozen k
theorem Win.words (h : Win w wr g t o ps ws qs) : Words ws := fun x hx => h.2.1.2 x (List.mem_append_right _ (List.mem_append_left _ hx))
theorem Win.but (h : Win w wr g t o ps ws qs) : But g w wr := h.1
theorem Win.set (h : Win w wr g t o ps ws qs) {k z : Nat} (hk : k < ws.length) (hz : z < 18446744073709551616) : Win w (wr.setCell ⟨g, o + k, none⟩ (.int .u64 (z : Int))) g t o ps (ws.set k z) qs := by
  refine ⟨h.1.setCell _ _, ?_, h.2.2⟩
  have := h.2.1.set (k := o + k) (z := z) (by have := h.2.2; simp; omega) hz
  have e : (ps ++ (ws ++ qs)).set (o + k) z = ps ++ (ws.set k z ++ qs) := by
    rw [← h.2.2, List.set_append_right _ _ (by omega), Nat.add_sub_cancel_left, List.set_append_left _ _ hk]
  rwa [e] at this
theorem Win.drewN (h : Win w wr g t o ps ws qs) (n : Nat) : Win w (wr.drewN n) g t o ps ws qs := ⟨h.1.drewN n, h.2.1, h.2.2⟩
end

set_option maxHeartbeats 1000000 in
/-- quo.bare: a's own memory, without leading noughts. -/
theorem qbare_any (l : Nat) (A : Option Addr) (n c : Nat) (xs : List Nat) (w : World) (hA : Lim w A n c xs) (hn : n ≤ 4398046511104) (hl : Hid (tl xs = l)) :
    Calls Tryd.prog 52 #[.slice A n c] w fun e w' => e = .returned (.slice A l c) ∧ w = w' := by
  have h1 := tl_of_blen hA.words
  have h2 := hA.tl_le
  have h3 := hA.le
  have hB := bits_any A n c xs w hA hn
  rw [hl.out] at h1 h2
  generalize blen (val xs) = b at h1 hB
  have HB := Lib.hid hB
  have e1 : ((b : Int) + 64 - 1) / 64 = (l : Int) := by omega
  have e2 : ((b : Int) + 63) / 64 = (l : Int) := by omega
  have hb : b ≤ 64 * 4398046511104 := by omega
  clear hB h1 hA
  go_enter Tryd.func52, Tryd.ntmps52
  go_wp2_with fail
  refine HB.out.mono ?_
  rintro e w' ⟨rfl, rfl⟩
  go_wp2
  go_ret
  exact ⟨rfl, rfl⟩

set_option maxHeartbeats 2000000 in
/-- takeTimes: the divisor N times from the window; whether that was too often. -/
theorem take_any (w : World) (g t o c : Nat) (ps ws qs : List Nat) (b bo n d : Nat) (ds : List Nat) (N : Nat) (hW : Win w w g t o ps ws qs) (hws : ws.length = n + 1) (hD : Lim w (some ⟨b, bo, none⟩) n d ds) (hbg : b ≠ g) (hN : N < 18446744073709551616) (hn : n ≤ 1000000000) :
    Calls Tryd.prog 61 #[.slice (some ⟨g, o, none⟩) ((n + 1 : Nat)) c, .slice (some ⟨b, bo, none⟩) n d, .int .u64 (N : Int)] w fun e w' => ∃ us tt, e = .returned (.bool (decide (0 < tt))) ∧ tt ≤ 1 ∧ us.length = n + 1 ∧ Win w w' g t o ps us qs ∧ val us + N * val ds = val ws + pw (n + 1) * tt := by
  have HW := Lib.hid hW
  have HD := Lib.hid hD
  have Hws := Lib.hid hws
  clear hW hD hws
  go_enter Tryd.func61, Tryd.ntmps61
  go_wp2
  go_loopw [7, 18] (fun cy i wr => ∃ (k ow : Nat) (us : List Nat), k ≤ n ∧ i = .int .i64 k ∧ cy = .int .u64 ow ∧ ow < 18446744073709551616 ∧ Hid (us.length = n + 1) ∧ Hid (Win w wr g t o ps us qs) ∧ Hid (val us + N * val (ds.take k) = val ws + pw k * ow)) (fun _ i _ => n - (intOf i).toNat)
  case atStart => exact ⟨0, 0, ws, Nat.zero_le _, rfl, rfl, by decide, Hws, HW, by simp [Hid, val]⟩
  case round =>
    obtain ⟨w1, rfl⟩ : ∃ w1, w1 = wr := ⟨_, rfl⟩
    obtain ⟨k, ow, us, hk, rfl, rfl, how, Hl1, HW1, HE1⟩ := hrel
    by_cases hlt : k < n
    · obtain ⟨b', o', hAe, hb, hcl⟩ := (HD.out.but HW1.out.but hbg).at_ (by omega)
      cases hAe
      have c1 := hcl k hlt
      clear hcl
      have c2 := HW1.out.cell (k := k) (by have := Hl1.out; omega)
      have c3 := HW1.out.frozen (o + k)
      have hxw := HD.out.words.getD k
      have hyw := HW1.out.words.getD k
      obtain ⟨x, hx⟩ : ∃ x, ds.getD k 0 = x := ⟨_, rfl⟩
      obtain ⟨y, hy⟩ : ∃ y, us.getD k 0 = y := ⟨_, rfl⟩
      rw [hx] at c1 hxw
      rw [hy] at c2 hyw
      obtain ⟨h, l, hp, hl⟩ : ∃ h l, l + 18446744073709551616 * h = x * N ∧ l < 18446744073709551616 := ⟨x * N / 18446744073709551616, x * N % 18446744073709551616, by omega, by omega⟩
      obtain ⟨s1, t1, hs1, hs1', ht1⟩ : ∃ s t, s + 18446744073709551616 * t = l + ow + 0 ∧ s < 18446744073709551616 ∧ t ≤ 1 := ⟨(l + ow) % 18446744073709551616, (l + ow) / 18446744073709551616, by omega, by omega, by omega⟩
      obtain ⟨s2, t2, hs2, hs2', ht2⟩ : ∃ s t, s + s1 + 0 = y + 18446744073709551616 * t ∧ s < 18446744073709551616 ∧ t ≤ 1 := by
        by_cases hc : s1 ≤ y
        · exact ⟨y - s1, 0, by omega, by omega, by omega⟩
        · exact ⟨y + 18446744073709551616 - s1, 1, by omega, by omega, by omega⟩
      obtain ⟨o1, o2⟩ := owed_lt hxw hN how hp hs1 hs2 hs2'
      have hmul := mul64_any x N h l hxw hN hp hl
      have hadd := add64 l ow 0 s1 t1 (by decide) hs1 hs1'
      have hsub := sub64 y s1 0 s2 t2 (by decide) hs2 hs2' hyw hs1'
      rw [show ((0 : Nat) : Int) = 0 from rfl] at hadd hsub
      have HW2 := Lib.hid (HW1.out.set (k := k) (z := s2) (by have := Hl1.out; omega) hs2')
      have Hl2 : Hid ((us.set k s2).length = n + 1) := by rw [List.length_set]; exact Hl1
      have HE2 : Hid (val (us.set k s2) + N * val (ds.take (k + 1)) = val ws + pw (k + 1) * (h + t1 + t2)) := by
        have h1 := val_set us k s2 (by have := Hl1.out; omega)
        rw [hy] at h1
        show _ = _
        rw [val_take_succ', hx]
        exact take_step hp hs1 hs2 h1 HE1.out
      obtain ⟨ow2, how2⟩ : ∃ ow2, h + t1 + t2 = ow2 := ⟨_, rfl⟩
      have e1 : (h : Int) + (t1 : Int) + (t2 : Int) = (ow2 : Int) := by omega
      rw [how2] at HE2 o2
      have Hmul := Lib.hid hmul
      clear hx hy hp hs1 hs2 HE1 hmul how2
      go_wp2_with fail
      refine (Hmul.out _).mono ?_
      rintro e w' ⟨rfl, rfl⟩
      go_wp2
      go_roundw
      case rel => exact ⟨k + 1, ow2, us.set k s2, by omega, by go_num, by go_num, o2, Hl2, HW2, HE2⟩
      case measure => simp [intOf]; omega
    · obtain rfl : k = n := by omega
      have c2 := HW1.out.cell (k := k) (by have := Hl1.out; omega)
      have c3 := HW1.out.frozen (o + k)
      have hyw := HW1.out.words.getD k
      obtain ⟨y, hy⟩ : ∃ y, us.getD k 0 = y := ⟨_, rfl⟩
      rw [hy] at c2 hyw
      obtain ⟨s2, t2, hs2, hs2', ht2⟩ : ∃ s t, s + ow + 0 = y + 18446744073709551616 * t ∧ s < 18446744073709551616 ∧ t ≤ 1 := by
        by_cases hc : ow ≤ y
        · exact ⟨y - ow, 0, by omega, by omega, by omega⟩
        · exact ⟨y + 18446744073709551616 - ow, 1, by omega, by omega, by omega⟩
      have hsub := sub64 y ow 0 s2 t2 (by decide) hs2 hs2' hyw how
      rw [show ((0 : Nat) : Int) = 0 from rfl] at hsub
      have HW2 := Lib.hid (HW1.out.set (k := k) (z := s2) (by have := Hl1.out; omega) hs2')
      have Hl2 : Hid ((us.set k s2).length = k + 1) := by rw [List.length_set]; exact Hl1
      have HE2 : Hid (val (us.set k s2) + N * val ds = val ws + pw (k + 1) * t2) := by
        have h1 := val_set us k s2 (by have := Hl1.out; omega)
        rw [hy] at h1
        have h2 := HE1.out
        rw [List.take_of_length_le (by have := HD.out.len; omega)] at h2
        exact take_last hs2 h1 h2
      have b1 : ((t2 : Int) != 0) = decide (0 < t2) := by
        by_cases h0 : t2 = 0
        · subst h0; rfl
        · have : 0 < t2 := by omega
          simp [this]; omega
      clear hy hs2 HE1
      go_wp2
      go_ret
      exact ⟨us.set k s2, t2, rfl, ht2, Hl2.out, HW2.out, HE2.out⟩

set_option maxHeartbeats 2000000 in
/-- putBack: the divisor once to the window; whether it has come round. -/
theorem put_any (w : World) (g t o c : Nat) (ps ws qs : List Nat) (b bo n d : Nat) (ds : List Nat) (hW : Win w w g t o ps ws qs) (hws : ws.length = n + 1) (hD : Lim w (some ⟨b, bo, none⟩) n d ds) (hbg : b ≠ g) (hn : n ≤ 1000000000) :
    Calls Tryd.prog 62 #[.slice (some ⟨g, o, none⟩) ((n + 1 : Nat)) c, .slice (some ⟨b, bo, none⟩) n d] w fun e w' => ∃ us tt, e = .returned (.bool (decide (0 < tt))) ∧ tt ≤ 1 ∧ us.length = n + 1 ∧ Win w w' g t o ps us qs ∧ val us + pw (n + 1) * tt = val ws + val ds := by
  have HW := Lib.hid hW
  have HD := Lib.hid hD
  have Hws := Lib.hid hws
  clear hW hD hws
  go_enter Tryd.func62, Tryd.ntmps62
  go_wp2
  go_loopw [5, 11] (fun cy i wr => ∃ (k cn : Nat) (us : List Nat), k ≤ n ∧ i = .int .i64 k ∧ cy = .int .u64 cn ∧ cn ≤ 1 ∧ Hid (us.length = n + 1) ∧ Hid (Win w wr g t o ps us qs) ∧ Hid (val us + pw k * cn = val ws + val (ds.take k))) (fun _ i _ => n - (intOf i).toNat)
  case atStart => exact ⟨0, 0, ws, Nat.zero_le _, rfl, rfl, by decide, Hws, HW, by simp [Hid, val]⟩
  case round =>
    obtain ⟨w1, rfl⟩ : ∃ w1, w1 = wr := ⟨_, rfl⟩
    obtain ⟨k, cn, us, hk, rfl, rfl, hcn, Hl1, HW1, HE1⟩ := hrel
    by_cases hlt : k < n
    · obtain ⟨b', o', hAe, hb, hcl⟩ := (HD.out.but HW1.out.but hbg).at_ (by omega)
      cases hAe
      have c1 := hcl k hlt
      clear hcl
      have c2 := HW1.out.cell (k := k) (by have := Hl1.out; omega)
      have c3 := HW1.out.frozen (o + k)
      have hxw := HD.out.words.getD k
      have hyw := HW1.out.words.getD k
      obtain ⟨x, hx⟩ : ∃ x, ds.getD k 0 = x := ⟨_, rfl⟩
      obtain ⟨y, hy⟩ : ∃ y, us.getD k 0 = y := ⟨_, rfl⟩
      rw [hx] at c1 hxw
      rw [hy] at c2 hyw
      obtain ⟨s, u, hst, hs, ht⟩ : ∃ s t, s + 18446744073709551616 * t = y + x + cn ∧ s < 18446744073709551616 ∧ t ≤ 1 := ⟨(y + x + cn) % 18446744073709551616, (y + x + cn) / 18446744073709551616, by omega, by omega, by omega⟩
      have hadd := add64 y x cn s u hcn hst hs
      have HW2 := Lib.hid (HW1.out.set (k := k) (z := s) (by have := Hl1.out; omega) hs)
      have Hl2 : Hid ((us.set k s).length = n + 1) := by rw [List.length_set]; exact Hl1
      have HE2 : Hid (val (us.set k s) + pw (k + 1) * u = val ws + val (ds.take (k + 1))) := by
        have h1 := val_set us k s (by have := Hl1.out; omega)
        rw [hy] at h1
        have h2 := set_step hst h1 HE1.out
        show _ = _
        rw [val_take_succ', hx, ← Nat.add_assoc]
        exact h2
      clear hx hy hst HE1
      go_wp2
      go_roundw
      case rel => exact ⟨k + 1, u, us.set k s, by omega, by go_num, rfl, ht, Hl2, HW2, HE2⟩
      case measure => simp [intOf]; omega
    · obtain rfl : k = n := by omega
      have c2 := HW1.out.cell (k := k) (by have := Hl1.out; omega)
      have c3 := HW1.out.frozen (o + k)
      have hyw := HW1.out.words.getD k
      obtain ⟨y, hy⟩ : ∃ y, us.getD k 0 = y := ⟨_, rfl⟩
      rw [hy] at c2 hyw
      obtain ⟨s, u, hst, hs, ht⟩ : ∃ s t, s + 18446744073709551616 * t = y + 0 + cn ∧ s < 18446744073709551616 ∧ t ≤ 1 := ⟨(y + cn) % 18446744073709551616, (y + cn) / 18446744073709551616, by omega, by omega, by omega⟩
      have hadd := add64 y 0 cn s u hcn hst hs
      rw [show ((0 : Nat) : Int) = 0 from rfl] at hadd
      have HW2 := Lib.hid (HW1.out.set (k := k) (z := s) (by have := Hl1.out; omega) hs)
      have Hl2 : Hid ((us.set k s).length = k + 1) := by rw [List.length_set]; exact Hl1
      have HE2 : Hid (val (us.set k s) + pw (k + 1) * u = val ws + val ds) := by
        have h1 := val_set us k s (by have := Hl1.out; omega)
        rw [hy] at h1
        have h3 := HE1.out
        rw [List.take_of_length_le (by have := HD.out.len; omega)] at h3
        have h2 := set_step hst h1 h3
        rw [Nat.mul_zero, Nat.add_zero] at h2
        exact h2
      have b1 : ((u : Int) != 0) = decide (0 < u) := by
        by_cases h0 : u = 0
        · subst h0; rfl
        · have : 0 < u := by omega
          simp [this]; omega
      clear hy hst HE1
      go_wp2
      go_ret
      exact ⟨us.set k s, u, rfl, ht, Hl2.out, HW2.out, HE2.out⟩

theorem quiet_draws {P : Program} {f : FuncId} {args : Array Value} {w : World} {a n : Nat} {v : Value}
    (h : Calls P f args (w.drewN (a + n)) fun e w' => e = .returned v ∧ ∃ k, w' = (w.drewN (a + n)).drewN k) : Calls P f args (w.drewN (a + n)) fun e w'' => e = .returned v ∧ ∃ m, w'' = w.drewN (a + m) :=
  h.mono fun _ _ ⟨he, k, hm⟩ => ⟨he, n + k, by rw [hm, World.drewN_drewN, Nat.add_assoc]⟩
theorem ltop_two (ws : List Nat) (l : Nat) (hl : ws.length = l + 2) : val ws = val (ws.take l) + pw l * (ws.getD l 0 + 18446744073709551616 * ws.getD (l + 1) 0) := by
  have h1 := val_take_succ ws (l + 1) (by omega)
  rw [List.take_of_length_le (by omega), val_take_succ ws l (by omega), pw_succ] at h1
  rw [h1, Nat.mul_add, Nat.mul_comm 18446744073709551616 (pw l), Nat.mul_assoc, Nat.add_assoc]
theorem ltop_one (ds : List Nat) (l : Nat) (hl : ds.length = l + 1) : val ds = val (ds.take l) + pw l * ds.getD l 0 := by
  have h1 := val_take_succ ds l (by omega)
  rwa [List.take_of_length_le (by omega)] at h1

set_option maxHeartbeats 2000000 in
/-- guessed: never too small. -/
theorem guess_any (w : World) (g t o c : Nat) (ps ws qs : List Nat) (b bo l d : Nat) (ds : List Nat) (hW : Win w w g t o ps ws qs) (hws : ws.length = l + 2) (hD : Lim w (some ⟨b, bo, none⟩) (l + 1) d ds) (hv : ds.getD l 0 ≠ 0) (hlt : val ws < val ds * 18446744073709551616) (hn : l ≤ 1000000000) :
    Calls Tryd.prog 60 #[.slice (some ⟨g, o, none⟩) ((l + 2 : Nat)) c, .slice (some ⟨b, bo, none⟩) ((l + 1 : Nat)) d] w fun e w' => ∃ G k : Nat, e = .returned (.int .u64 (G : Int)) ∧ G < 18446744073709551616 ∧ val ws / val ds ≤ G ∧ w' = w.drewN k := by
  have c1 := hW.cell (k := l) (by omega)
  have c2 := hW.cell (k := l + 1) (by omega)
  obtain ⟨b', o', hAe, hb, hcl⟩ := hD.at_ (by omega)
  cases hAe
  have c3 := hcl l (by omega)
  clear hcl
  have h2 := ltop_two ws l hws
  have h1 := ltop_one ds l hD.len
  have hlo := val_lt (hW.words.take l)
  rw [List.length_take, Nat.min_eq_left (by omega)] at hlo
  have hxw := hW.words.getD l
  have hyw := hW.words.getD (l + 1)
  have hvw := hD.words.getD l
  generalize ws.getD l 0 = x at c1 h2 hxw
  generalize ws.getD (l + 1) 0 = y at c2 h2 hyw
  generalize ds.getD l 0 = v at c3 h1 hv hvw
  have hV0 : 0 < val ds := by
    rw [h1]
    have := Nat.mul_pos (pw_pos l) (Nat.pos_of_ne_zero hv)
    omega
  by_cases hc : v ≤ y
  · have HG : Hid (val ws / val ds ≤ 18446744073709551615) := by
      have := (Nat.div_lt_iff_lt_mul hV0).2 (by rw [Nat.mul_comm]; exact hlt)
      show _ ≤ _
      omega
    have b1 : decide (v ≤ y) = true := by simp; omega
    clear h1 h2 hlo hlt hV0 hW hD
    go_enter Tryd.func60, Tryd.ntmps60
    go_wp2
    go_quiet (fail)
    go_wp2
    go_ret
    exact ⟨18446744073709551615, _, rfl, by decide, HG.out, rfl⟩
  · have HG : Hid (val ws / val ds ≤ (y * 18446744073709551616 + x) / v) := by
      refine guess_ge (lo := val (ws.take l)) (P := pw l) ?_ hlo (by rw [h1]; exact Nat.le_add_left _ _) (by omega)
      rw [h2]
      congr 2
      omega
    obtain ⟨G, hG⟩ : ∃ G, (y * 18446744073709551616 + x) / v = G := ⟨_, rfl⟩
    have hGb : G < 18446744073709551616 := by
      rw [← hG]
      refine (Nat.div_lt_iff_lt_mul (by omega)).2 ?_
      have : (y + 1) * 18446744073709551616 ≤ v * 18446744073709551616 := Nat.mul_le_mul_right _ (by omega)
      omega
    obtain ⟨r, hr⟩ : ∃ r, (y * 18446744073709551616 + x) % v = r := ⟨_, rfl⟩
    have Hdiv := Lib.hid (fun w => div64_any y x v G r w (by omega) hxw hvw (by rw [← hr]; exact Nat.mod_lt _ (by omega)) (by rw [← hG, ← hr]; exact (Nat.div_add_mod' _ _).symm))
    rw [hG] at HG
    have b1 : decide (v ≤ y) = false := by simp; omega
    clear h1 h2 hlo hlt hV0 hW hD hG hr
    go_enter Tryd.func60, Tryd.ntmps60
    go_wp2
    go_quiet (fail)
    go_wp2
    go_quiet ((go_at_call 55; exact quiet_draws (Hdiv.out _)))
    go_wp2
    go_ret
    exact ⟨G, _, rfl, hGb, HG.out, World.drewN_drewN ..⟩
end Go.Proofs.YtkgbgmhkbigjhaaDoor
