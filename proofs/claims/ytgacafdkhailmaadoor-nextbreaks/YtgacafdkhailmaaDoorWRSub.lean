/- The walk of planimeterref01.Sub. -/
import Derived.Test.YtgacafdkhailmaaDoorWRCmp
namespace Go.Proofs.YtgacafdkhailmaaDoor
open Go.RowKit

section
variable {kd : IntKind} {t : TypeId} {w : World} {B n c : Nat} {A : Option Addr} {es : List Nat}
theorem Own.form (h : Own kd t w B (.slice A n c) es) (hl : es.length = n) (hn : 0 < n) : ∃ g, A = some ⟨g, 0, none⟩ ∧ B ≤ g := by
  obtain ⟨_, h | ⟨g, cap, cur, hv, hg, _⟩⟩ := h
  · obtain ⟨_, h⟩ := h; omega
  · injection hv with e1 e2 e3
    exact ⟨g, e1, hg⟩
theorem Own.cellAt {g : Nat} (h : Own kd t w B (.slice (some ⟨g, 0, none⟩) n c) es) (hl : es.length = n) {j : Nat} (hj : j < n) : w.cell? ⟨g, j, none⟩ = some (.int kd ((es.getD j 0 : Nat) : Int)) := by
  unfold Own at h
  rw [hl] at h
  rw [World.ownsRow.cellAt h j (by omega), List.getElem?_map, List.getD_eq_getElem?_getD, List.getElem?_eq_getElem (by omega)]
  rfl
theorem Own.frozenAt {g : Nat} (h : Own kd t w B (.slice (some ⟨g, 0, none⟩) n c) es) (hl : es.length = n) (j : Nat) : w.frozen? ⟨g, j, none⟩ = false := by
  unfold Own at h
  rw [hl] at h
  exact World.ownsRow.frozenAt h j
theorem Own.set {g : Nat} (h : Own kd t w B (.slice (some ⟨g, 0, none⟩) n c) es) (hl : es.length = n) (j z : Nat) : Own kd t (w.setCell ⟨g, j, none⟩ (.int kd (z : Int))) B (.slice (some ⟨g, 0, none⟩) n c) (es.set j z) := by
  unfold Own at h ⊢
  rw [hl] at h
  have := (World.ownsRow.stored h j (.int kd (z : Int))).1
  rw [List.length_set, hl, List.map_set]
  exact this
end

theorem dsub_step {x y bn s t k X Y Z : Nat} (hs : s + (bn + y) = x + 65536 * t) (h : Z + Y = X + D.pw k * bn) : Z + D.pw k * s + (Y + D.pw k * y) = X + D.pw k * x + D.pw (k + 1) * t := by
  have e : D.pw (k + 1) * t = D.pw k * (65536 * t) := by rw [D.pw_succ, Nat.mul_assoc, ← Nat.mul_assoc, ← Nat.mul_assoc, Nat.mul_comm (D.pw k)]
  have e2 : D.pw k * (s + (bn + y)) = D.pw k * (x + 65536 * t) := by rw [hs]
  rw [Nat.mul_add, Nat.mul_add, Nat.mul_add] at e2
  omega
theorem dsub_end {X Y Z bn k : Nat} (h : Z + Y = X + D.pw k * bn) (hb : bn ≤ 1) (hz : Z < D.pw k) (hle : Y ≤ X) : Z = X - Y := by
  have : bn = 0 ∨ bn = 1 := by omega
  rcases this with rfl | rfl
  · simp at h; omega
  · simp at h; omega
theorem set_take {es : List Nat} {k z : Nat} (hk : k < es.length) : D.val ((es.set k z).take (k + 1)) = D.val (es.take k) + D.pw k * z := by
  rw [D.val_take_succ _ k (by simpa using hk), List.take_set_of_le (Nat.le_refl _)]
  congr 2
  rw [List.getD_eq_getElem?_getD, List.getElem?_set_self hk]; rfl
theorem set_words {es : List Nat} {k z : Nat} (h : D.Words es) (hz : z < 65536) : D.Words (es.set k z) := by
  intro x hx
  rcases List.mem_or_eq_of_mem_set hx with h' | h'
  · exact h x h'
  · rw [h']; exact hz

set_option maxHeartbeats 4000000 in
theorem rsub_any (A : Option Addr) (n c : Nat) (us : List Nat) (B : Option Addr) (m d : Nat) (bs : List Nat) (w : World) (hA : Dig w A n c us) (hB : Dig w B m d bs) (bb : D.Bare bs) (hle : D.val bs ≤ D.val us) (hn : n ≤ 1000000) (hm : m ≤ 1000000) :
    Calls Tryd.prog 80 #[.slice A n c, .slice B m d] w (DTells w (D.val us - D.val bs) n) := by
  have hmn : m ≤ n := by
    have h1 := D.tl_le_of_val_le hA.words hle
    rw [bb, hB.len] at h1
    have := hA.tl_le
    omega
  have HA := Lib.hid hA
  have HB := Lib.hid hB
  have Hle := Lib.hid hle
  obtain ⟨A1, c1, w1, hrun, ho1, hb1⟩ := app_copy w A n c us hA.1 (by omega)
  have Hrun := Lib.hid hrun
  have Ho1 := Lib.hid ho1
  clear hA hB bb hle hrun ho1
  go_enter Tryd.func80, Tryd.ntmps80
  go_wp2_with (at_builtin; refine wpList_app (s := .tmp 9) (x := .tmp 10) (by rfl) rfl rfl rfl Hrun.out ?_)
  go_loopw [6, 7] (fun cy i wr => ∃ (k bn : Nat) (es : List Nat), k ≤ n ∧ bn ≤ 1 ∧ i = .int .i64 k ∧ cy = .int .u32 bn ∧ Hid (es.length = n) ∧ Hid (Own .u32 62 wr w.heap.size (.slice A1 n c1) es) ∧ Hid (D.Words es) ∧ Hid (∀ j, k ≤ j → es.getD j 0 = us.getD j 0) ∧ Hid (D.val (es.take k) + D.val (bs.take k) = D.val (us.take k) + D.pw k * bn) ∧ Below w.heap.size w wr) (fun _ i _ => n - (intOf i).toNat)
  case atStart => exact ⟨0, 0, us, Nat.zero_le _, Nat.zero_le _, rfl, rfl, HA.out.len, Ho1, HA.out.words, fun j _ => rfl, by simp [Hid, D.val], hb1⟩
  case round =>
    obtain ⟨k, bn, es, hk, hbn, rfl, rfl, Hl, Ho, Hw, Hr, HE, hb⟩ := hrel
    by_cases hlt : k < n
    · obtain ⟨g, rfl, hg⟩ := Ho.out.form Hl.out (by omega)
      have c2 := Ho.out.cellAt Hl.out hlt
      have c3 := Ho.out.frozenAt Hl.out k
      obtain ⟨x, hx⟩ : ∃ x, us.getD k 0 = x := ⟨_, rfl⟩
      obtain ⟨y, hy⟩ : ∃ y, bs.getD k 0 = y := ⟨_, rfl⟩
      have hxw := HA.out.words.getD k
      have hyw := HB.out.words.getD k
      rw [Hr.out k (Nat.le_refl _), hx] at c2
      rw [hx] at hxw
      rw [hy] at hyw
      have hlb := HB.out.len
      have key : ∀ s t, s + (bn + y) = x + 65536 * t → s < 65536 → Hid ((es.set k s).length = n) ∧ Hid (D.Words (es.set k s)) ∧ Hid (∀ j, k + 1 ≤ j → (es.set k s).getD j 0 = us.getD j 0) ∧ Hid (D.val ((es.set k s).take (k + 1)) + D.val (bs.take (k + 1)) = D.val (us.take (k + 1)) + D.pw (k + 1) * t) := by
        intro s t hst hs
        refine ⟨by have := Hl.out; simp [Hid]; exact this, set_words Hw.out hs, fun j hj => ?_, ?_⟩
        · rw [List.getD_eq_getElem?_getD, List.getElem?_set_ne (by omega), ← List.getD_eq_getElem?_getD]
          exact Hr.out j (by omega)
        · have h1 := dsub_step hst HE.out
          rw [← hx, ← hy, ← D.val_take_succ', ← D.val_take_succ'] at h1
          rw [set_take (by have := Hl.out; omega)]
          exact h1
      have Hkey := Lib.hid key
      have Hx := Lib.hid hx
      have Hy := Lib.hid hy
      clear key hx hy
      by_cases h1 : k < m
      · by_cases h2 : x < bn + y
        · obtain ⟨bb, ob, rfl, hbb, hcl⟩ := HB.out.at_ (by omega)
          have cb := (hb.cell (p := ⟨bb, ob + k, none⟩) hbb).trans (hcl k (by omega))
          rw [Hy.out] at cb
          have b1 : decide (k < m) = true := by simp; omega
          clear hcl
          obtain ⟨s, hs⟩ : ∃ s, s + (bn + y) = x + 65536 * 1 := ⟨x + 65536 - (bn + y), by omega⟩
          obtain ⟨k1, k2, k3, k4⟩ := Hkey.out s 1 hs (by omega)
          have e1 : (x : Int) + 65536 - ((bn : Int) + (y : Int)) = (s : Int) := by omega
          have b2 : decide ((x : Int) < (bn : Int) + (y : Int)) = true := by simp; omega
          have Hown := Lib.hid ((Ho.out.set Hl.out k (x + 65536)).set (by have := Hl.out; simp; exact this) k s)
          rw [List.set_set] at Hown
          have hbel := (hb.setCell (p := ⟨g, k, none⟩) hg (.int .u32 ((x + 65536 : Nat) : Int))).setCell (p := ⟨g, k, none⟩) hg (.int .u32 (s : Int))
          rw [show ((x + 65536 : Nat) : Int) = (x : Int) + 65536 from by omega] at hbel Hown
          clear hs
          go_wp2
          go_roundw
          case rel => exact ⟨k + 1, 1, es.set k s, by omega, by omega, by go_num, rfl, k1, Hown, k2, k3, k4, hbel⟩
          case measure => simp [intOf]; omega
        · obtain ⟨bb, ob, rfl, hbb, hcl⟩ := HB.out.at_ (by omega)
          have cb := (hb.cell (p := ⟨bb, ob + k, none⟩) hbb).trans (hcl k (by omega))
          rw [Hy.out] at cb
          have b1 : decide (k < m) = true := by simp; omega
          clear hcl
          obtain ⟨s, hs⟩ : ∃ s, s + (bn + y) = x + 65536 * 0 := ⟨x - (bn + y), by omega⟩
          obtain ⟨k1, k2, k3, k4⟩ := Hkey.out s 0 hs (by omega)
          have e1 : (x : Int) - ((bn : Int) + (y : Int)) = (s : Int) := by omega
          have b2 : decide ((x : Int) < (bn : Int) + (y : Int)) = false := by simp; omega
          have Hown := Lib.hid (Ho.out.set Hl.out k s)
          have hbel := hb.setCell (p := ⟨g, k, none⟩) hg (.int .u32 (s : Int))
          clear hs
          go_wp2
          go_roundw
          case rel => exact ⟨k + 1, 0, es.set k s, by omega, by omega, by go_num, rfl, k1, Hown, k2, k3, k4, hbel⟩
          case measure => simp [intOf]; omega
      · have hy00 : y = 0 := by rw [← Hy.out]; exact getD_past (by omega)
        by_cases h2 : x < bn
        · clear hy00
          have hy0 : y = 0 := by rw [← Hy.out]; exact getD_past (by omega)
          have b1 : decide (k < m) = false := by simp; omega
          obtain ⟨s, hs⟩ : ∃ s, s + (bn + y) = x + 65536 * 1 := ⟨x + 65536 - (bn + y), by omega⟩
          obtain ⟨k1, k2, k3, k4⟩ := Hkey.out s 1 hs (by omega)
          have e1 : (x : Int) + 65536 - ((bn : Int)) = (s : Int) := by omega
          have b2 : decide ((x : Int) < (bn : Int)) = true := by simp; omega
          have Hown := Lib.hid ((Ho.out.set Hl.out k (x + 65536)).set (by have := Hl.out; simp; exact this) k s)
          rw [List.set_set] at Hown
          have hbel := (hb.setCell (p := ⟨g, k, none⟩) hg (.int .u32 ((x + 65536 : Nat) : Int))).setCell (p := ⟨g, k, none⟩) hg (.int .u32 (s : Int))
          rw [show ((x + 65536 : Nat) : Int) = (x : Int) + 65536 from by omega] at hbel Hown
          clear hs hy0
          go_wp2
          go_roundw
          case rel => exact ⟨k + 1, 1, es.set k s, by omega, by omega, by go_num, rfl, k1, Hown, k2, k3, k4, hbel⟩
          case measure => simp [intOf]; omega
        · clear hy00
          have hy0 : y = 0 := by rw [← Hy.out]; exact getD_past (by omega)
          have b1 : decide (k < m) = false := by simp; omega
          obtain ⟨s, hs⟩ : ∃ s, s + (bn + y) = x + 65536 * 0 := ⟨x - (bn + y), by omega⟩
          obtain ⟨k1, k2, k3, k4⟩ := Hkey.out s 0 hs (by omega)
          have e1 : (x : Int) - ((bn : Int)) = (s : Int) := by omega
          have b2 : decide ((x : Int) < (bn : Int)) = false := by simp; omega
          have Hown := Lib.hid (Ho.out.set Hl.out k s)
          have hbel := hb.setCell (p := ⟨g, k, none⟩) hg (.int .u32 (s : Int))
          clear hs hy0
          go_wp2
          go_roundw
          case rel => exact ⟨k + 1, 0, es.set k s, by omega, by omega, by go_num, rfl, k1, Hown, k2, k3, k4, hbel⟩
          case measure => simp [intOf]; omega
    · obtain rfl : k = n := by omega
      have hV : D.val es = D.val us - D.val bs := by
        have e1 := HE.out
        rw [List.take_of_length_le (l := es) (by have := Hl.out; omega), List.take_of_length_le (l := bs) (by have := HB.out.len; omega), List.take_of_length_le (l := us) (by have := HA.out.len; omega)] at e1
        have e2 := D.val_lt Hw.out
        rw [Hl.out] at e2
        exact dsub_end e1 hbn e2 Hle.out
      have hN := (norm_any A1 k c1 es _ (Ho.out.dig Hl.out Hw.out) (by omega)).mono (R' := DTells w (D.val us - D.val bs) k) (fun e w' h => by
        obtain ⟨A', m', c', fs, h1, h2, h3, h4, h5, h6⟩ := h
        exact ⟨A', m', c', fs, h1, h2, h3, h4, h5.trans hV, hb.trans (h6.mono hb.size)⟩)
      have HN := Lib.hid hN
      clear hV hN
      go_wp2_with fail
      refine HN.out.mono ?_
      intro e w' hr
      obtain ⟨A', m', c', fs, rfl, h3⟩ := hr
      have H3 := Lib.hid h3
      clear h3
      go_wp2
      go_ret
      exact ⟨A', m', c', fs, rfl, H3.out⟩
end Go.Proofs.YtgacafdkhailmaaDoor
