/- The walks of budget's TakeAll and New. -/
import Derived.Test.YtckakdhjnejgmaaBgSel
import Derived.Deep.LoopGhost
namespace Go.Proofs.Ytckakdhjnejgmaa
open Go.Conc Go.RowKit

theorem takeall_l (b c most left : Nat) (op : Bool) (n : Int) (w : World) (h : Bud w b c most left op) (hm : most ≤ 4096) :
    Calls Try.prog 10 #[.pointer (some ⟨b, 0, none⟩), .int .i64 n] w fun e w' => e = .returned (.int .i64 ((taken n.toNat left op : Nat) : Int)) ∧ Bud w' b c most (left - taken n.toNat left op) op ∧ Ours b c w w' := by
  have hle := h.le
  obtain ⟨T, hT⟩ : ∃ T, T = taken n.toNat left op := ⟨_, rfl⟩
  rw [← hT]
  have hTl : T ≤ left := by rw [hT]; unfold taken; split <;> omega
  have H0 : Hid (Bud w b c most (left - 0) op ∧ Ours b c w w) := ⟨h, Ours.refl ..⟩
  have HT := Lib.hid hT
  clear hT h
  go_enter Try.func10, Try.ntmps10
  go_wp2
  go_loopg [5] T (fun g s wr => ∃ k : Nat, s = .int .i64 (k : Int) ∧ k ≤ T ∧ Hid (T - k = g) ∧ Hid (Bud wr b c most (left - k) op ∧ Ours b c w wr))
  case atStart => exact ⟨0, rfl, Nat.zero_le _, rfl, H0⟩
  case round =>
    clear H0
    obtain ⟨k, rfl, hk, Hg, H⟩ := hrel
    by_cases hn : (k : Int) < n
    · have b1 : decide ((k : Int) < n) = true := decide_eq_true hn
      have Hc := Lib.hid (take_l b c most (left - k) op wr H.out.1)
      obtain ⟨t, ht⟩ : ∃ t, t = decide (taken 1 (left - k) op = 1) := ⟨_, rfl⟩
      rw [← ht] at Hc
      have Ht := Lib.hid ht
      have Hn := Lib.hid hn
      clear ht hn
      go_wp2_with fail
      refine Hc.out.mono ?_
      rintro e w5 ⟨rfl, h1, h2⟩
      clear Hc
      cases t
      · have hz : k = T := by
          have e1 := of_decide_eq_false Ht.out.symm
          have e2 := HT.out
          unfold taken at e1 e2
          cases op <;> simp at e1 e2 <;> omega
        have HF : Hid (Bud w5 b c most (left - T) op ∧ Ours b c w w5) := by
          rw [← hz]
          have e1 := of_decide_eq_false Ht.out.symm
          have e3 : taken 1 (left - k) op = 0 := by unfold taken at e1 ⊢; cases op <;> simp at e1 ⊢; omega
          rw [e3] at h1
          exact ⟨h1, H.out.2.trans h2⟩
        clear h1 h2 Ht b1 Hg H
        subst hz
        go_wp2
        go_ret
        exact ⟨rfl, HF.out⟩
      · have hz : k + 1 ≤ T := by
          have e1 := of_decide_eq_true Ht.out.symm
          have e2 := HT.out
          have e3 := Hn.out
          unfold taken at e1 e2
          cases op <;> simp at e1 e2
          omega
        have HF : Hid (Bud w5 b c most (left - (k + 1)) op ∧ Ours b c w w5) := by
          have e1 := of_decide_eq_true Ht.out.symm
          rw [e1] at h1
          exact ⟨by rw [← Nat.sub_sub]; exact h1, H.out.2.trans h2⟩
        have Hlt : Hid (T - (k + 1) < gk) := by show _ < _; rw [← Hg.out]; omega
        clear h1 h2 Ht b1 Hg H
        go_wp2
        go_roundg (T - (k + 1))
        case rel => exact ⟨k + 1, by push_cast; rfl, hz, rfl, HF⟩
        case measure => exact Hlt.out
    · have b1 : decide ((k : Int) < n) = false := decide_eq_false hn
      have hz : k = T := by
        have e2 := HT.out
        unfold taken at e2
        cases op <;> simp at e2 <;> omega
      have HF := H
      clear hn Hg H
      subst hz
      go_wp2
      go_ret
      exact ⟨rfl, HF.out⟩
theorem takeall_nil (n : Int) (w : World) :
    Calls Try.prog 10 #[.pointer none, .int .i64 n] w fun e w' => e = .returned (.int .i64 0) ∧ w = w' := by
  have HT := Lib.hid (take_nil w)
  go_enter Try.func10, Try.ntmps10
  go_wp2
  go_loopg [5] 0 (fun g s wr => s = .int .i64 0 ∧ w = wr)
  case atStart => exact ⟨rfl, rfl⟩
  case round =>
    obtain ⟨rfl, rfl⟩ := hrel
    by_cases hn : (0 : Int) < n
    · have b1 : decide ((0 : Int) < n) = true := decide_eq_true hn
      go_wp2_with fail
      refine HT.out.mono ?_
      rintro e w5 ⟨rfl, rfl⟩
      go_wp2
      go_ret
      exact ⟨rfl, rfl⟩
    · have b1 : decide ((0 : Int) < n) = false := decide_eq_false hn
      go_wp2
      go_ret
      exact ⟨rfl, rfl⟩
theorem bytes_none : ∃ i, Try.prog.info? 43 = some i ∧ i.bytes = 0 := by
  have h : (Try.prog.info? 43).map (·.bytes) = some 0 := by kernel_rfl
  obtain ⟨i, hi, hb⟩ := Option.map_eq_some_iff.1 h
  exact ⟨i, hi, hb⟩
theorem make_l (m : Nat) (hm : m ≤ 4096) (w : World) : (Instr.makeChan 40 (.int .i64 (m : Int))).run Try.prog w = .ok (.chan (some w.heap.size)) (w.alloc (.chan m #[] false 0 0 false)) := by
  obtain ⟨i, hi, hb⟩ := bytes_none
  exact run_makeChan (P := Try.prog) (w := w) Try.underlying40 hi .i64 m (by omega) (by rw [hb]; omega)
/-- A new budget, still empty. -/
def fresh (w : World) (m : Nat) : World := (w.alloc (.chan m #[] false 0 0 false)).alloc (.cells #[.chan (some w.heap.size), .bool false] 42)
theorem fresh_bud (w : World) (m : Nat) : Bud (fresh w m) (w.heap.size + 1) w.heap.size m 0 true := by
  refine ⟨by omega, ?_, Nat.zero_le _, #[], 0, 0, rfl, ?_⟩
  · have := heap_alloc_new (w.alloc (.chan m #[] false 0 0 false)) (.cells #[.chan (some w.heap.size), .bool false] 42)
    show (fresh w m).heap[w.heap.size + 1]? = some (.cells #[.chan (some w.heap.size), .bool false] 42)
    unfold fresh
    simpa only [World.size_alloc] using this
  · unfold fresh
    rw [Below.heap_alloc _ _ _ (by simp)]
    exact heap_alloc_new w _
theorem fresh_below (w : World) (m : Nat) : Below w.heap.size w (fresh w m) := ((Below.refl _ w).alloc (Nat.le_refl _) _).alloc (by simp) _
theorem fresh_size (w : World) (m : Nat) : (fresh w m).heap.size = w.heap.size + 2 := by simp [fresh]

theorem new_no (most : Int) (w : World) (h : most < 0 ∨ 4096 < most) :
    Calls Try.prog 7 #[.int .i64 most] w fun e w' => e = .returned (.tuple #[.pointer none, .int .i64 1]) ∧ w = w' := by
  go_enter Try.func7, Try.ntmps7
  by_cases h0 : most < 0
  · have b1 : decide (most < 0) = true := decide_eq_true h0
    clear h h0
    go_wp2
    go_ret2
    exact ⟨rfl, rfl⟩
  · have b1 : decide (most < 0) = false := decide_eq_false h0
    have b2 : decide (4096 < most) = true := decide_eq_true (by omega)
    clear h h0
    go_wp2
    go_ret2
    exact ⟨rfl, rfl⟩
theorem new_l (m : Nat) (w : World) (h : m ≤ 4096) :
    Calls Try.prog 7 #[.int .i64 (m : Int)] w fun e w' => e = .returned (.tuple #[.pointer (some ⟨w.heap.size + 1, 0, none⟩), .int .i64 0]) ∧ Bud w' (w.heap.size + 1) w.heap.size m m true ∧ Below w.heap.size w w' ∧ w'.heap.size = w.heap.size + 2 := by
  have b1 : decide ((m : Int) < 0) = false := decide_eq_false (by omega)
  have b2 : decide (4096 < (m : Int)) = false := decide_eq_false (by omega)
  have hmk := make_l m h
  have HF0 : Hid (Bud (fresh w m) (w.heap.size + 1) w.heap.size m 0 true ∧ Ours (w.heap.size + 1) w.heap.size (fresh w m) (fresh w m)) := ⟨fresh_bud w m, Ours.refl ..⟩
  have Hs : Hid (Below w.heap.size w (fresh w m) ∧ (fresh w m).heap.size = w.heap.size + 2) := ⟨fresh_below w m, fresh_size w m⟩
  obtain ⟨W, hW⟩ : ∃ W, W = fresh w m := ⟨_, rfl⟩
  rw [← hW] at HF0 Hs
  unfold fresh at hW
  go_enter Try.func7, Try.ntmps7
  go_wp2
  rw [← hW]
  go_loopg [16] m (fun g s wr => ∃ k : Nat, s = .int .i64 (k : Int) ∧ k ≤ m ∧ Hid (m - k = g) ∧ Hid (Bud wr (w.heap.size + 1) w.heap.size m k true ∧ Ours (w.heap.size + 1) w.heap.size W wr))
  case atStart => exact ⟨0, rfl, Nat.zero_le _, rfl, HF0⟩
  case round =>
    clear HF0 b1 b2 hmk hW
    obtain ⟨k, rfl, hk, Hg, H⟩ := hrel
    by_cases hn : k < m
    · have b1 : decide ((k : Int) < (m : Int)) = true := decide_eq_true (by omega)
      have Hc := Lib.hid (give_l (w.heap.size + 1) w.heap.size m k true wr H.out.1)
      go_wp2_with fail
      refine Hc.out.mono ?_
      rintro e w5 ⟨rfl, h1, h2⟩
      have HF : Hid (Bud w5 (w.heap.size + 1) w.heap.size m (k + 1) true ∧ Ours (w.heap.size + 1) w.heap.size W w5) := by
        have e1 : given m k = k + 1 := if_pos hn
        rw [e1] at h1
        exact ⟨h1, H.out.2.trans h2⟩
      have Hlt : Hid (m - (k + 1) < gk) := by show _ < _; rw [← Hg.out]; omega
      clear Hc h1 h2 b1 Hg H
      go_wp2
      go_roundg (m - (k + 1))
      case rel => exact ⟨k + 1, by push_cast; rfl, by omega, rfl, HF⟩
      case measure => exact Hlt.out
    · have b1 : decide ((k : Int) < (m : Int)) = false := decide_eq_false (by omega)
      obtain rfl : k = m := by omega
      have HF : Hid (Bud wr (w.heap.size + 1) w.heap.size k k true ∧ Below w.heap.size w wr ∧ wr.heap.size = w.heap.size + 2) :=
        ⟨H.out.1, H.out.2.below Hs.out.1 (by omega) (by omega), H.out.2.2.2.2.1.trans Hs.out.2⟩
      clear Hg H Hs hn
      go_wp2
      go_ret2
      exact ⟨rfl, HF.out⟩
end Go.Proofs.Ytckakdhjnejgmaa
