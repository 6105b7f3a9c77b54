/- The walk of planimeterref17.Do (written by law_bdo.py). -/
import Derived.Test.YtckakdhjnejgmaaBgMem
import Derived.Test.YtckakdhjnejgmaaChecked
namespace Go.Proofs.Ytckakdhjnejgmaa
open Go.Conc Go.RowKit

/-- What Do hands back: the document's budget, and a number. -/
def DoTold (w : World) (m l : Nat) (op : Bool) (r : Nat) (e : Ending) (w' : World) : Prop :=
  e = .returned (.tuple #[.agg #[.int .i64 (m : Int), .int .i64 (l : Int), .bool op], .int .i64 (r : Int)]) ∧ Below w.heap.size w w'
theorem below_three (w : World) (o1 o2 o3 : Obj) : Below w.heap.size w (((w.alloc o1).alloc o2).alloc o3) :=
  (((Below.refl _ w).alloc (Nat.le_refl _) _).alloc (by simp) _).alloc (by simp; omega) _

theorem do_0y (m : Nat) (l : Nat) (N : Int) (hl : l + 1 ≤ m) (w : World) (hm : m ≤ 4096) :
    Calls Try.prog 8 #[.agg #[.int .i64 (m : Int), .int .i64 ((l + 1 : Nat) : Int), .bool true], .agg #[.int .i64 0, .int .i64 N]] w (DoTold w m (l) true (1)) := by
  have b1 : decide ((0 : Int) < ((l + 1 : Nat) : Int)) = true := decide_eq_true (by omega)
  have b2 : ((l + 1 : Nat) : Int) - 1 = (l : Int) := by omega
  go_enter Try.func8, Try.ntmps8
  go_wp2
  exact bodyPost_ret (v := .tuple #[.agg #[.int .i64 (m : Int), .int .i64 ((l : Nat) : Int), .bool true], .int .i64 ((1 : Nat) : Int)]) (by simp [results, Try.results8, go_sem]) rfl ⟨rfl, below_three ..⟩

theorem do_0s (m : Nat) (l : Nat) (N : Int) (w : World) :
    Calls Try.prog 8 #[.agg #[.int .i64 (m : Int), .int .i64 ((l : Nat) : Int), .bool false], .agg #[.int .i64 0, .int .i64 N]] w (DoTold w m (l) false (0)) := by
  go_enter Try.func8, Try.ntmps8
  go_wp2
  exact bodyPost_ret (v := .tuple #[.agg #[.int .i64 (m : Int), .int .i64 ((l : Nat) : Int), .bool false], .int .i64 ((0 : Nat) : Int)]) (by simp [results, Try.results8, go_sem]) rfl ⟨rfl, below_three ..⟩

theorem do_0n (m : Nat) (N : Int) (w : World) :
    Calls Try.prog 8 #[.agg #[.int .i64 (m : Int), .int .i64 ((0 : Nat) : Int), .bool true], .agg #[.int .i64 0, .int .i64 N]] w (DoTold w m (0) true (0)) := by
  go_enter Try.func8, Try.ntmps8
  go_wp2
  exact bodyPost_ret (v := .tuple #[.agg #[.int .i64 (m : Int), .int .i64 ((0 : Nat) : Int), .bool true], .int .i64 ((0 : Nat) : Int)]) (by simp [results, Try.results8, go_sem]) rfl ⟨rfl, below_three ..⟩

theorem do_1y (m : Nat) (l n k : Nat) (hl : l ≤ m) (h0 : 0 < n) (hn : n ≤ l) (hk : l - n = k) (w : World) (hm : m ≤ 4096) :
    Calls Try.prog 8 #[.agg #[.int .i64 (m : Int), .int .i64 ((l : Nat) : Int), .bool true], .agg #[.int .i64 1, .int .i64 (n : Int)]] w (DoTold w m (k) true (n)) := by
  have b1 : decide ((0 : Int) < (n : Int)) = true := decide_eq_true (by omega)
  have b2 : decide ((l : Int) < (n : Int)) = false := decide_eq_false (by omega)
  have b3 : (l : Int) - (n : Int) = (k : Int) := by omega
  go_enter Try.func8, Try.ntmps8
  go_wp2
  exact bodyPost_ret (v := .tuple #[.agg #[.int .i64 (m : Int), .int .i64 ((k : Nat) : Int), .bool true], .int .i64 ((n : Nat) : Int)]) (by simp [results, Try.results8, go_sem]) rfl ⟨rfl, below_three ..⟩

theorem do_1m (m : Nat) (l : Nat) (N : Int) (hl : l ≤ m) (hN : (l : Int) < N) (w : World) (hm : m ≤ 4096) :
    Calls Try.prog 8 #[.agg #[.int .i64 (m : Int), .int .i64 ((l : Nat) : Int), .bool true], .agg #[.int .i64 1, .int .i64 N]] w (DoTold w m (0) true (l)) := by
  have b1 : decide ((0 : Int) < N) = true := decide_eq_true (by omega)
  have b2 : decide ((l : Int) < N) = true := decide_eq_true hN
  have b3 : (l : Int) - (l : Int) = 0 := by omega
  go_enter Try.func8, Try.ntmps8
  go_wp2
  exact bodyPost_ret (v := .tuple #[.agg #[.int .i64 (m : Int), .int .i64 ((0 : Nat) : Int), .bool true], .int .i64 ((l : Nat) : Int)]) (by simp [results, Try.results8, go_sem]) rfl ⟨rfl, below_three ..⟩

theorem do_1s (m : Nat) (l : Nat) (N : Int) (w : World) :
    Calls Try.prog 8 #[.agg #[.int .i64 (m : Int), .int .i64 ((l : Nat) : Int), .bool false], .agg #[.int .i64 1, .int .i64 N]] w (DoTold w m (l) false (0)) := by
  go_enter Try.func8, Try.ntmps8
  go_wp2
  exact bodyPost_ret (v := .tuple #[.agg #[.int .i64 (m : Int), .int .i64 ((l : Nat) : Int), .bool false], .int .i64 ((0 : Nat) : Int)]) (by simp [results, Try.results8, go_sem]) rfl ⟨rfl, below_three ..⟩

theorem do_1n (m : Nat) (l : Nat) (N : Int) (hN : N ≤ 0) (w : World) :
    Calls Try.prog 8 #[.agg #[.int .i64 (m : Int), .int .i64 ((l : Nat) : Int), .bool true], .agg #[.int .i64 1, .int .i64 N]] w (DoTold w m (l) true (0)) := by
  have b1 : decide ((0 : Int) < N) = false := decide_eq_false (by omega)
  go_enter Try.func8, Try.ntmps8
  go_wp2
  exact bodyPost_ret (v := .tuple #[.agg #[.int .i64 (m : Int), .int .i64 ((l : Nat) : Int), .bool true], .int .i64 ((0 : Nat) : Int)]) (by simp [results, Try.results8, go_sem]) rfl ⟨rfl, below_three ..⟩

theorem do_2y (m : Nat) (l : Nat) (op : Bool) (N : Int) (hl : l < m) (w : World) (hm : m ≤ 4096) :
    Calls Try.prog 8 #[.agg #[.int .i64 (m : Int), .int .i64 ((l : Nat) : Int), .bool op], .agg #[.int .i64 2, .int .i64 N]] w (DoTold w m (l + 1) op (1)) := by
  have b1 : decide ((l : Int) < (m : Int)) = true := decide_eq_true (by omega)
  go_enter Try.func8, Try.ntmps8
  go_wp2
  exact bodyPost_ret (v := .tuple #[.agg #[.int .i64 (m : Int), .int .i64 ((l + 1 : Nat) : Int), .bool op], .int .i64 ((1 : Nat) : Int)]) (by simp [results, Try.results8, go_sem]) rfl ⟨rfl, below_three ..⟩

theorem do_2n (m : Nat) (l : Nat) (op : Bool) (N : Int) (hl : ¬ l < m) (w : World) :
    Calls Try.prog 8 #[.agg #[.int .i64 (m : Int), .int .i64 ((l : Nat) : Int), .bool op], .agg #[.int .i64 2, .int .i64 N]] w (DoTold w m (l) op (0)) := by
  have b1 : decide ((l : Int) < (m : Int)) = false := decide_eq_false (by omega)
  go_enter Try.func8, Try.ntmps8
  go_wp2
  exact bodyPost_ret (v := .tuple #[.agg #[.int .i64 (m : Int), .int .i64 ((l : Nat) : Int), .bool op], .int .i64 ((0 : Nat) : Int)]) (by simp [results, Try.results8, go_sem]) rfl ⟨rfl, below_three ..⟩

theorem do_3y (m : Nat) (l : Nat) (N : Int) (w : World) :
    Calls Try.prog 8 #[.agg #[.int .i64 (m : Int), .int .i64 ((l : Nat) : Int), .bool true], .agg #[.int .i64 3, .int .i64 N]] w (DoTold w m (l) false (1)) := by
  go_enter Try.func8, Try.ntmps8
  go_wp2
  exact bodyPost_ret (v := .tuple #[.agg #[.int .i64 (m : Int), .int .i64 ((l : Nat) : Int), .bool false], .int .i64 ((1 : Nat) : Int)]) (by simp [results, Try.results8, go_sem]) rfl ⟨rfl, below_three ..⟩

theorem do_3n (m : Nat) (l : Nat) (N : Int) (w : World) :
    Calls Try.prog 8 #[.agg #[.int .i64 (m : Int), .int .i64 ((l : Nat) : Int), .bool false], .agg #[.int .i64 3, .int .i64 N]] w (DoTold w m (l) false (0)) := by
  go_enter Try.func8, Try.ntmps8
  go_wp2
  exact bodyPost_ret (v := .tuple #[.agg #[.int .i64 (m : Int), .int .i64 ((l : Nat) : Int), .bool false], .int .i64 ((0 : Nat) : Int)]) (by simp [results, Try.results8, go_sem]) rfl ⟨rfl, below_three ..⟩

theorem do_else (m : Nat) (l : Nat) (op : Bool) (k N : Int) (k0 : k ≠ 0) (k1 : k ≠ 1) (k2 : k ≠ 2) (k3 : k ≠ 3) (w : World) :
    Calls Try.prog 8 #[.agg #[.int .i64 (m : Int), .int .i64 ((l : Nat) : Int), .bool op], .agg #[.int .i64 k, .int .i64 N]] w (DoTold w m (l) op (0)) := by
  have c0 : (k == 0) = false := beq_eq_false_iff_ne.2 k0
  have c1 : (k == 1) = false := beq_eq_false_iff_ne.2 k1
  have c2 : (k == 2) = false := beq_eq_false_iff_ne.2 k2
  have c3 : (k == 3) = false := beq_eq_false_iff_ne.2 k3
  clear k0 k1 k2 k3
  go_enter Try.func8, Try.ntmps8
  go_wp2
  exact bodyPost_ret (v := .tuple #[.agg #[.int .i64 (m : Int), .int .i64 ((l : Nat) : Int), .bool op], .int .i64 ((0 : Nat) : Int)]) (by simp [results, Try.results8, go_sem]) rfl ⟨rfl, below_three ..⟩

/-- How many there are behind a call of the document's. -/
def doL (k N : Int) (m l : Nat) (op : Bool) : Nat := if k = 0 then l - taken 1 l op else if k = 1 then l - taken N.toNat l op else if k = 2 then given m l else l
/-- .. what it tells. -/
def doR (k N : Int) (m l : Nat) (op : Bool) : Nat := if k = 0 then taken 1 l op else if k = 1 then taken N.toNat l op else if k = 2 then (if l < m then 1 else 0) else if k = 3 then (if op then 1 else 0) else 0
/-- .. whether it is open. -/
def doO (k : Int) (op : Bool) : Bool := if k = 3 then false else op
theorem do_any (k N : Int) (m l : Nat) (op : Bool) (w : World) (hm : m ≤ 4096) (hl : l ≤ m) :
    Calls Try.prog 8 #[.agg #[.int .i64 (m : Int), .int .i64 (l : Int), .bool op], .agg #[.int .i64 k, .int .i64 N]] w (DoTold w m (doL k N m l op) (doO k op) (doR k N m l op)) := by
  by_cases k0 : k = 0
  · subst k0
    cases op
    · exact do_0s m l N w
    · rcases l with _ | l
      · exact do_0n m N w
      · have e : taken 1 (l + 1) true = 1 := by unfold taken; rw [if_pos rfl]; omega
        have h := do_0y m l N hl w hm
        show Calls _ _ _ w (DoTold w m (l + 1 - taken 1 (l + 1) true) true (taken 1 (l + 1) true))
        rw [e]; exact h
  by_cases k1 : k = 1
  · subst k1
    cases op
    · exact do_1s m l N w
    · show Calls _ _ _ w (DoTold w m (l - taken N.toNat l true) true (taken N.toNat l true))
      by_cases h0 : N ≤ 0
      · have e : taken N.toNat l true = 0 := by unfold taken; rw [if_pos rfl]; omega
        rw [e]; exact do_1n m l N h0 w
      · by_cases hN : (l : Int) < N
        · have e : taken N.toNat l true = l := by unfold taken; rw [if_pos rfl]; omega
          rw [e, Nat.sub_self]; exact do_1m m l N hl hN w hm
        · obtain ⟨n, rfl⟩ := Int.eq_ofNat_of_zero_le (show 0 ≤ N by omega)
          have e : taken (n : Int).toNat l true = n := by unfold taken; rw [if_pos rfl]; omega
          rw [e]; exact do_1y m l n (l - n) hl (by omega) (by omega) rfl w hm
  by_cases k2 : k = 2
  · subst k2
    show Calls _ _ _ w (DoTold w m (given m l) op (if l < m then 1 else 0))
    by_cases h : l < m
    · unfold given; rw [if_pos h, if_pos h]; exact do_2y m l op N h w hm
    · unfold given; rw [if_neg h, if_neg h]; exact do_2n m l op N h w
  by_cases k3 : k = 3
  · subst k3
    cases op
    · exact do_3n m l N w
    · exact do_3y m l N w
  · have h := do_else m l op k N k0 k1 k2 k3 w
    unfold doL doO doR
    rw [if_neg k0, if_neg k1, if_neg k2, if_neg k3, if_neg k0, if_neg k1, if_neg k2, if_neg k3]
    exact h
end Go.Proofs.Ytckakdhjnejgmaa
