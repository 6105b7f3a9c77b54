/- The walk of planimeterlaw09.far (written by law_dfar.py). -/
import Derived.Test.YtfccpjjdemanbaaDdWithin
namespace Go.Proofs.Ytfccpjjdemanbaa
open Go.RowKit

theorem far_nil1 (g : Bool) (A : Option Addr) (m : Nat) (c : Nat) (e1 : Int) (k : Bool) (B : Option Addr) (d : Nat) (e2 : Int) (w : World) :
    Calls Try.prog 27 #[.agg #[.bool g, .slice A 0 c, .int .i64 e1], .agg #[.bool k, .slice B m d, .int .i64 e2]] w fun e w' => e = .returned (.bool true) ∧ Below w.heap.size w w' := by
  have HS := Lib.hid (below_two w (.cells #[.bool g, .slice A 0 c, .int .i64 e1] 29) (.cells #[.bool k, .slice B m d, .int .i64 e2] 29))
  go_enter Try.func27, Try.ntmps27
  go_wp2_with fail
  go_quiet (fail)
  go_wp2
  go_ret
  exact ⟨rfl, below_drewN HS.out _⟩

theorem far_nil2 (g : Bool) (A : Option Addr) (n : Nat) (hn0 : n ≠ 0) (c : Nat) (e1 : Int) (k : Bool) (B : Option Addr) (d : Nat) (e2 : Int) (w : World) :
    Calls Try.prog 27 #[.agg #[.bool g, .slice A n c, .int .i64 e1], .agg #[.bool k, .slice B 0 d, .int .i64 e2]] w fun e w' => e = .returned (.bool true) ∧ Below w.heap.size w w' := by
  have HS := Lib.hid (below_two w (.cells #[.bool g, .slice A n c, .int .i64 e1] 29) (.cells #[.bool k, .slice B 0 d, .int .i64 e2] 29))
  have q1 : ((n : Int) == 0) = false := beq_no (by omega)
  go_enter Try.func27, Try.ntmps27
  go_wp2_with fail
  go_quiet (fail)
  go_wp2
  go_ret
  exact ⟨rfl, below_drewN HS.out _⟩

set_option maxHeartbeats 1000000 in
theorem far_all (v : Bool) (g : Bool) (A : Option Addr) (n c : Nat) (ds : List Nat) (e1 : Int) (k : Bool) (B : Option Addr) (m d : Nat) (es : List Nat) (e2 : Int) (w : World) (hA : Dig w A n c ds) (hB : Dig w B m d es) (ba : D.Bare ds) (bb : D.Bare es) (hn : n ≤ 240) (hm : m ≤ 240) (h1 : -1000000 ≤ e1) (h2 : e1 ≤ 1000000) (h3 : -1000000 ≤ e2) (h4 : e2 ≤ 1000000) (hV : D.val ds ≠ 0) (hU : D.val es ≠ 0) (ht : ¬ rtop (D.val ds) e1 + rtop (D.val es) e2 < -700) (hv : decide (900 < rtop (D.val ds) e1 + rtop (D.val es) e2) = v) :
    Calls Try.prog 27 #[.agg #[.bool g, .slice A n c, .int .i64 e1], .agg #[.bool k, .slice B m d, .int .i64 e2]] w fun e w' => e = .returned (.bool v) ∧ Below w.heap.size w w' := by
  have h0 := HN.start w g A n c ds e1 k B m d es e2 hA hB
  have K0 := Lib.hid (h0.below (below_drew _)).cells
  obtain ⟨T1, hT1⟩ : ∃ x, rtop (D.val ds) e1 = x := ⟨_, rfl⟩
  obtain ⟨T2, hT2⟩ : ∃ x, rtop (D.val es) e2 = x := ⟨_, rfl⟩
  have HT1 : Hid (∀ u, CellsN w w.heap.size g A n c ds e1 (w.heap.size + 1) k B m d es e2 u → Calls Try.prog 21 #[.agg #[.bool g, .slice A n c, .int .i64 e1]] u fun e w' => e = .returned (.int .i64 T1) ∧ CellsN w w.heap.size g A n c ds e1 (w.heap.size + 1) k B m d es e2 w') := fun u hu => by
    have h := hu.2.2.2.2.2.2.out
    refine (rtop_l T1 g A n c ds e1 u h.2.2.1 ba (by omega) (by omega) (by omega) hT1).mono ?_
    rintro e w' ⟨rfl, hb'⟩
    exact ⟨rfl, (h.below hb').cells⟩
  have HT2 : Hid (∀ u, CellsN w w.heap.size g A n c ds e1 (w.heap.size + 1) k B m d es e2 u → Calls Try.prog 21 #[.agg #[.bool k, .slice B m d, .int .i64 e2]] u fun e w' => e = .returned (.int .i64 T2) ∧ CellsN w w.heap.size g A n c ds e1 (w.heap.size + 1) k B m d es e2 w') := fun u hu => by
    have h := hu.2.2.2.2.2.2.out
    refine (rtop_l T2 k B m d es e2 u h.2.2.2.1 bb (by omega) (by omega) (by omega) hT2).mono ?_
    rintro e w' ⟨rfl, hb'⟩
    exact ⟨rfl, (h.below hb').cells⟩
  have q1 : ((n : Int) == 0) = false := beq_no (by have := dnil_iff hA ba; omega)
  have q2 : ((m : Int) == 0) = false := beq_no (by have := dnil_iff hB bb; omega)
  have bT1 : -2000000 ≤ T1 ∧ T1 ≤ 2000000 := by
    have hlt := D.val_lt hA.words
    rw [hA.len, D.pw_two] at hlt
    have hbl : blen (D.val ds) ≤ 16 * n := blen_le_iff.2 hlt
    have : T1 = (blen (D.val ds) : Int) - 1 + e1 := hT1.symm
    omega
  have bT2 : -2000000 ≤ T2 ∧ T2 ≤ 2000000 := by
    have hlt := D.val_lt hB.words
    rw [hB.len, D.pw_two] at hlt
    have hbl : blen (D.val es) ≤ 16 * m := blen_le_iff.2 hlt
    have : T2 = (blen (D.val es) : Int) - 1 + e2 := hT2.symm
    omega
  obtain ⟨T, hT⟩ : ∃ x, T1 + T2 = x := ⟨_, rfl⟩
  have hwT : IntKind.i64.wrap T = T := by rw [IntKind.wrap_i64]; omega
  rw [hT1, hT2, hT] at ht hv
  have d1 : decide (T < -700) = false := decide_eq_false ht
  clear hA hB ba bb hn hm h1 h2 h3 h4 hV hU ht hT1 hT2 bT1 bT2 h0
  go_enter Try.func27, Try.ntmps27
  go_wp2_with fail
  go_region_held3 (fun w' => w'.cell? ⟨w.heap.size, 0, none⟩ = some (.bool g) ∧ w'.cell? ⟨w.heap.size, 1, none⟩ = some (.slice A n c) ∧ w'.cell? ⟨w.heap.size, 2, none⟩ = some (.int .i64 e1) ∧ w'.cell? ⟨w.heap.size + 1, 0, none⟩ = some (.bool k) ∧ w'.cell? ⟨w.heap.size + 1, 1, none⟩ = some (.slice B m d) ∧ w'.cell? ⟨w.heap.size + 1, 2, none⟩ = some (.int .i64 e2) ∧ Hid (HN w w.heap.size g A n c ds e1 (w.heap.size + 1) k B m d es e2 w'))
    (first | (with_reducible exact K0.out) | (with_reducible assumption))
    (first
      | (go_at_call 21; (with_reducible refine (HT1.out _ (by first | (with_reducible exact K0.out) | (with_reducible assumption))).mono ?_); rintro e wa ⟨rfl, hYa⟩)
      | (go_at_call 21; (with_reducible refine (HT2.out _ (by first | (with_reducible exact K0.out) | (with_reducible assumption))).mono ?_); rintro e wb ⟨rfl, hYb⟩))
  have Hfin := Lib.hid hYb.2.2.2.2.2.2.out.2.2.2.2
  clear hYa hYb HT1 HT2 K0
  go_wp2_with fail
  go_ret
  exact ⟨rfl, Hfin.out⟩

set_option maxHeartbeats 1000000 in
theorem far_small (g : Bool) (A : Option Addr) (n c : Nat) (ds : List Nat) (e1 : Int) (k : Bool) (B : Option Addr) (m d : Nat) (es : List Nat) (e2 : Int) (w : World) (hA : Dig w A n c ds) (hB : Dig w B m d es) (ba : D.Bare ds) (bb : D.Bare es) (hn : n ≤ 240) (hm : m ≤ 240) (h1 : -1000000 ≤ e1) (h2 : e1 ≤ 1000000) (h3 : -1000000 ≤ e2) (h4 : e2 ≤ 1000000) (hV : D.val ds ≠ 0) (hU : D.val es ≠ 0) (ht : rtop (D.val ds) e1 + rtop (D.val es) e2 < -700) :
    Calls Try.prog 27 #[.agg #[.bool g, .slice A n c, .int .i64 e1], .agg #[.bool k, .slice B m d, .int .i64 e2]] w fun e w' => e = .returned (.bool true) ∧ Below w.heap.size w w' := by
  have h0 := HN.start w g A n c ds e1 k B m d es e2 hA hB
  have K0 := Lib.hid (h0.below (below_drew _)).cells
  obtain ⟨T1, hT1⟩ : ∃ x, rtop (D.val ds) e1 = x := ⟨_, rfl⟩
  obtain ⟨T2, hT2⟩ : ∃ x, rtop (D.val es) e2 = x := ⟨_, rfl⟩
  have HT1 : Hid (∀ u, CellsN w w.heap.size g A n c ds e1 (w.heap.size + 1) k B m d es e2 u → Calls Try.prog 21 #[.agg #[.bool g, .slice A n c, .int .i64 e1]] u fun e w' => e = .returned (.int .i64 T1) ∧ CellsN w w.heap.size g A n c ds e1 (w.heap.size + 1) k B m d es e2 w') := fun u hu => by
    have h := hu.2.2.2.2.2.2.out
    refine (rtop_l T1 g A n c ds e1 u h.2.2.1 ba (by omega) (by omega) (by omega) hT1).mono ?_
    rintro e w' ⟨rfl, hb'⟩
    exact ⟨rfl, (h.below hb').cells⟩
  have HT2 : Hid (∀ u, CellsN w w.heap.size g A n c ds e1 (w.heap.size + 1) k B m d es e2 u → Calls Try.prog 21 #[.agg #[.bool k, .slice B m d, .int .i64 e2]] u fun e w' => e = .returned (.int .i64 T2) ∧ CellsN w w.heap.size g A n c ds e1 (w.heap.size + 1) k B m d es e2 w') := fun u hu => by
    have h := hu.2.2.2.2.2.2.out
    refine (rtop_l T2 k B m d es e2 u h.2.2.2.1 bb (by omega) (by omega) (by omega) hT2).mono ?_
    rintro e w' ⟨rfl, hb'⟩
    exact ⟨rfl, (h.below hb').cells⟩
  have q1 : ((n : Int) == 0) = false := beq_no (by have := dnil_iff hA ba; omega)
  have q2 : ((m : Int) == 0) = false := beq_no (by have := dnil_iff hB bb; omega)
  have bT1 : -2000000 ≤ T1 ∧ T1 ≤ 2000000 := by
    have hlt := D.val_lt hA.words
    rw [hA.len, D.pw_two] at hlt
    have hbl : blen (D.val ds) ≤ 16 * n := blen_le_iff.2 hlt
    have : T1 = (blen (D.val ds) : Int) - 1 + e1 := hT1.symm
    omega
  have bT2 : -2000000 ≤ T2 ∧ T2 ≤ 2000000 := by
    have hlt := D.val_lt hB.words
    rw [hB.len, D.pw_two] at hlt
    have hbl : blen (D.val es) ≤ 16 * m := blen_le_iff.2 hlt
    have : T2 = (blen (D.val es) : Int) - 1 + e2 := hT2.symm
    omega
  obtain ⟨T, hT⟩ : ∃ x, T1 + T2 = x := ⟨_, rfl⟩
  have hwT : IntKind.i64.wrap T = T := by rw [IntKind.wrap_i64]; omega
  rw [hT1, hT2, hT] at ht
  have d1 : decide (T < -700) = true := decide_eq_true ht
  clear hA hB ba bb hn hm h1 h2 h3 h4 hV hU ht hT1 hT2 bT1 bT2 h0
  go_enter Try.func27, Try.ntmps27
  go_wp2_with fail
  refine wp_region_noPanic ?_
  refine wp_region_held_drew (S := fun w' => w'.cell? ⟨w.heap.size, 0, none⟩ = some (.bool g) ∧ w'.cell? ⟨w.heap.size, 1, none⟩ = some (.slice A n c) ∧ w'.cell? ⟨w.heap.size, 2, none⟩ = some (.int .i64 e1) ∧ w'.cell? ⟨w.heap.size + 1, 0, none⟩ = some (.bool k) ∧ w'.cell? ⟨w.heap.size + 1, 1, none⟩ = some (.slice B m d) ∧ w'.cell? ⟨w.heap.size + 1, 2, none⟩ = some (.int .i64 e2) ∧ Hid (HN w w.heap.size g A n c ds e1 (w.heap.size + 1) k B m d es e2 w')) (by kernel_rfl) K0.out (fun hHeld => ?_)
  refine wpAnyH_take (i := 0) (v := ?_) rfl (by kernel_rfl) (by kernel_rfl) (by kernel_rfl) (fun _ _ _ h => h) (Or.inl ⟨by rfl, ?_⟩) hHeld ?_
  rotate_left
  · intro w' hSw
    (try dsimp only at hSw)
    go_simp
    all_goals (with_reducible rfl)
  simp only [List.getElem_toArray, List.getElem_cons_zero, Act.put, List.setIfInBounds_toArray, List.set_cons_zero, List.set_cons_succ]
  refine wpAnyH_take (i := 1) (v := ?_) rfl (by kernel_rfl) (by kernel_rfl) (by kernel_rfl) (fun _ _ _ h => h) (Or.inl ⟨by rfl, ?_⟩) hHeld ?_
  rotate_left
  · intro w' hSw
    (try dsimp only at hSw)
    go_simp
    all_goals (with_reducible rfl)
  simp only [List.getElem_toArray, List.getElem_cons_succ, List.getElem_cons_zero, Act.put, List.setIfInBounds_toArray, List.set_cons_zero, List.set_cons_succ]
  refine wpAnyH_take (i := 2) (v := ?_) rfl (by kernel_rfl) (by kernel_rfl) (by kernel_rfl) (fun _ _ _ h => h) (Or.inl ⟨by rfl, ?_⟩) hHeld ?_
  rotate_left
  · intro w' hSw
    (try dsimp only at hSw)
    go_simp
    all_goals (with_reducible rfl)
  simp only [List.getElem_toArray, List.getElem_cons_succ, List.getElem_cons_zero, Act.put, List.setIfInBounds_toArray, List.set_cons_zero, List.set_cons_succ]
  refine wpAnyH_take (i := 3) (v := ?_) rfl (by kernel_rfl) (by kernel_rfl) (by kernel_rfl) (fun _ _ _ h => h) (Or.inl ⟨by rfl, ?_⟩) hHeld ?_
  rotate_left
  · intro w' hSw
    (try dsimp only at hSw)
    go_simp
    all_goals (with_reducible rfl)
  simp only [List.getElem_toArray, List.getElem_cons_succ, List.getElem_cons_zero, Act.put, List.setIfInBounds_toArray, List.set_cons_zero, List.set_cons_succ]
  refine wpAnyH_take (i := 4) (v := ?_) rfl (by kernel_rfl) (by kernel_rfl) (by kernel_rfl) (fun _ _ _ h => h) (Or.inl ⟨by rfl, ?_⟩) hHeld ?_
  rotate_left
  · intro w' hSw
    (try dsimp only at hSw)
    go_simp
    all_goals (with_reducible rfl)
  simp only [List.getElem_toArray, List.getElem_cons_succ, List.getElem_cons_zero, Act.put, List.setIfInBounds_toArray, List.set_cons_zero, List.set_cons_succ]
  refine wpAnyH_take (i := 5) (v := ?_) rfl (by kernel_rfl) (by kernel_rfl) (by kernel_rfl) (fun _ _ _ h => h) (Or.inl ⟨by rfl, ?_⟩) hHeld ?_
  rotate_left
  · intro w' hSw
    (try dsimp only at hSw)
    go_simp
    all_goals (with_reducible rfl)
  simp only [List.getElem_toArray, List.getElem_cons_succ, List.getElem_cons_zero, Act.put, List.setIfInBounds_toArray, List.set_cons_zero, List.set_cons_succ]
  refine wpAnyH_take (i := 6) (v := ?_) rfl (by kernel_rfl) (by kernel_rfl) (by kernel_rfl) (fun _ _ _ h => h) (Or.inl ⟨by rfl, ?_⟩) hHeld ?_
  rotate_left
  · intro w' hSw
    (try dsimp only at hSw)
    go_simp
    all_goals (with_reducible rfl)
  simp only [List.getElem_toArray, List.getElem_cons_succ, List.getElem_cons_zero, Act.put, List.setIfInBounds_toArray, List.set_cons_zero, List.set_cons_succ]
  refine wpAnyH_take (i := 7) (v := ?_) rfl (by kernel_rfl) (by kernel_rfl) (by kernel_rfl) (fun _ _ _ h => h) (Or.inl ⟨by rfl, ?_⟩) hHeld ?_
  rotate_left
  · intro w' hSw
    (try dsimp only at hSw)
    go_simp
    all_goals (with_reducible rfl)
  simp only [List.getElem_toArray, List.getElem_cons_succ, List.getElem_cons_zero, Act.put, List.setIfInBounds_toArray, List.set_cons_zero, List.set_cons_succ]
  refine wpAnyH_take (i := 8) (v := ?_) rfl (by kernel_rfl) (by kernel_rfl) (by kernel_rfl) (fun _ _ _ h => h) (Or.inl ⟨by rfl, ?_⟩) hHeld ?_
  rotate_left
  · intro w' hSw
    (try dsimp only at hSw)
    go_simp
    all_goals (with_reducible rfl)
  simp only [List.getElem_toArray, List.getElem_cons_succ, List.getElem_cons_zero, Act.put, List.setIfInBounds_toArray, List.set_cons_zero, List.set_cons_succ]
  refine wpAnyH_take (i := 9) (v := ?_) rfl (by kernel_rfl) (by kernel_rfl) (by kernel_rfl) (fun _ _ _ h => h) (Or.inl ⟨by rfl, ?_⟩) hHeld ?_
  rotate_left
  · intro w' hSw
    (try dsimp only at hSw)
    go_simp
    all_goals (with_reducible rfl)
  simp only [List.getElem_toArray, List.getElem_cons_succ, List.getElem_cons_zero, Act.put, List.setIfInBounds_toArray, List.set_cons_zero, List.set_cons_succ]
  refine wpAnyH_take (i := 10) (v := ?_) rfl (by kernel_rfl) (by kernel_rfl) (by kernel_rfl) (fun _ _ _ h => h) (Or.inl ⟨by rfl, ?_⟩) hHeld ?_
  rotate_left
  · intro w' hSw
    (try dsimp only at hSw)
    go_simp
    all_goals (with_reducible rfl)
  simp only [List.getElem_toArray, List.getElem_cons_succ, List.getElem_cons_zero, Act.put, List.setIfInBounds_toArray, List.set_cons_zero, List.set_cons_succ]
  refine wpAnyH_take (i := 11) (v := ?_) rfl (by kernel_rfl) (by kernel_rfl) (by kernel_rfl) (fun _ _ _ h => h) (Or.inl ⟨by rfl, ?_⟩) hHeld ?_
  rotate_left
  · intro w' hSw
    (try dsimp only at hSw)
    go_simp
    all_goals (with_reducible rfl)
  simp only [List.getElem_toArray, List.getElem_cons_succ, List.getElem_cons_zero, Act.put, List.setIfInBounds_toArray, List.set_cons_zero, List.set_cons_succ]
  refine wpAnyH_take (i := 13) (v := ?_) rfl (by kernel_rfl) (by kernel_rfl) (by kernel_rfl) (fun _ _ _ h => h) (Or.inl ⟨by rfl, ?_⟩) hHeld ?_
  rotate_left
  · intro w' hSw
    (try dsimp only at hSw)
    go_simp
    all_goals (with_reducible rfl)
  simp only [List.getElem_toArray, List.getElem_cons_succ, List.getElem_cons_zero, Act.put, List.setIfInBounds_toArray, List.set_cons_zero, List.set_cons_succ]
  refine wpAnyH_ready (rs := [12]) (by kernel_rfl) (by simp) ?_
  refine AllReadyH.cons rfl (fun K' hK' => ?_) AllReadyH.nil
  go_simp
  refine (HT1.out _ K0.out).mono ?_
  rintro e wa ⟨rfl, hYa⟩
  refine hK'.out _ _ ?_ (fun hHeld => ?_)
  · exact hYa
  clear hK' K'

  refine wpAnyH_ready (rs := [14]) (by kernel_rfl) (by simp) ?_
  refine AllReadyH.cons rfl (fun K' hK' => ?_) AllReadyH.nil
  go_simp
  refine (HT2.out _ hYa).mono ?_
  rintro e wb ⟨rfl, hYb⟩
  refine hK'.out _ _ ?_ (fun hHeld => ?_)
  · exact hYb
  clear hK' K'

  refine wpAnyH_take (i := 15) (v := ?_) rfl (by kernel_rfl) (by kernel_rfl) (by kernel_rfl) (fun _ _ _ h => h) (Or.inl ⟨by rfl, ?_⟩) hHeld ?_
  rotate_left
  · intro w' hSw
    (try dsimp only at hSw)
    go_simp
    all_goals (with_reducible rfl)
  simp only [List.getElem_toArray, List.getElem_cons_succ, List.getElem_cons_zero, Act.put, List.setIfInBounds_toArray, List.set_cons_zero, List.set_cons_succ]
  refine wpAnyH_take (i := 16) (v := ?_) rfl (by kernel_rfl) (by kernel_rfl) (by kernel_rfl) (fun _ _ _ h => h) (Or.inl ⟨by rfl, ?_⟩) hHeld ?_
  rotate_left
  · intro w' hSw
    (try dsimp only at hSw)
    go_simp
    all_goals (with_reducible rfl)
  simp only [List.getElem_toArray, List.getElem_cons_succ, List.getElem_cons_zero, Act.put, List.setIfInBounds_toArray, List.set_cons_zero, List.set_cons_succ]
  refine wpAnyH_take (i := 17) (v := ?_) rfl (by kernel_rfl) (by kernel_rfl) (by kernel_rfl) (fun _ _ _ h => h) (Or.inl ⟨by rfl, ?_⟩) hHeld ?_
  rotate_left
  · intro w' hSw
    (try dsimp only at hSw)
    go_simp
    all_goals (with_reducible rfl)
  simp only [List.getElem_toArray, List.getElem_cons_succ, List.getElem_cons_zero, Act.put, List.setIfInBounds_toArray, List.set_cons_zero, List.set_cons_succ]
  refine wpAnyH_take (i := 18) (v := ?_) rfl (by kernel_rfl) (by kernel_rfl) (by kernel_rfl) (fun _ _ _ h => h) (Or.inl ⟨by rfl, ?_⟩) hHeld ?_
  rotate_left
  · intro w' hSw
    (try dsimp only at hSw)
    go_simp
    all_goals (with_reducible rfl)
  simp only [List.getElem_toArray, List.getElem_cons_succ, List.getElem_cons_zero, Act.put, List.setIfInBounds_toArray, List.set_cons_zero, List.set_cons_succ]
  refine wpAnyH_take (i := 19) (v := undef) rfl (by kernel_rfl) (by kernel_rfl) (by kernel_rfl) (fun _ _ _ h => h) (Or.inr ⟨by rfl, rfl⟩) hHeld ?_
  simp only [List.getElem_toArray, List.getElem_cons_succ, List.getElem_cons_zero, Act.put, List.setIfInBounds_toArray, List.set_cons_zero, List.set_cons_succ]
  refine wpAnyH_take (i := 20) (v := undef) rfl (by kernel_rfl) (by kernel_rfl) (by kernel_rfl) (fun _ _ _ h => h) (Or.inr ⟨by rfl, rfl⟩) hHeld ?_
  simp only [List.getElem_toArray, List.getElem_cons_succ, List.getElem_cons_zero, Act.put, List.setIfInBounds_toArray, List.set_cons_zero, List.set_cons_succ]
  refine wpAnyH_take (i := 21) (v := undef) rfl (by kernel_rfl) (by kernel_rfl) (by kernel_rfl) (fun _ _ _ h => h) (Or.inr ⟨by rfl, rfl⟩) hHeld ?_
  simp only [List.getElem_toArray, List.getElem_cons_succ, List.getElem_cons_zero, Act.put, List.setIfInBounds_toArray, List.set_cons_zero, List.set_cons_succ]
  refine wpAnyH_take (i := 22) (v := undef) rfl (by kernel_rfl) (by kernel_rfl) (by kernel_rfl) (fun _ _ _ h => h) (Or.inr ⟨by rfl, rfl⟩) hHeld ?_
  simp only [List.getElem_toArray, List.getElem_cons_succ, List.getElem_cons_zero, Act.put, List.setIfInBounds_toArray, List.set_cons_zero, List.set_cons_succ]
  refine wpAnyH_take (i := 23) (v := undef) rfl (by kernel_rfl) (by kernel_rfl) (by kernel_rfl) (fun _ _ _ h => h) (Or.inr ⟨by rfl, rfl⟩) hHeld ?_
  simp only [List.getElem_toArray, List.getElem_cons_succ, List.getElem_cons_zero, Act.put, List.setIfInBounds_toArray, List.set_cons_zero, List.set_cons_succ]
  refine wpAnyH_take (i := 24) (v := undef) rfl (by kernel_rfl) (by kernel_rfl) (by kernel_rfl) (fun _ _ _ h => h) (Or.inr ⟨by rfl, rfl⟩) hHeld ?_
  simp only [List.getElem_toArray, List.getElem_cons_succ, List.getElem_cons_zero, Act.put, List.setIfInBounds_toArray, List.set_cons_zero, List.set_cons_succ]
  refine wpAnyH_take (i := 25) (v := ?_) rfl (by kernel_rfl) (by kernel_rfl) (by kernel_rfl) (fun _ _ _ h => h) (Or.inl ⟨by rfl, ?_⟩) hHeld ?_
  rotate_left
  · intro w' hSw
    (try dsimp only at hSw)
    go_simp
    all_goals (with_reducible rfl)
  simp only [List.getElem_toArray, List.getElem_cons_succ, List.getElem_cons_zero, Act.put, List.setIfInBounds_toArray, List.set_cons_zero, List.set_cons_succ]
  refine wpAnyH_take (i := 26) (v := ?_) rfl (by kernel_rfl) (by kernel_rfl) (by kernel_rfl) (fun _ _ _ h => h) (Or.inl ⟨by rfl, ?_⟩) hHeld ?_
  rotate_left
  · intro w' hSw
    (try dsimp only at hSw)
    go_simp
    all_goals (with_reducible rfl)
  simp only [List.getElem_toArray, List.getElem_cons_succ, List.getElem_cons_zero, Act.put, List.setIfInBounds_toArray, List.set_cons_zero, List.set_cons_succ]
  refine wpAnyH_done (by kernel_rfl) ?_ _
  refine NoPanic.normal ?_
  have Hfin := Lib.hid hYb.2.2.2.2.2.2.out.2.2.2.2
  clear hYa hYb HT1 HT2 K0 hHeld
  go_wp2
  go_ret
  exact ⟨rfl, Hfin.out⟩

/-- Is a product out of what is looked at? -/
def farB (V1 V2 : Nat) (e1 e2 : Int) : Bool := decide (V1 = 0) || decide (V2 = 0) || decide (rtop V1 e1 + rtop V2 e2 < -700) || decide (900 < rtop V1 e1 + rtop V2 e2)
theorem far_w (v : Bool) (g : Bool) (A : Option Addr) (n c : Nat) (ds : List Nat) (e1 : Int) (k : Bool) (B : Option Addr) (m d : Nat) (es : List Nat) (e2 : Int) (w : World) (hA : Dig w A n c ds) (hB : Dig w B m d es) (ba : D.Bare ds) (bb : D.Bare es) (hn : n ≤ 240) (hm : m ≤ 240) (h1 : -1000000 ≤ e1) (h2 : e1 ≤ 1000000) (h3 : -1000000 ≤ e2) (h4 : e2 ≤ 1000000) (hv : farB (D.val ds) (D.val es) e1 e2 = v) :
    Calls Try.prog 27 #[.agg #[.bool g, .slice A n c, .int .i64 e1], .agg #[.bool k, .slice B m d, .int .i64 e2]] w fun e w' => e = .returned (.bool v) ∧ Below w.heap.size w w' := by
  unfold farB at hv
  by_cases z1 : D.val ds = 0
  · obtain rfl : n = 0 := (dnil_iff hA ba).2 z1
    rw [decide_eq_true z1] at hv
    simp only [Bool.true_or] at hv
    subst hv
    exact far_nil1 g A m c e1 k B d e2 w
  · by_cases z2 : D.val es = 0
    · obtain rfl : m = 0 := (dnil_iff hB bb).2 z2
      rw [decide_eq_true z2] at hv
      simp only [Bool.or_true, Bool.true_or] at hv
      subst hv
      exact far_nil2 g A n (fun h => z1 ((dnil_iff hA ba).1 h)) c e1 k B d e2 w
    · rw [decide_eq_false z1, decide_eq_false z2, Bool.false_or, Bool.false_or] at hv
      by_cases t : rtop (D.val ds) e1 + rtop (D.val es) e2 < -700
      · rw [decide_eq_true t, Bool.true_or] at hv
        subst hv
        exact far_small g A n c ds e1 k B m d es e2 w hA hB ba bb hn hm h1 h2 h3 h4 z1 z2 t
      · rw [decide_eq_false t, Bool.false_or] at hv
        exact far_all v g A n c ds e1 k B m d es e2 w hA hB ba bb hn hm h1 h2 h3 h4 z1 z2 t hv
end Go.Proofs.Ytfccpjjdemanbaa
