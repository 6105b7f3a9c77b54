/- The walk of planimeterref10.Pow. -/
import Derived.Test.YteflihpnhgicfaaDoorRtLaw
import Derived.Test.YteflihpnhgicfaaDoorRtQuick
import Derived.Deep.RegionHeld3
namespace Go.Proofs.YteflihpnhgicfaaDoor
open Go.RowKit

/-- While it is walked: the number in its box, the result's block. -/
def HoldQ10 (w : World) (g : Bool) (A : Option Addr) (n c : Nat) (ds : List Nat) (e0 : Int) (u : World) : Prop :=
  Bd u w.heap.size 28 g A n c e0 ∧ Bd u (w.heap.size + 1) 28 false none 0 0 0 ∧ Dig u A n c ds ∧ Below w.heap.size w u
section
variable {w : World} {g : Bool} {A : Option Addr} {n c : Nat} {ds : List Nat} {e0 : Int} {u u' : World}
theorem HoldQ10.below (h : HoldQ10 w g A n c ds e0 u) (hb : Below u.heap.size u u') : HoldQ10 w g A n c ds e0 u' := ⟨h.1.below hb, h.2.1.below hb, h.2.2.1.below hb, h.2.2.2.trans (hb.mono h.2.2.2.size)⟩
theorem HoldQ10.three (h : HoldQ10 w g A n c ds e0 u) : u.cell? ⟨w.heap.size, 0, none⟩ = some (.bool g) ∧ u.cell? ⟨w.heap.size, 1, none⟩ = some (.slice A n c) ∧ u.cell? ⟨w.heap.size, 2, none⟩ = some (.int .i64 e0) := ⟨h.1.c0, h.1.c1, h.1.c2⟩
theorem HoldQ10.dig (h : HoldQ10 w g A n c ds e0 u) : Dig u A n c ds := h.2.2.1
theorem HoldQ10.old (h : HoldQ10 w g A n c ds e0 u) : Below w.heap.size w u := h.2.2.2
theorem HoldQ10.start (w : World) (g : Bool) (A : Option Addr) (n c : Nat) (ds : List Nat) (e0 : Int) (h : Dig w A n c ds) : HoldQ10 w g A n c ds e0 ((w.alloc (.cells #[.bool g, .slice A n c, .int .i64 e0] 28)).alloc (.cells #[.bool false, .slice none 0 0, .int .i64 0] 28)) := by
  have b2 := Bd.new (w.alloc (.cells #[.bool g, .slice A n c, .int .i64 e0] 28)) 28 false none 0 0 0
  rw [World.size_alloc] at b2
  exact ⟨(Bd.new w _ _ _ _ _ _).alloc _, b2, (h.alloc _).alloc _, ((Below.refl _ _).alloc (Nat.le_refl _) _).alloc (by simp) _⟩
end

set_option maxHeartbeats 2000000 in
set_option maxRecDepth 20000 in
theorem pow10_pos (M V : Nat) (E : Int) (A : Option Addr) (n c : Nat) (ds : List Nat) (m : Nat) (w : World) (hA : Dig w A n c ds) (hb : D.Bare ds) (hV : D.val ds = V) (hV1 : 1 ≤ V) (hn : n ≤ 10000) (hm : m ≤ 1000000000) (hM : M ≤ 10000) (hlt : V ^ m < D.pw M) (h1 : -1073741824 ≤ E * m) (h2 : E * m ≤ 1073741824) :
    Calls Tryd.prog 16 #[.agg #[.bool false, .slice A n c, .int .i64 E], .int .i64 (m : Int)] w (NTold w (powD ⟨false, V, E⟩ m) M) := by
  have hz := dnil_iff hA hb
  have c1 : ((n : Int) == 0) = false := beq_no (by omega)
  have HQ : Hid (∀ u, HoldQ10 w false A n c ds E u → Calls Tryd.prog 35 #[.slice A n c, .int .i64 (m : Int)] u (DTells u (V ^ m) M)) := fun u hu => by
    have h := quick_any M hM m A n c ds u hu.dig (by omega) hn hm (by rw [hV]; exact hlt)
    rw [hV] at h
    exact h
  obtain ⟨P, hP⟩ : ∃ P, V ^ m = P := ⟨_, rfl⟩
  obtain ⟨T, hT⟩ : ∃ T, E * (m : Int) = T := ⟨_, rfl⟩
  have hpd : powD ⟨false, V, E⟩ m = ⟨false, P, T⟩ := by unfold powD; simp only [Bool.false_and]; rw [hP, hT]
  rw [hpd]
  rw [hP] at HQ
  rw [hT] at h1 h2
  have hw : IntKind.i64.wrap T = T := by rw [IntKind.wrap_i64]; omega
  have K0 := Lib.hid ((HoldQ10.start w false A n c ds E hA).below (below_drew _))
  clear hA hb hz hV hlt hP hpd h1 h2
  go_enter Tryd.func16, Tryd.ntmps16
  go_wp2_with fail
  refine wp_region_noPanic ?_
  refine wp_region_held_drew (S := fun w' => w'.cell? ⟨w.heap.size, 0, none⟩ = some (.bool false) ∧ w'.cell? ⟨w.heap.size, 1, none⟩ = some (.slice A n c) ∧ w'.cell? ⟨w.heap.size, 2, none⟩ = some (.int .i64 E)) (by kernel_rfl) K0.out.three (fun hHeld => ?_)
  refine wpAnyH_take (i := 0) (v := ?_) rfl (by kernel_rfl) (by kernel_rfl) (by kernel_rfl) (fun _ _ _ h => h) (Or.inl ⟨by rfl, ?_⟩) hHeld ?_
  rotate_left
  · intro w' hSw
    (try dsimp only at hSw)
    go_simp
    all_goals (with_reducible rfl)
  simp only [List.getElem_toArray, List.getElem_cons_zero, Act.put, List.setIfInBounds_toArray, List.set_cons_zero, List.set_cons_succ]
  refine wpAnyH_take (i := 1) (v := ?_) rfl (by kernel_rfl) (by kernel_rfl) (by kernel_rfl) (fun _ _ _ h => h) (Or.inl ⟨by rfl, ?_⟩) hHeld ?_
  rotate_left
  · intro w' hSw
    (try dsimp only at hSw)
    go_simp
    all_goals (with_reducible rfl)
  simp only [List.getElem_toArray, List.getElem_cons_succ, List.getElem_cons_zero, Act.put, List.setIfInBounds_toArray, List.set_cons_zero, List.set_cons_succ]
  refine wpAnyH_take (i := 2) (v := ?_) rfl (by kernel_rfl) (by kernel_rfl) (by kernel_rfl) (fun _ _ _ h => h) (Or.inl ⟨by rfl, ?_⟩) hHeld ?_
  rotate_left
  · intro w' hSw
    (try dsimp only at hSw)
    go_simp
    all_goals (with_reducible rfl)
  simp only [List.getElem_toArray, List.getElem_cons_succ, List.getElem_cons_zero, Act.put, List.setIfInBounds_toArray, List.set_cons_zero, List.set_cons_succ]
  refine wpAnyH_take (i := 3) (v := undef) rfl (by kernel_rfl) (by kernel_rfl) (by kernel_rfl) (fun _ _ _ h => h) (Or.inr ⟨by rfl, rfl⟩) hHeld ?_
  simp only [List.getElem_toArray, List.getElem_cons_succ, List.getElem_cons_zero, Act.put, List.setIfInBounds_toArray, List.set_cons_zero, List.set_cons_succ]
  refine wpAnyH_take (i := 4) (v := undef) rfl (by kernel_rfl) (by kernel_rfl) (by kernel_rfl) (fun _ _ _ h => h) (Or.inr ⟨by rfl, rfl⟩) hHeld ?_
  simp only [List.getElem_toArray, List.getElem_cons_succ, List.getElem_cons_zero, Act.put, List.setIfInBounds_toArray, List.set_cons_zero, List.set_cons_succ]
  refine wpAnyH_take (i := 5) (v := undef) rfl (by kernel_rfl) (by kernel_rfl) (by kernel_rfl) (fun _ _ _ h => h) (Or.inr ⟨by rfl, rfl⟩) hHeld ?_
  simp only [List.getElem_toArray, List.getElem_cons_succ, List.getElem_cons_zero, Act.put, List.setIfInBounds_toArray, List.set_cons_zero, List.set_cons_succ]
  refine wpAnyH_take (i := 6) (v := ?_) rfl (by kernel_rfl) (by kernel_rfl) (by kernel_rfl) (fun _ _ _ h => h) (Or.inl ⟨by rfl, ?_⟩) hHeld ?_
  rotate_left
  · intro w' hSw
    (try dsimp only at hSw)
    go_simp
    all_goals (with_reducible rfl)
  simp only [List.getElem_toArray, List.getElem_cons_succ, List.getElem_cons_zero, Act.put, List.setIfInBounds_toArray, List.set_cons_zero, List.set_cons_succ]
  refine wpAnyH_take (i := 7) (v := ?_) rfl (by kernel_rfl) (by kernel_rfl) (by kernel_rfl) (fun _ _ _ h => h) (Or.inl ⟨by rfl, ?_⟩) hHeld ?_
  rotate_left
  · intro w' hSw
    (try dsimp only at hSw)
    go_simp
    all_goals (with_reducible rfl)
  simp only [List.getElem_toArray, List.getElem_cons_succ, List.getElem_cons_zero, Act.put, List.setIfInBounds_toArray, List.set_cons_zero, List.set_cons_succ]
  refine wpAnyH_take (i := 8) (v := ?_) rfl (by kernel_rfl) (by kernel_rfl) (by kernel_rfl) (fun _ _ _ h => h) (Or.inl ⟨by rfl, ?_⟩) hHeld ?_
  rotate_left
  · intro w' hSw
    (try dsimp only at hSw)
    go_simp
    all_goals (with_reducible rfl)
  simp only [List.getElem_toArray, List.getElem_cons_succ, List.getElem_cons_zero, Act.put, List.setIfInBounds_toArray, List.set_cons_zero, List.set_cons_succ]
  refine wpAnyH_take (i := 9) (v := ?_) rfl (by kernel_rfl) (by kernel_rfl) (by kernel_rfl) (fun _ _ _ h => h) (Or.inl ⟨by rfl, ?_⟩) hHeld ?_
  rotate_left
  · intro w' hSw
    (try dsimp only at hSw)
    go_simp
    all_goals (with_reducible rfl)
  simp only [List.getElem_toArray, List.getElem_cons_succ, List.getElem_cons_zero, Act.put, List.setIfInBounds_toArray, List.set_cons_zero, List.set_cons_succ]
  refine wpAnyH_take (i := 11) (v := ?_) rfl (by kernel_rfl) (by kernel_rfl) (by kernel_rfl) (fun _ _ _ h => h) (Or.inl ⟨by rfl, ?_⟩) hHeld ?_
  rotate_left
  · intro w' hSw
    (try dsimp only at hSw)
    go_simp
    all_goals (with_reducible rfl)
  simp only [List.getElem_toArray, List.getElem_cons_succ, List.getElem_cons_zero, Act.put, List.setIfInBounds_toArray, List.set_cons_zero, List.set_cons_succ]
  refine wpAnyH_take (i := 12) (v := ?_) rfl (by kernel_rfl) (by kernel_rfl) (by kernel_rfl) (fun _ _ _ h => h) (Or.inl ⟨by rfl, ?_⟩) hHeld ?_
  rotate_left
  · intro w' hSw
    (try dsimp only at hSw)
    go_simp
    all_goals (with_reducible rfl)
  simp only [List.getElem_toArray, List.getElem_cons_succ, List.getElem_cons_zero, Act.put, List.setIfInBounds_toArray, List.set_cons_zero, List.set_cons_succ]
  refine wpAnyH_take (i := 13) (v := ?_) rfl (by kernel_rfl) (by kernel_rfl) (by kernel_rfl) (fun _ _ _ h => h) (Or.inl ⟨by rfl, ?_⟩) hHeld ?_
  rotate_left
  · intro w' hSw
    (try dsimp only at hSw)
    go_simp
    all_goals (with_reducible rfl)
  simp only [List.getElem_toArray, List.getElem_cons_succ, List.getElem_cons_zero, Act.put, List.setIfInBounds_toArray, List.set_cons_zero, List.set_cons_succ]
  refine wpAnyH_take (i := 14) (v := ?_) rfl (by kernel_rfl) (by kernel_rfl) (by kernel_rfl) (fun _ _ _ h => h) (Or.inl ⟨by rfl, ?_⟩) hHeld ?_
  rotate_left
  · intro w' hSw
    (try dsimp only at hSw)
    go_simp
    all_goals (with_reducible rfl)
  simp only [List.getElem_toArray, List.getElem_cons_succ, List.getElem_cons_zero, Act.put, List.setIfInBounds_toArray, List.set_cons_zero, List.set_cons_succ]
  refine wpAnyH_ready (rs := [10]) (by kernel_rfl) (by simp) ?_
  refine AllReadyH.cons rfl (fun K' hK' => ?_) AllReadyH.nil
  go_simp
  refine (HQ.out _ K0.out).mono ?_
  rintro e w1 ⟨A1, m1, c1, es, rfl, hm1, hl1, hb1, hv1, hB1⟩
  have K1 := Lib.hid (K0.out.below hB1)
  refine hK'.out _ _ ?_ (fun hHeld => ?_)
  · exact K1.out.three
  clear hK' K'
  have y0 := K1.out.2.1.c0
  have y1 := K1.out.2.1.c1
  have y2 := K1.out.2.1.c2
  have yf := K1.out.2.1.fz
  have K2 := Lib.hid (K1.out.1.other (b' := w.heap.size + 1) (by omega) false A1 m1 c1 T)
  have Fin : Hid (NTold w ⟨false, P, T⟩ M (.returned (.agg #[.bool false, .slice A1 m1 c1, .int .i64 T])) (World.put w1 (w.heap.size + 1) false A1 m1 c1 T)) := ⟨A1, m1, c1, es, rfl, hm1, K1.out.2.1.dig hl1 _ _ _ _ _, hb1, hv1, below_put K1.out.old (Nat.le_succ _) _ _ _ _ _⟩
  clear hl1 hb1 hv1 hB1 K1 K0 HQ
  refine wpAnyH_take (i := 15) (v := ?_) rfl (by kernel_rfl) (by kernel_rfl) (by kernel_rfl) (fun _ _ _ h => h) (Or.inl ⟨by rfl, ?_⟩) hHeld ?_
  rotate_left
  · intro w' hSw
    (try dsimp only at hSw)
    go_simp
    all_goals (with_reducible rfl)
  simp only [List.getElem_toArray, List.getElem_cons_succ, List.getElem_cons_zero, Act.put, List.setIfInBounds_toArray, List.set_cons_zero, List.set_cons_succ]
  refine wpAnyH_ready (rs := [16]) (by kernel_rfl) (by simp) ?_
  refine AllReadyH.cons rfl (fun K' hK' => ?_) AllReadyH.nil
  go_simp
  refine hK'.out _ _ ?_ (fun hHeld => ?_)
  · exact ⟨K2.out.c0, K2.out.c1, K2.out.c2⟩
  clear hK' K'
  refine wpAnyH_done (by kernel_rfl) ?_ _
  refine NoPanic.normal ?_
  clear K2 hHeld
  go_wp2
  exact bodyPost_ret (v := .agg #[.bool false, .slice A1 m1 c1, .int .i64 T]) (by simp [results, Tryd.results16, go_sem, y0, y1, y2]) rfl Fin.out
end Go.Proofs.YteflihpnhgicfaaDoor
