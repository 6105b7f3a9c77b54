/- The walks of planimeterref01.Num and of planimeterref02.Mul, Pow. -/
import Derived.Test.YtkinflmfeamajaaDoorWRAdd
import Derived.Test.YtkinflmfeamajaaDoorPMath
import Derived.Test.YtkinflmfeamajaaDoorLaws
namespace Go.Proofs.YtkinflmfeamajaaDoor
open Go.RowKit

theorem D.val_set (zs : List Nat) (k z : Nat) (hk : k < zs.length) : D.val (zs.set k z) + D.pw k * zs.getD k 0 = D.val zs + D.pw k * z := by
  induction zs generalizing k with
  | nil => simp at hk
  | cons x xs ih =>
    cases k with
    | zero => rw [List.set_cons_zero, D.val, D.val, D.pw_zero, D.getD_cons_zero]; omega
    | succ k =>
      rw [List.length_cons] at hk
      have := ih k (by omega)
      rw [List.set_cons_succ, D.val, D.val, D.pw_succ, D.getD_cons_succ, Nat.mul_assoc, Nat.mul_assoc]
      omega
theorem getD_set (zs : List Nat) (k z j : Nat) (hk : k < zs.length) : (zs.set k z).getD j 0 = if j = k then z else zs.getD j 0 := by
  rw [List.getD_eq_getElem?_getD, List.getD_eq_getElem?_getD, List.getElem?_set]
  by_cases h : k = j
  · subst h; simp [hk]
  · rw [if_neg h, if_neg (fun e => h e.symm)]
theorem D.Words.set {zs : List Nat} (h : D.Words zs) (k : Nat) {z : Nat} (hz : z < 65536) : D.Words (zs.set k z) := by
  intro x hx
  rcases List.mem_or_eq_of_mem_set hx with h1 | h1
  · exact h x h1
  · rw [h1]; exact hz
theorem D.getD_of_lt {zs : List Nat} {k : Nat} (h : D.val zs < D.pw k) : zs.getD k 0 = 0 := by
  apply D.getD_of_tl
  rcases Nat.lt_or_ge k (D.tl zs) with h1 | h1
  · obtain ⟨j, hj⟩ : ∃ j, D.tl zs = j + 1 := ⟨D.tl zs - 1, by omega⟩
    have h2 := D.val_pos_of_tl hj
    have h3 := D.pw_mono (show k ≤ j by omega)
    omega
  · exact h1
theorem D.val_zeros (L : Nat) : D.val (List.replicate L 0) = 0 := by
  induction L with
  | zero => rfl
  | succ L ih => rw [List.replicate_succ, D.val, ih]

/-- A row of the call's own, L numbers long, that is turned in place: it holds zs; below block g nothing has turned. -/
def Keep (kd : IntKind) (w wr : World) (g t L : Nat) (zs : List Nat) : Prop :=
  Below g w wr ∧ wr.rowIs g t L (fun j => .int kd ((zs.getD j 0 : Nat) : Int)) ∧ zs.length = L
section
variable {kd : IntKind} {w wr : World} {g t L : Nat} {zs : List Nat}
theorem Keep.below (h : Keep kd w wr g t L zs) : Below g w wr := h.1
theorem Keep.len (h : Keep kd w wr g t L zs) : zs.length = L := h.2.2
theorem Keep.cell (h : Keep kd w wr g t L zs) {j : Nat} (hj : j < L) : wr.cell? ⟨g, j, none⟩ = some (.int kd ((zs.getD j 0 : Nat) : Int)) := h.2.1.cell hj
theorem Keep.frozen (h : Keep kd w wr g t L zs) (j : Nat) : wr.frozen? ⟨g, j, none⟩ = false := h.2.1.frozen j
theorem Keep.start (kd : IntKind) (w : World) (t L : Nat) : Keep kd w (w.alloc (.cells (madeCells #[.int kd 0] L) t)) w.heap.size t L (List.replicate L 0) :=
  ⟨(Below.refl _ _).alloc (Nat.le_refl _) _, (World.rowIs_made w (.int kd 0) L t).congr (fun j hj => by rw [List.getD_eq_getElem?_getD, List.getElem?_replicate, if_pos hj]; rfl), List.length_replicate⟩
theorem Keep.set (h : Keep kd w wr g t L zs) {z k : Nat} (hk : k < L) : Keep kd w (wr.setCell ⟨g, k, none⟩ (.int kd (z : Int))) g t L (zs.set k z) :=
  ⟨h.1.setCell (Nat.le_refl _) _, (h.2.1.set _ _).congr (fun j _ => by
    rw [getD_set zs k z j (by rw [h.2.2]; exact hk)]
    split <;> rfl), by rw [List.length_set]; exact h.2.2⟩
theorem Keep.drewN (h : Keep kd w wr g t L zs) (k : Nat) : Keep kd w (wr.drewN k) g t L zs := ⟨below_drewN h.1 k, h.2.1, h.2.2⟩
theorem Keep.row (h : Keep kd w wr g t L zs) : Row kd wr (some ⟨g, 0, none⟩) L L zs :=
  ⟨h.2.2, Nat.le_refl _, fun _ => ⟨g, 0, rfl, h.2.1.lt, fun k hk => by rw [Nat.zero_add]; exact h.cell hk⟩⟩
end

theorem dmul_step {x y o cn d c2 j V Z T U : Nat} (hs : d + 65536 * c2 = o + cn + x * y) (hset : U + D.pw j * o = Z + D.pw j * d) (h : Z + D.pw j * cn = V + T) : U + D.pw (j + 1) * c2 = V + (T + D.pw j * (x * y)) := by
  have e : D.pw (j + 1) * c2 = D.pw j * (65536 * c2) := by rw [D.pw_succ, Nat.mul_comm 65536, Nat.mul_assoc]
  have e2 : D.pw j * (d + 65536 * c2) = D.pw j * (o + cn + x * y) := by rw [hs]
  rw [Nat.mul_add, Nat.mul_add, Nat.mul_add] at e2
  omega
theorem D.mul_lt {us bs : List Nat} (hu : D.Words us) (hb : D.Words bs) (i : Nat) (hi : i ≤ us.length) : D.val (us.take i) * D.val bs < D.pw (i + bs.length) := by
  rw [D.pw_add]
  have h1 := D.val_lt (hu.take i)
  rw [List.length_take, Nat.min_eq_left hi] at h1
  exact Nat.mul_lt_mul'' h1 (D.val_lt hb)


theorem num_any (x : Nat) (hx : x < 18446744073709551616) (w : World) : Calls Tryd.prog 13 #[.int .u64 (x : Int)] w (DTells w x 4) := by
  have hT := to_any _ 1 1 [x] _ (lim_new1 w 23 x x rfl hx) (by decide)
  rw [show val [x] = x from by simp [val]] at hT
  have HT := Lib.hid hT
  clear hT
  go_enter Tryd.func13, Tryd.ntmps13
  go_wp2_with fail
  refine HT.out.mono ?_
  rintro e w2 ⟨A1, m1, c1, es, rfl, h1, h2, h3, h4, h5⟩
  have Hfin : Hid (DTells w x 4 (.returned (.slice A1 m1 c1)) w2) := ⟨A1, m1, c1, es, rfl, h1, h2, h3, h4, ((Below.refl _ _).alloc (Nat.le_refl _) _).trans (h5.mono (by simp))⟩
  clear h1 h2 h3 h4 h5
  go_wp2
  go_ret
  exact Hfin.out

theorem D.len_of_lt {es : List Nat} {M : Nat} (hb : D.Bare es) (h : D.val es < D.pw M) : es.length ≤ M := by
  rcases Nat.lt_or_ge M es.length with h1 | h1
  · have h2 := D.val_pos_of_tl (xs := es) (j := es.length - 1) (by rw [hb]; omega)
    have h3 := D.pw_mono (show M ≤ es.length - 1 by omega)
    omega
  · exact h1


end Go.Proofs.YtkinflmfeamajaaDoor
