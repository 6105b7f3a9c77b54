/- The walks of planimeterref01.Of and of planimeterlaw07.same. -/
import Derived.Test.YtjdlnfmeciodnaaDoorWNorm
namespace Go.Proofs.YtjdlnfmeciodnaaDoor
open Go.RowKit

/-- Limb j, while the digits from k on have been taken. -/
def part (ds : List Nat) (k j : Nat) : Nat := D.val ((ds.drop (max k (4 * j))).take (4 * j + 4 - max k (4 * j)))

theorem part_step (ds : List Nat) (k : Nat) (hk : k < ds.length) : part ds k (k / 4) = ds.getD k 0 + 65536 * part ds (k + 1) (k / 4) := by
  unfold part
  rw [show max k (4 * (k / 4)) = k from by omega, show max (k + 1) (4 * (k / 4)) = k + 1 from by omega, D.drop_cons ds k hk,
    show 4 * (k / 4) + 4 - k = (4 * (k / 4) + 4 - (k + 1)) + 1 from by omega, List.take_succ_cons, D.val]
theorem part_other (ds : List Nat) (k j : Nat) (hj : j ≠ k / 4) : part ds k j = part ds (k + 1) j := by
  unfold part
  by_cases h : k + 1 ≤ 4 * j
  · rw [show max k (4 * j) = 4 * j from by omega, show max (k + 1) (4 * j) = 4 * j from by omega]
  · rw [show 4 * j + 4 - max k (4 * j) = 0 from by omega, show 4 * j + 4 - max (k + 1) (4 * j) = 0 from by omega]; simp
theorem part_start (ds : List Nat) (n j : Nat) (hn : ds.length ≤ n) : part ds n j = 0 := by
  unfold part
  rw [List.drop_of_length_le (by omega), List.take_nil]; rfl
theorem part_lt (ds : List Nat) (hw : D.Words ds) (k : Nat) : part ds (k + 1) (k / 4) < 281474976710656 := by
  unfold part
  have h1 := D.val_lt ((hw.drop (max (k + 1) (4 * (k / 4)))).take (4 * (k / 4) + 4 - max (k + 1) (4 * (k / 4))))
  have h2 : ((ds.drop (max (k + 1) (4 * (k / 4)))).take (4 * (k / 4) + 4 - max (k + 1) (4 * (k / 4)))).length ≤ 3 := by rw [List.length_take]; omega
  have h3 := D.pw_mono h2
  have h4 : D.pw 3 = 281474976710656 := by decide
  omega
theorem part_word (ds : List Nat) (hw : D.Words ds) (j : Nat) : part ds 0 j < 18446744073709551616 := by
  unfold part
  have h1 := D.val_lt ((hw.drop (max 0 (4 * j))).take (4 * j + 4 - max 0 (4 * j)))
  have h2 : ((ds.drop (max 0 (4 * j))).take (4 * j + 4 - max 0 (4 * j))).length ≤ 4 := by rw [List.length_take]; omega
  have h3 := D.pw_mono h2
  have h4 : D.pw 4 = 18446744073709551616 := by decide
  omega

/-- Digits as limbs. -/
def grp (ds : List Nat) : Nat → List Nat
  | 0 => []
  | m + 1 => grp ds m ++ [part ds 0 m]
theorem grp_len (ds : List Nat) (m : Nat) : (grp ds m).length = m := by
  induction m with
  | zero => rfl
  | succ m ih => rw [grp, List.length_append, ih]; rfl
theorem grp_getD (ds : List Nat) (m j : Nat) (hj : j < m) : (grp ds m).getD j 0 = part ds 0 j := by
  induction m with
  | zero => omega
  | succ m ih =>
    rw [grp, getD_snoc, grp_len]
    split
    · rename_i h; rw [h]
    · exact ih (by omega)
theorem grp_words (ds : List Nat) (hw : D.Words ds) (m : Nat) : Words (grp ds m) := by
  induction m with
  | zero => exact Words.nil
  | succ m ih => exact ih.append (Words.one (part_word ds hw m))
theorem grp_val (ds : List Nat) (m : Nat) : val (grp ds m) = D.val (ds.take (4 * m)) := by
  induction m with
  | zero => rfl
  | succ m ih =>
    rw [grp, val_snoc, grp_len, ih, ← pw_dig]
    unfold part
    rw [show max 0 (4 * m) = 4 * m from by omega, show 4 * m + 4 - 4 * m = 4 from by omega]
    by_cases h : 4 * m ≤ (ds.take (4 * (m + 1))).length
    · rw [D.val_split (ds.take (4 * (m + 1))) (4 * m) h, List.take_take, List.drop_take, show min (4 * m) (4 * (m + 1)) = 4 * m from by omega, show 4 * (m + 1) - 4 * m = 4 from by omega]
    · rw [List.length_take] at h
      rw [List.drop_of_length_le (by omega), List.take_nil, List.take_of_length_le (by omega), List.take_of_length_le (by omega)]
      simp [D.val]
theorem grp_bare (ds : List Nat) (hb : D.Bare ds) : Bare (grp ds ((ds.length + 3) / 4)) := by
  show tl _ = _
  apply tl_eq
  · intro j h1 h2; omega
  · intro j hj
    rw [grp_len] at hj
    rw [grp_getD _ _ _ (by omega)]
    have hne := D.getD_tl_pred (xs := ds) (j := ds.length - 1) (by rw [hb]; omega)
    intro h0
    apply hne
    unfold part at h0
    rw [show max 0 (4 * j) = 4 * j from by omega, show 4 * j + 4 - 4 * j = 4 from by omega] at h0
    have h2 := D.tl_zero_iff.2 h0
    have h3 := D.getD_of_tl (xs := (ds.drop (4 * j)).take 4) (j := ds.length - 1 - 4 * j) (by omega)
    rw [List.getD_eq_getElem?_getD, List.getElem?_take_of_lt (by omega), List.getElem?_drop, show 4 * j + (ds.length - 1 - 4 * j) = ds.length - 1 from by omega, ← List.getD_eq_getElem?_getD] at h3
    exact h3



end Go.Proofs.YtjdlnfmeciodnaaDoor
