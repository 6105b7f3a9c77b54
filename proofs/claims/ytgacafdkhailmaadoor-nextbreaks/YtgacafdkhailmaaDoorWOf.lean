/- The walks of planimeterref01.Of and of planimeterlaw08.same. -/
import Derived.Test.YtgacafdkhailmaaDoorWNorm
namespace Go.Proofs.YtgacafdkhailmaaDoor
open Go.RowKit

/-- Limb j, while the digits from k on have been taken. -/
def part (ds : List Nat) (k j : Nat) : Nat := D.val ((ds.drop (max k (4 * j))).take (4 * j + 4 - max k (4 * j)))

theorem part_step (ds : List Nat) (k : Nat) (hk : k < ds.length) : part ds k (k / 4) = ds.getD k 0 + 65536 * part ds (k + 1) (k / 4) := by
  unfold part
  rw [show max k (4 * (k / 4)) = k from by omega, show max (k + 1) (4 * (k / 4)) = k + 1 from by omega, D.drop_cons ds k hk,
    show 4 * (k / 4) + 4 - k = (4 * (k / 4) + 4 - (k + 1)) + 1 from by omega, List.take_succ_cons, D.val]
theorem part_other (ds : List Nat) (k j : Nat) (hj : j ≠ k / 4) : part ds k j = part ds (k + 1) j := by
  unfold part
  by_cases h : k + 1 ≤ 4 * j
  · rw [show max k (4 * j) = 4 * j from by omega, show max (k + 1) (4 * j) = 4 * j from by omega]
  · rw [show 4 * j + 4 - max k (4 * j) = 0 from by omega, show 4 * j + 4 - max (k + 1) (4 * j) = 0 from by omega]; simp
theorem part_start (ds : List Nat) (n j : Nat) (hn : ds.length ≤ n) : part ds n j = 0 := by
  unfold part
  rw [List.drop_of_length_le (by omega), List.take_nil]; rfl
theorem part_lt (ds : List Nat) (hw : D.Words ds) (k : Nat) : part ds (k + 1) (k / 4) < 281474976710656 := by
  unfold part
  have h1 := D.val_lt ((hw.drop (max (k + 1) (4 * (k / 4)))).take (4 * (k / 4) + 4 - max (k + 1) (4 * (k / 4))))
  have h2 : ((ds.drop (max (k + 1) (4 * (k / 4)))).take (4 * (k / 4) + 4 - max (k + 1) (4 * (k / 4)))).length ≤ 3 := by rw [List.length_take]; omega
  have h3 := D.pw_mono h2
  have h4 : D.pw 3 = 281474976710656 := by decide
  omega
theorem part_word (ds : List Nat) (hw : D.Words ds) (j : Nat) : part ds 0 j < 18446744073709551616 := by
  unfold part
  have h1 := D.val_lt ((hw.drop (max 0 (4 * j))).take (4 * j + 4 - max 0 (4 * j)))
  have h2 : ((ds.drop (max 0 (4 * j))).take (4 * j + 4 - max 0 (4 * j))).length ≤ 4 := by rw [List.length_take]; omega
  have h3 := D.pw_mono h2
  have h4 : D.pw 4 = 18446744073709551616 := by decide
  omega

/-- Digits as limbs. -/
def grp (ds : List Nat) : Nat → List Nat
  | 0 => []
  | m + 1 => grp ds m ++ [part ds 0 m]
theorem grp_len (ds : List Nat) (m : Nat) : (grp ds m).length = m := by
  induction m with
  | zero => rfl
  | succ m ih => rw [grp, List.length_append, ih]; rfl
theorem grp_getD (ds : List Nat) (m j : Nat) (hj : j < m) : (grp ds m).getD j 0 = part ds 0 j := by
  induction m with
  | zero => omega
  | succ m ih =>
    rw [grp, getD_snoc, grp_len]
    split
    · rename_i h; rw [h]
    · exact ih (by omega)
theorem grp_words (ds : List Nat) (hw : D.Words ds) (m : Nat) : Words (grp ds m) := by
  induction m with
  | zero => exact Words.nil
  | succ m ih => exact ih.append (Words.one (part_word ds hw m))
theorem grp_val (ds : List Nat) (m : Nat) : val (grp ds m) = D.val (ds.take (4 * m)) := by
  induction m with
  | zero => rfl
  | succ m ih =>
    rw [grp, val_snoc, grp_len, ih, ← pw_dig]
    unfold part
    rw [show max 0 (4 * m) = 4 * m from by omega, show 4 * m + 4 - 4 * m = 4 from by omega]
    by_cases h : 4 * m ≤ (ds.take (4 * (m + 1))).length
    · rw [D.val_split (ds.take (4 * (m + 1))) (4 * m) h, List.take_take, List.drop_take, show min (4 * m) (4 * (m + 1)) = 4 * m from by omega, show 4 * (m + 1) - 4 * m = 4 from by omega]
    · rw [List.length_take] at h
      rw [List.drop_of_length_le (by omega), List.take_nil, List.take_of_length_le (by omega), List.take_of_length_le (by omega)]
      simp [D.val]
theorem grp_bare (ds : List Nat) (hb : D.Bare ds) : Bare (grp ds ((ds.length + 3) / 4)) := by
  show tl _ = _
  apply tl_eq
  · intro j h1 h2; omega
  · intro j hj
    rw [grp_len] at hj
    rw [grp_getD _ _ _ (by omega)]
    have hne := D.getD_tl_pred (xs := ds) (j := ds.length - 1) (by rw [hb]; omega)
    intro h0
    apply hne
    unfold part at h0
    rw [show max 0 (4 * j) = 4 * j from by omega, show 4 * j + 4 - 4 * j = 4 from by omega] at h0
    have h2 := D.tl_zero_iff.2 h0
    have h3 := D.getD_of_tl (xs := (ds.drop (4 * j)).take 4) (j := ds.length - 1 - 4 * j) (by omega)
    rw [List.getD_eq_getElem?_getD, List.getElem?_take_of_lt (by omega), List.getElem?_drop, show 4 * j + (ds.length - 1 - 4 * j) = ds.length - 1 from by omega, ← List.getD_eq_getElem?_getD] at h3
    exact h3

set_option maxHeartbeats 2000000 in
theorem limbs_any (A : Option Addr) (n c : Nat) (ds : List Nat) (w : World) (h : Dig w A n c ds) (hn : n ≤ 1000000) :
    Calls Tryd.prog 60 #[.slice A n c] w fun e w' => e = .returned (.slice (some ⟨w.heap.size, 0, none⟩) ((n + 3) / 4) ((n + 3) / 4)) ∧ Lim w' (some ⟨w.heap.size, 0, none⟩) ((n + 3) / 4) ((n + 3) / 4) (grp ds ((n + 3) / 4)) ∧ Below w.heap.size w w' := by
  obtain ⟨M, hM⟩ : ∃ M, (n + 3) / 4 = M := ⟨_, rfl⟩
  rw [hM]
  have hmk := run_make_row' (P := Tryd.prog) 26 22 (.int .u64 0) 8 Tryd.underlying26 info64 rfl .i64 .i64 M (by omega) (by omega)
  have e1 : ((n : Int) + 3) / 4 = (M : Int) := by omega
  have HD := Lib.hid h
  have HM := Lib.hid hM
  have hM1 : n ≤ 4 * M := by omega
  have hM2 : M ≤ n := by omega
  clear h hM
  go_enter Tryd.func60, Tryd.ntmps60
  go_wp2
  clear hmk e1
  go_loopw [4] (fun i wr => ∃ k : Nat, k ≤ n ∧ i = .int .i64 ((k : Int) - 1) ∧ Below w.heap.size w wr ∧ Hid (wr.rowIs w.heap.size 22 M (fun j => .int .u64 ((part ds k j : Nat) : Int)))) (fun i _ => (intOf i + 1).toNat)
  case atStart => exact ⟨n, Nat.le_refl _, rfl, (Below.refl _ _).alloc (Nat.le_refl _) _, (World.rowIs_made w (.int .u64 0) M 22).congr (fun j _ => by rw [part_start ds n j (by rw [HD.out.len]; exact Nat.le_refl _)]; rfl)⟩
  case round =>
    obtain ⟨k, hk, rfl, hb, hR⟩ := hrel
    cases k with
    | zero =>
      have hl : Lim wr (some ⟨w.heap.size, 0, none⟩) M M (grp ds M) := Lim.row hR.out (grp_len ds M) (grp_words ds HD.out.words M) (fun k hk => by rw [grp_getD ds M k hk])
      have Hl := Lib.hid hl
      clear hl
      go_wp2
      go_ret
      exact ⟨rfl, Hl.out, hb⟩
    | succ k =>
      rw [show (((k + 1 : Nat) : Int) - 1) = (k : Int) from by omega]
      obtain ⟨b, o, rfl, hbl, hcl⟩ := HD.out.at_ (by omega)
      have c1 := (hb.cell (p := ⟨b, o + k, none⟩) hbl).trans (hcl k (by omega))
      clear hcl
      have hdw := HD.out.words.getD k
      have hst := part_step ds k (by have := HD.out.len; omega)
      have hlt := part_lt ds HD.out.words k
      obtain ⟨j, hj⟩ : ∃ j, k / 4 = j := ⟨_, rfl⟩
      have hjM : j < M := by omega
      have c2 := hR.out.cell (i := j) hjM
      have c3 := hR.out.frozen j
      have hR2 : Hid ((wr.setCell ⟨w.heap.size, j, none⟩ (.int .u64 ((part ds k j : Nat) : Int))).rowIs w.heap.size 22 M (fun j => .int .u64 ((part ds k j : Nat) : Int))) :=
        (hR.out.set j _).congr (fun i _ => by
          by_cases e : i = j
          · rw [if_pos e, e]
          · rw [if_neg e, part_other ds k i (by omega)])
      rw [hj] at hst hlt
      rw [hst] at hR2
      obtain ⟨x, hx⟩ : ∃ x, ds.getD k 0 = x := ⟨_, rfl⟩
      obtain ⟨y, hy⟩ : ∃ y, part ds (k + 1) j = y := ⟨_, rfl⟩
      rw [hx] at c1 hdw hR2
      rw [hy] at c2 hlt hR2
      have e1 : (k : Int) / 4 = (j : Int) := by omega
      have d1 : (j : Int) < (M : Int) := by omega
      have d2 : (k : Int) < (n : Int) := by omega
      have hbj : b ≠ w.heap.size := by omega
      have hb2 := hb.setCell (p := ⟨w.heap.size, j, none⟩) (Nat.le_refl _) (.int .u64 ((x + 65536 * y : Nat) : Int))
      clear hst hx hy hj hR
      go_wp2
      go_region
      go_wp2
      go_roundw
      case rel =>
        refine ⟨k, by omega, by go_num, ?_, ?_⟩
        · rw [show (y : Int) * 65536 + (x : Int) = ((x + 65536 * y : Nat) : Int) from by omega]
          exact hb2.drew
        · rw [show (y : Int) * 65536 + (x : Int) = ((x + 65536 * y : Nat) : Int) from by omega]
          exact hR2.out.drew
      case measure => simp [intOf]


end Go.Proofs.YtgacafdkhailmaaDoor
