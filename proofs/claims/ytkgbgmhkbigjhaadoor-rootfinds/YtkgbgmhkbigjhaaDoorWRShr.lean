/- The walks of planimeterref01.Shr and Shl. -/
import Derived.Test.YtkgbgmhkbigjhaaDoorWRBit
namespace Go.Proofs.YtkgbgmhkbigjhaaDoor
open Go.RowKit

/-- Digits, with a second result. -/
def DTells2 (w : World) (V L : Nat) (u : Value) (e : Ending) (w' : World) : Prop :=
  ∃ A m c ds, e = .returned (.tuple #[.slice A m c, u]) ∧ m ≤ L ∧ Dig w' A m c ds ∧ D.Bare ds ∧ D.val ds = V ∧ Below w.heap.size w w'

theorem half_step (V j : Nat) : 2 * (V / 2 ^ (j + 1)) + V / 2 ^ j % 2 = V / 2 ^ j := by
  rw [Nat.pow_succ, ← Nat.div_div_eq_div_mul]
  omega
theorem mod_step (V k : Nat) : V % 2 ^ (k + 1) = V % 2 ^ k + 2 ^ k * (V / 2 ^ k % 2) := by
  rw [Nat.pow_succ, Nat.mod_mul]
theorem rest_step {V k v : Nat} {r : Bool} (hr : r = decide (V % 2 ^ k ≠ 0)) (hv : V / 2 ^ k % 2 = v) : (r || (v == 1)) = decide (V % 2 ^ (k + 1) ≠ 0) := by
  rw [mod_step, hv, hr]
  have hv2 : v < 2 := by rw [← hv]; exact Nat.mod_lt _ (by decide)
  have hp : 0 < 2 ^ k := Nat.pow_pos (by decide)
  have : v = 0 ∨ v = 1 := by omega
  rcases this with h | h
  · subst h; simp
  · subst h
    have : V % 2 ^ k + 2 ^ k * 1 ≠ 0 := by omega
    rw [decide_eq_true this]; simp




theorem dval_zeros (q : Nat) (ds : List Nat) : D.val (List.replicate q 0 ++ ds) = D.pw q * D.val ds := by
  rw [D.val_append, List.length_replicate]
  have : D.val (List.replicate q 0) = 0 := by
    induction q with
    | zero => rfl
    | succ q ih => rw [List.replicate_succ, D.val, ih]
  omega
/-- append(make([]uint32, q), a...). -/
theorem app_zeros (w : World) (A : Option Addr) (n c q : Nat) (ds : List Nat) (hA : Row .u32 w A n c ds) (hn : n ≤ 1000000) (hq : q ≤ 1000000) :
    ∃ A' c' w', (Builtin.append_ #[27, 27] 27 #[.slice (some ⟨w.heap.size, 0, none⟩) q q, .slice A n c]).run Tryd.prog (w.alloc (.cells (madeCells #[.int .u32 0] q) 49)) = .ok (.slice A' (q + n) c') w' ∧
      Own .u32 49 w' w.heap.size (.slice A' (q + n) c') (List.replicate q 0 ++ ds) ∧ Below w.heap.size w w' := by
  have hb : Below w.heap.size w (w.alloc (.cells (madeCells #[.int .u32 0] q) 49)) := (Below.refl _ _).alloc (Nat.le_refl _) _
  have hown : Own .u32 49 (w.alloc (.cells (madeCells #[.int .u32 0] q) 49)) w.heap.size (.slice (some ⟨w.heap.size, 0, none⟩) q q) (List.replicate q 0) := by
    refine ⟨by simp, Or.inr ⟨w.heap.size, q, madeCells #[.int .u32 0] q, by simp, Nat.le_refl _, heap_alloc_new w _, by simp, by unfold maxLen; omega, by rw [size_madeCells]; omega, ?_⟩⟩
    have hr := World.rowIs_made w (.int .u32 0) q 49
    apply List.ext_getElem?
    intro k
    by_cases hk : k < q
    · have hc := hr.cell hk
      rw [cell_of_row _ w.heap.size k (madeCells #[.int .u32 0] q) 49 (0, 0) (heap_alloc_new w _)] at hc
      rw [List.getElem?_take_of_lt (by simpa using hk), Array.getElem?_toList, hc, List.getElem?_map, List.getElem?_replicate, if_pos hk]
      rfl
    · rw [List.getElem?_eq_none (by rw [List.length_take, List.length_replicate]; omega), List.getElem?_eq_none (by simp; omega)]
  obtain ⟨v', w', hrun, ho, hb'⟩ := run_app (P := Tryd.prog) (T := 27) (ty := 27) Tryd.underlying27 info32 hown (hA.below hb) hb.size (by simp; omega) (by simp; omega)
  obtain ⟨A1, c1, rfl, hr⟩ := ho.row
  have el : (List.replicate q 0 ++ ds).length = q + n := by rw [List.length_append, List.length_replicate, hA.len]
  rw [el] at hrun ho
  exact ⟨A1, c1, w', hrun, ho, hb.trans hb'⟩

set_option maxHeartbeats 4000000 in
theorem rshl_any (A : Option Addr) (n c : Nat) (ds : List Nat) (N : Nat) (w : World) (hA : Dig w A n c ds) (ba : D.Bare ds) (hn : n ≤ 1000) (hN : N ≤ 4000) :
    Calls Tryd.prog 26 #[.slice A n c, .int .i64 (N : Int)] w (DTells w (D.val ds * 2 ^ N) 100000) := by
  cases n with
  | zero =>
    have hd : ds = [] := List.eq_nil_of_length_eq_zero hA.len
    subst hd
    have Hfin : Hid (DTells w (D.val [] * 2 ^ N) 100000 (.returned (.slice none 0 0)) w) := ⟨none, 0, 0, [], rfl, by omega, Dig.nil _ _ _, rfl, by simp [D.val], Below.refl _ _⟩
    clear hA ba
    go_enter Tryd.func26, Tryd.ntmps26
    go_wp2
    go_ret
    exact Hfin.out
  | succ n =>
    obtain ⟨q, hq⟩ : ∃ q, N / 16 = q := ⟨_, rfl⟩
    obtain ⟨r, hr⟩ : ∃ r, N % 16 = r := ⟨_, rfl⟩
    have e1 : (N : Int) / 16 = (q : Int) := by omega
    have e2 : (N : Int) % 16 = (r : Int) := by omega
    have hqb : q ≤ 250 := by omega
    have hrb : r < 16 := by omega
    have hwz : D.Words (List.replicate q 0 ++ ds) := D.Words.append (fun x hx => by rw [(List.mem_replicate.1 hx).2]; decide) hA.words
    have hlen : (List.replicate q 0 ++ ds).length = q + (n + 1) := by rw [List.length_append, List.length_replicate, hA.len]
    have hv0 := dval_zeros q ds
    have hb0 : D.Bare (List.replicate q 0 ++ ds) := dbare_of hwz hlen (Or.inr (by
      rw [hv0, show q + (n + 1) - 1 = q + n from by omega, D.pw_add]
      exact Nat.mul_le_mul_left _ (D.val_pos_of_tl (by rw [ba, hA.len]))))
    obtain ⟨A1, c1, w1, hrun, ho, hb1⟩ := app_zeros w A (n + 1) c q ds hA.1 (by omega) (by omega)
    have hd1 := ho.dig hlen hwz
    have hV : D.val ds * 2 ^ N = 2 ^ r * D.val (List.replicate q 0 ++ ds) := by
      rw [hv0, D.pw_two, ← Nat.mul_assoc, ← Nat.pow_add, show r + 16 * q = N from by omega, Nat.mul_comm]
    obtain ⟨T, hT⟩ : ∃ T, D.val ds * 2 ^ N = T := ⟨_, rfl⟩
    rw [hT] at hV ⊢
    have HV := Lib.hid hV
    have Hd1 := Lib.hid hd1
    have Hb0 := Lib.hid hb0
    have Hrun := Lib.hid hrun
    have hmk := run_make_row' (P := Tryd.prog) 27 49 (.int .u32 0) 4 Tryd.underlying27 info32 rfl .i64 .i64 q (by omega) (by omega)
    have b0 : (((n : Int) + 1) == 0) = false := beq_eq_false_iff_ne.2 (by omega)
    clear hA ba hwz hlen hv0 hb0 hrun ho hd1 hV hT hq hr
    generalize List.replicate q 0 ++ ds = zs at HV Hd1 Hb0
    go_enter Tryd.func26, Tryd.ntmps26
    go_wp2_with (at_builtin; refine wpList_app (s := .tmp 12) (x := .tmp 13) (by rfl) rfl rfl rfl Hrun.out ?_)
    clear hmk e1 b0
    go_loopw [5, 6] (fun v i wr => ∃ (k m2 c2 : Nat) (A2 : Option Addr) (es : List Nat), k ≤ r ∧ m2 ≤ q + (n + 1) + k ∧ i = .int .i64 k ∧ v = .slice A2 m2 c2 ∧ Hid (Dig wr A2 m2 c2 es) ∧ Hid (D.Bare es) ∧ Hid (2 ^ (r - k) * D.val es = T) ∧ Below w.heap.size w wr) (fun _ i _ => r - (intOf i).toNat)
    case atStart => exact ⟨0, q + (n + 1), c1, A1, zs, Nat.zero_le _, Nat.le_refl _, rfl, rfl, Hd1, Hb0, HV.out.symm, hb1⟩
    case round =>
      obtain ⟨k, m2, c2, A2, es, hk, hm2, rfl, rfl, Hes, Hbe, HE, hb⟩ := hrel
      by_cases hkr : k < r
      · go_wp2_with fail
        refine (rdouble_any A2 m2 c2 es 0 _ Hes.out Hbe.out (by omega) (by omega)).mono ?_
        rintro e w2 ⟨A3, m3, c3, fs, rfl, hm3, hfs, hbf, hvf, hb2⟩
        have Hfs := Lib.hid hfs
        have Hbf := Lib.hid hbf
        have HE2 : Hid (2 ^ (r - (k + 1)) * D.val fs = T) := by
          rw [hvf, ← HE.out, show r - k = r - (k + 1) + 1 from by omega, Nat.pow_succ, Nat.add_zero, Nat.mul_assoc]; rfl
        have hb3 := hb.trans (hb2.mono hb.size)
        clear hfs hbf hvf hb2
        go_wp2
        go_roundw
        case rel => exact ⟨k + 1, m3, c3, A3, fs, by omega, by omega, by go_num, rfl, Hfs, Hbf, HE2, hb3⟩
        case measure => simp [intOf]; omega
      · obtain rfl : k = r := by omega
        have Hfin : Hid (DTells w T 100000 (.returned (.slice A2 m2 c2)) wr) := ⟨A2, m2, c2, es, rfl, by omega, Hes.out, Hbe.out, by have := HE.out; rwa [Nat.sub_self, Nat.pow_zero, Nat.one_mul] at this, hb⟩
        go_wp2
        go_ret
        exact Hfin.out
end Go.Proofs.YtkgbgmhkbigjhaaDoor
