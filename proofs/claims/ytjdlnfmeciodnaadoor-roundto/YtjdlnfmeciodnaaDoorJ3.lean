/- Texts joined into one, in build order: WRShr, FlRef, FlNum, RnMath, RnCut, RnTo, RnRef, RnSum, RnCmp. -/
import Derived.Test.YtjdlnfmeciodnaaDoorJ2
import Derived.Test.YtjdlnfmeciodnaaDoorJ1
/- The walks of planimeterref01.Shr and Shl. -/
namespace Go.Proofs.YtjdlnfmeciodnaaDoor
open Go.RowKit

/-- Digits, with a second result. -/
def DTells2 (w : World) (V L : Nat) (u : Value) (e : Ending) (w' : World) : Prop :=
  ∃ A m c ds, e = .returned (.tuple #[.slice A m c, u]) ∧ m ≤ L ∧ Dig w' A m c ds ∧ D.Bare ds ∧ D.val ds = V ∧ Below w.heap.size w w'

theorem half_step (V j : Nat) : 2 * (V / 2 ^ (j + 1)) + V / 2 ^ j % 2 = V / 2 ^ j := by
  rw [Nat.pow_succ, ← Nat.div_div_eq_div_mul]
  omega
theorem mod_step (V k : Nat) : V % 2 ^ (k + 1) = V % 2 ^ k + 2 ^ k * (V / 2 ^ k % 2) := by
  rw [Nat.pow_succ, Nat.mod_mul]
theorem rest_step {V k v : Nat} {r : Bool} (hr : r = decide (V % 2 ^ k ≠ 0)) (hv : V / 2 ^ k % 2 = v) : (r || (v == 1)) = decide (V % 2 ^ (k + 1) ≠ 0) := by
  rw [mod_step, hv, hr]
  have hv2 : v < 2 := by rw [← hv]; exact Nat.mod_lt _ (by decide)
  have hp : 0 < 2 ^ k := Nat.pow_pos (by decide)
  have : v = 0 ∨ v = 1 := by omega
  rcases this with h | h
  · subst h; simp
  · subst h
    have : V % 2 ^ k + 2 ^ k * 1 ≠ 0 := by omega
    rw [decide_eq_true this]; simp

set_option maxHeartbeats 4000000 in
theorem rshr_pos (A : Option Addr) (n c : Nat) (ds : List Nat) (N : Nat) (hNb : N ≤ 9223372036854775807) (w : World) (hA : Dig w A n c ds) (ba : D.Bare ds) (hn : n ≤ 1000) :
    Calls Tryd.prog 21 #[.slice A n c, .int .i64 (N : Int)] w (DTells2 w (D.val ds / 2 ^ N) 100000 (.bool (decide (D.val ds % 2 ^ N ≠ 0)))) := by
  obtain ⟨V, hV⟩ : ∃ V, D.val ds = V := ⟨_, rfl⟩
  obtain ⟨R, hR⟩ : ∃ R, decide (V % 2 ^ N ≠ 0) = R := ⟨_, rfl⟩
  obtain ⟨Q, hQ⟩ : ∃ Q, V / 2 ^ N = Q := ⟨_, rfl⟩
  rw [hV, hR, hQ]
  have HR := Lib.hid hR
  have HQ := Lib.hid hQ
  have HV := Lib.hid hV
  have HA := Lib.hid hA
  obtain ⟨bl, hbl⟩ : ∃ bl, blen V = bl := ⟨_, rfl⟩
  have hblb : bl ≤ 16 * n := by
    rw [← hbl, ← hV]
    exact blen_le_iff.2 (by rw [← D.pw_two, ← hA.len]; exact D.val_lt hA.words)
  have Hlt : Hid (V < 2 ^ bl) := by rw [← hbl]; exact lt_blen V
  have hbits := rbits_any A n c ds w hA ba (by omega)
  rw [hV, hbl] at hbits
  have Hbits := Lib.hid hbits
  have b0 : decide ((N : Int) < 0) = false := by simp
  clear hR hQ hV hbl hbits hA ba
  go_enter Tryd.func21, Tryd.ntmps21
  go_wp2_with fail
  refine Hbits.out.mono ?_
  rintro e w' ⟨rfl, rfl⟩
  go_wp2_with fail
  clear Hbits b0
  go_loopw [7, 8] (fun v i wr => ∃ (j m1 c1 : Nat) (A1 : Option Addr) (es : List Nat), j ≤ bl ∧ m1 + j ≤ 2 * bl + 5 ∧ i = .int .i64 ((j : Int) - 1) ∧ v = .slice A1 m1 c1 ∧ Hid (N ≤ j ∨ j = bl) ∧ Hid (Dig wr A1 m1 c1 es) ∧ Hid (D.Bare es) ∧ Hid (D.val es = V / 2 ^ j) ∧ Below w.heap.size w wr) (fun _ i _ => (intOf i + 1).toNat)
  case atStart => exact ⟨bl, 0, 0, none, [], Nat.le_refl _, by omega, rfl, rfl, Or.inr rfl, Dig.nil _ _ _, rfl, by rw [Nat.div_eq_of_lt Hlt.out]; rfl, Below.refl _ _⟩
  case round =>
    obtain ⟨j, m1, c1, A1, es, hj, hm1, rfl, rfl, Hj, Hes, Hbe, HE, hb⟩ := hrel
    by_cases hc : N < j
    · obtain ⟨j, rfl⟩ : ∃ j', j = j' + 1 := ⟨j - 1, by omega⟩
      rw [show (((j + 1 : Nat) : Int) - 1) = (j : Int) from by omega]
      obtain ⟨v, hv⟩ : ∃ v, V / 2 ^ j % 2 = v := ⟨_, rfl⟩
      have hv2 : v ≤ 1 := by rw [← hv]; omega
      have hdb := half_step V j
      rw [hv] at hdb
      have Hdb := Lib.hid hdb
      have Hv := Lib.hid hv
      have hbit := rbit_any v A n c ds j wr (HA.out.below hb) (by omega) (by omega) (by rw [HV.out]; exact Hv)
      have Hbit := Lib.hid hbit
      have b2 : decide (N ≤ j) = true := by simp; omega
      clear hbit hdb hv
      go_wp2_with fail
      refine Hbit.out.mono ?_
      rintro e w' ⟨rfl, rfl⟩
      go_wp2_with fail
      refine (rdouble_any A1 m1 c1 es v _ Hes.out Hbe.out hv2 (by omega)).mono ?_
      rintro e w2 ⟨A2, m2, c2, fs, rfl, hm2, hfs, hbf, hvf, hb2⟩
      have Hfs := Lib.hid hfs
      have Hbf := Lib.hid hbf
      have Hvf : Hid (D.val fs = V / 2 ^ j) := by rw [hvf, HE.out]; exact Hdb.out
      have hb3 := hb.trans (hb2.mono hb.size)
      clear hfs hbf hvf hb2
      go_wp2
      go_roundw
      case rel => exact ⟨j, m2, c2, A2, fs, by omega, by omega, by go_num, rfl, Or.inl (by omega), Hfs, Hbf, Hvf, hb3⟩
      case measure => simp [intOf]
    · have HQ2 : Hid (D.val es = Q) := by
        rw [HE.out, ← HQ.out]
        rcases Hj.out with h | h
        · rw [show j = N from by omega]; rfl
        · have h1 := Hlt.out
          rw [h, Nat.div_eq_of_lt h1, Nat.div_eq_of_lt (Nat.lt_of_lt_of_le h1 (Nat.pow_le_pow_right (by decide) (by omega)))]; rfl
      have b2 : decide ((N : Int) ≤ (j : Int) - 1) = false := by simp; omega
      go_wp2_with fail
      clear b2
      go_loop [9, 10] (fun r i => ∃ (k : Nat) (rb : Bool), k ≤ N ∧ k ≤ bl ∧ i = .int .i64 k ∧ r = .bool rb ∧ Hid (rb = decide (V % 2 ^ k ≠ 0))) (fun _ i => bl - (intOf i).toNat)
      case atStart => exact ⟨0, false, Nat.zero_le _, Nat.zero_le _, rfl, rfl, by simp [Hid, Nat.mod_one]⟩
      case round =>
        obtain ⟨k, rb, hk1, hk2, rfl, rfl, Hrb⟩ := hrel
        by_cases hc2 : k < N ∧ k < bl
        · obtain ⟨h1, h2⟩ := hc2
          obtain ⟨v, hv⟩ : ∃ v, V / 2 ^ k % 2 = v := ⟨_, rfl⟩
          have hv2 : v = 0 ∨ v = 1 := by rw [← hv]; omega
          have hst := rest_step Hrb.out hv
          have Hst := Lib.hid hst
          have Hv := Lib.hid hv
          have hbit := rbit_any v A n c ds k wr (HA.out.below hb) (by omega) (by omega) (by rw [HV.out]; exact Hv)
          have Hbit := Lib.hid hbit
          have b3 : decide (k < N) = true := by simp; omega
          have b4 : decide (k < bl) = true := by simp; omega
          clear hbit hst hv
          cases rb with
          | true =>
            clear hv2
            go_wp2
            go_round
            case rel => exact ⟨k + 1, true, by omega, by omega, by go_num, rfl, by have := Hst.out; rw [Bool.true_or] at this; exact this⟩
            case measure => simp [intOf]; omega
          | false =>
            rcases hv2 with rfl | rfl
            · go_wp2_with fail
              refine Hbit.out.mono ?_
              rintro e w' ⟨rfl, rfl⟩
              go_wp2
              go_round
              case rel => exact ⟨k + 1, false, by omega, by omega, by go_num, rfl, Hst.out⟩
              case measure => simp [intOf]; omega
            · go_wp2_with fail
              refine Hbit.out.mono ?_
              rintro e w' ⟨rfl, rfl⟩
              go_wp2
              go_round
              case rel => exact ⟨k + 1, true, by omega, by omega, by go_num, rfl, Hst.out⟩
              case measure => simp [intOf]; omega
        · have HR2 : Hid (rb = R) := by
            rw [Hrb.out, ← HR.out]
            by_cases e : k = N
            · rw [e]; rfl
            · have h1 := Hlt.out
              have ek : k = bl := by omega
              rw [ek, Nat.mod_eq_of_lt h1, Nat.mod_eq_of_lt (Nat.lt_of_lt_of_le h1 (Nat.pow_le_pow_right (by decide) (by omega)))]; rfl
          have g : decide (k < N) = false ∨ (decide (k < N) = true ∧ decide (k < bl) = false) := by
            by_cases e : k < N
            · exact Or.inr ⟨by simp; omega, by simp; omega⟩
            · exact Or.inl (by simp; omega)
          have hfin : DTells2 w Q 100000 (.bool R) (.returned (.tuple #[.slice A1 m1 c1, .bool rb])) wr := by
            rw [HR2.out]
            exact ⟨A1, m1, c1, es, rfl, by omega, Hes.out, Hbe.out, HQ2.out, hb⟩
          have Hfin := Lib.hid hfin
          clear hfin hc2
          rcases g with b3 | ⟨b3, b4⟩
          all_goals
            go_wp2
            go_ret2
            exact Hfin.out

set_option maxHeartbeats 4000000 in
theorem rshr_neg (A : Option Addr) (n c : Nat) (ds : List Nat) (i : Int) (hi : i < 0) (w : World) (hA : Dig w A n c ds) (ba : D.Bare ds) (hn : n ≤ 1000) :
    Calls Tryd.prog 21 #[.slice A n c, .int .i64 i] w (DTells2 w (D.val ds / 2 ^ 0) 100000 (.bool (decide (D.val ds % 2 ^ 0 ≠ 0)))) := by
  obtain ⟨V, hV⟩ : ∃ V, D.val ds = V := ⟨_, rfl⟩
  obtain ⟨R, hR⟩ : ∃ R, decide (V % 2 ^ 0 ≠ 0) = R := ⟨_, rfl⟩
  obtain ⟨Q, hQ⟩ : ∃ Q, V / 2 ^ 0 = Q := ⟨_, rfl⟩
  rw [hV, hR, hQ]
  have HR := Lib.hid hR
  have HQ := Lib.hid hQ
  have HV := Lib.hid hV
  have HA := Lib.hid hA
  obtain ⟨bl, hbl⟩ : ∃ bl, blen V = bl := ⟨_, rfl⟩
  have hblb : bl ≤ 16 * n := by
    rw [← hbl, ← hV]
    exact blen_le_iff.2 (by rw [← D.pw_two, ← hA.len]; exact D.val_lt hA.words)
  have Hlt : Hid (V < 2 ^ bl) := by rw [← hbl]; exact lt_blen V
  have hbits := rbits_any A n c ds w hA ba (by omega)
  rw [hV, hbl] at hbits
  have Hbits := Lib.hid hbits
  have b0 : decide (i < 0) = true := by simpa using hi
  clear hR hQ hV hbl hbits hA ba
  go_enter Tryd.func21, Tryd.ntmps21
  go_wp2_with fail
  refine Hbits.out.mono ?_
  rintro e w' ⟨rfl, rfl⟩
  go_wp2_with fail
  clear Hbits b0
  go_loopw [7, 8] (fun v i wr => ∃ (j m1 c1 : Nat) (A1 : Option Addr) (es : List Nat), j ≤ bl ∧ m1 + j ≤ 2 * bl + 5 ∧ i = .int .i64 ((j : Int) - 1) ∧ v = .slice A1 m1 c1 ∧ Hid (0 ≤ j ∨ j = bl) ∧ Hid (Dig wr A1 m1 c1 es) ∧ Hid (D.Bare es) ∧ Hid (D.val es = V / 2 ^ j) ∧ Below w.heap.size w wr) (fun _ i _ => (intOf i + 1).toNat)
  case atStart => exact ⟨bl, 0, 0, none, [], Nat.le_refl _, by omega, rfl, rfl, Or.inr rfl, Dig.nil _ _ _, rfl, by rw [Nat.div_eq_of_lt Hlt.out]; rfl, Below.refl _ _⟩
  case round =>
    obtain ⟨j, m1, c1, A1, es, hj, hm1, rfl, rfl, Hj, Hes, Hbe, HE, hb⟩ := hrel
    by_cases hc : 0 < j
    · obtain ⟨j, rfl⟩ : ∃ j', j = j' + 1 := ⟨j - 1, by omega⟩
      rw [show (((j + 1 : Nat) : Int) - 1) = (j : Int) from by omega]
      obtain ⟨v, hv⟩ : ∃ v, V / 2 ^ j % 2 = v := ⟨_, rfl⟩
      have hv2 : v ≤ 1 := by rw [← hv]; omega
      have hdb := half_step V j
      rw [hv] at hdb
      have Hdb := Lib.hid hdb
      have Hv := Lib.hid hv
      have hbit := rbit_any v A n c ds j wr (HA.out.below hb) (by omega) (by omega) (by rw [HV.out]; exact Hv)
      have Hbit := Lib.hid hbit
      have b2 : decide ((0 : Int) ≤ (j : Int)) = true := by simp
      clear hbit hdb hv
      go_wp2_with fail
      refine Hbit.out.mono ?_
      rintro e w' ⟨rfl, rfl⟩
      go_wp2_with fail
      refine (rdouble_any A1 m1 c1 es v _ Hes.out Hbe.out hv2 (by omega)).mono ?_
      rintro e w2 ⟨A2, m2, c2, fs, rfl, hm2, hfs, hbf, hvf, hb2⟩
      have Hfs := Lib.hid hfs
      have Hbf := Lib.hid hbf
      have Hvf : Hid (D.val fs = V / 2 ^ j) := by rw [hvf, HE.out]; exact Hdb.out
      have hb3 := hb.trans (hb2.mono hb.size)
      clear hfs hbf hvf hb2
      go_wp2
      go_roundw
      case rel => exact ⟨j, m2, c2, A2, fs, by omega, by omega, by go_num, rfl, Or.inl (by omega), Hfs, Hbf, Hvf, hb3⟩
      case measure => simp [intOf]
    · have HQ2 : Hid (D.val es = Q) := by
        rw [HE.out, ← HQ.out]
        rcases Hj.out with h | h
        · rw [show j = 0 from by omega]; rfl
        · have h1 := Hlt.out
          rw [h, Nat.div_eq_of_lt h1, Nat.div_eq_of_lt (Nat.lt_of_lt_of_le h1 (Nat.pow_le_pow_right (by decide) (by omega)))]; rfl
      have b2 : decide (0 ≤ (j : Int) - 1) = false := by simp; omega
      go_wp2_with fail
      clear b2
      go_loop [9, 10] (fun r i => ∃ (k : Nat) (rb : Bool), k ≤ 0 ∧ k ≤ bl ∧ i = .int .i64 k ∧ r = .bool rb ∧ Hid (rb = decide (V % 2 ^ k ≠ 0))) (fun _ i => bl - (intOf i).toNat)
      case atStart => exact ⟨0, false, Nat.zero_le _, Nat.zero_le _, rfl, rfl, by simp [Hid, Nat.mod_one]⟩
      case round =>
        obtain ⟨k, rb, hk1, hk2, rfl, rfl, Hrb⟩ := hrel
        by_cases hc2 : k < 0 ∧ k < bl
        · obtain ⟨h1, h2⟩ := hc2
          exact absurd h1 (by omega)
        · have HR2 : Hid (rb = R) := by
            rw [Hrb.out, ← HR.out]
            by_cases e : k = 0
            · rw [e]; rfl
            · have h1 := Hlt.out
              have ek : k = bl := by omega
              rw [ek, Nat.mod_eq_of_lt h1, Nat.mod_eq_of_lt (Nat.lt_of_lt_of_le h1 (Nat.pow_le_pow_right (by decide) (by omega)))]; rfl
          have b3 : decide (k < 0) = false := by simp
          have hfin : DTells2 w Q 100000 (.bool R) (.returned (.tuple #[.slice A1 m1 c1, .bool rb])) wr := by
            rw [HR2.out]
            exact ⟨A1, m1, c1, es, rfl, by omega, Hes.out, Hbe.out, HQ2.out, hb⟩
          have Hfin := Lib.hid hfin
          clear hfin hc2
          go_wp2
          go_ret2
          exact Hfin.out

theorem rshr_any (A : Option Addr) (n c : Nat) (ds : List Nat) (i : Int) (w : World) (hA : Dig w A n c ds) (ba : D.Bare ds) (hn : n ≤ 1000) (hib : i ≤ 9223372036854775807) :
    Calls Tryd.prog 21 #[.slice A n c, .int .i64 i] w (DTells2 w (D.val ds / 2 ^ i.toNat) 100000 (.bool (decide (D.val ds % 2 ^ i.toNat ≠ 0)))) := by
  by_cases h : i < 0
  · have e : i.toNat = 0 := by omega
    rw [e]
    exact rshr_neg A n c ds i h w hA ba hn
  · obtain ⟨N, rfl⟩ := Int.eq_ofNat_of_zero_le (show 0 ≤ i by omega)
    rw [Int.toNat_natCast]
    exact rshr_pos A n c ds N (by omega) w hA ba hn

theorem dval_zeros (q : Nat) (ds : List Nat) : D.val (List.replicate q 0 ++ ds) = D.pw q * D.val ds := by
  rw [D.val_append, List.length_replicate]
  have : D.val (List.replicate q 0) = 0 := by
    induction q with
    | zero => rfl
    | succ q ih => rw [List.replicate_succ, D.val, ih]
  omega
/-- append(make([]uint32, q), a...). -/
theorem app_zeros (w : World) (A : Option Addr) (n c q : Nat) (ds : List Nat) (hA : Row .u32 w A n c ds) (hn : n ≤ 1000000) (hq : q ≤ 1000000) :
    ∃ A' c' w', (Builtin.append_ #[26, 26] 26 #[.slice (some ⟨w.heap.size, 0, none⟩) q q, .slice A n c]).run Tryd.prog (w.alloc (.cells (madeCells #[.int .u32 0] q) 54)) = .ok (.slice A' (q + n) c') w' ∧
      Own .u32 54 w' w.heap.size (.slice A' (q + n) c') (List.replicate q 0 ++ ds) ∧ Below w.heap.size w w' := by
  have hb : Below w.heap.size w (w.alloc (.cells (madeCells #[.int .u32 0] q) 54)) := (Below.refl _ _).alloc (Nat.le_refl _) _
  have hown : Own .u32 54 (w.alloc (.cells (madeCells #[.int .u32 0] q) 54)) w.heap.size (.slice (some ⟨w.heap.size, 0, none⟩) q q) (List.replicate q 0) := by
    refine ⟨by simp, Or.inr ⟨w.heap.size, q, madeCells #[.int .u32 0] q, by simp, Nat.le_refl _, heap_alloc_new w _, by simp, by unfold maxLen; omega, by rw [size_madeCells]; omega, ?_⟩⟩
    have hr := World.rowIs_made w (.int .u32 0) q 54
    apply List.ext_getElem?
    intro k
    by_cases hk : k < q
    · have hc := hr.cell hk
      rw [cell_of_row _ w.heap.size k (madeCells #[.int .u32 0] q) 54 (0, 0) (heap_alloc_new w _)] at hc
      rw [List.getElem?_take_of_lt (by simpa using hk), Array.getElem?_toList, hc, List.getElem?_map, List.getElem?_replicate, if_pos hk]
      rfl
    · rw [List.getElem?_eq_none (by rw [List.length_take, List.length_replicate]; omega), List.getElem?_eq_none (by simp; omega)]
  obtain ⟨v', w', hrun, ho, hb'⟩ := run_app (P := Tryd.prog) (T := 26) (ty := 26) Tryd.underlying26 info32 hown (hA.below hb) hb.size (by simp; omega) (by simp; omega)
  obtain ⟨A1, c1, rfl, hr⟩ := ho.row
  have el : (List.replicate q 0 ++ ds).length = q + n := by rw [List.length_append, List.length_replicate, hA.len]
  rw [el] at hrun ho
  exact ⟨A1, c1, w', hrun, ho, hb.trans hb'⟩

set_option maxHeartbeats 4000000 in
theorem rshl_any (A : Option Addr) (n c : Nat) (ds : List Nat) (N : Nat) (w : World) (hA : Dig w A n c ds) (ba : D.Bare ds) (hn : n ≤ 1000) (hN : N ≤ 4000) :
    Calls Tryd.prog 75 #[.slice A n c, .int .i64 (N : Int)] w (DTells w (D.val ds * 2 ^ N) 100000) := by
  cases n with
  | zero =>
    have hd : ds = [] := List.eq_nil_of_length_eq_zero hA.len
    subst hd
    have Hfin : Hid (DTells w (D.val [] * 2 ^ N) 100000 (.returned (.slice none 0 0)) w) := ⟨none, 0, 0, [], rfl, by omega, Dig.nil _ _ _, rfl, by simp [D.val], Below.refl _ _⟩
    clear hA ba
    go_enter Tryd.func75, Tryd.ntmps75
    go_wp2
    go_ret
    exact Hfin.out
  | succ n =>
    obtain ⟨q, hq⟩ : ∃ q, N / 16 = q := ⟨_, rfl⟩
    obtain ⟨r, hr⟩ : ∃ r, N % 16 = r := ⟨_, rfl⟩
    have e1 : (N : Int) / 16 = (q : Int) := by omega
    have e2 : (N : Int) % 16 = (r : Int) := by omega
    have hqb : q ≤ 250 := by omega
    have hrb : r < 16 := by omega
    have hwz : D.Words (List.replicate q 0 ++ ds) := D.Words.append (fun x hx => by rw [(List.mem_replicate.1 hx).2]; decide) hA.words
    have hlen : (List.replicate q 0 ++ ds).length = q + (n + 1) := by rw [List.length_append, List.length_replicate, hA.len]
    have hv0 := dval_zeros q ds
    have hb0 : D.Bare (List.replicate q 0 ++ ds) := dbare_of hwz hlen (Or.inr (by
      rw [hv0, show q + (n + 1) - 1 = q + n from by omega, D.pw_add]
      exact Nat.mul_le_mul_left _ (D.val_pos_of_tl (by rw [ba, hA.len]))))
    obtain ⟨A1, c1, w1, hrun, ho, hb1⟩ := app_zeros w A (n + 1) c q ds hA.1 (by omega) (by omega)
    have hd1 := ho.dig hlen hwz
    have hV : D.val ds * 2 ^ N = 2 ^ r * D.val (List.replicate q 0 ++ ds) := by
      rw [hv0, D.pw_two, ← Nat.mul_assoc, ← Nat.pow_add, show r + 16 * q = N from by omega, Nat.mul_comm]
    obtain ⟨T, hT⟩ : ∃ T, D.val ds * 2 ^ N = T := ⟨_, rfl⟩
    rw [hT] at hV ⊢
    have HV := Lib.hid hV
    have Hd1 := Lib.hid hd1
    have Hb0 := Lib.hid hb0
    have Hrun := Lib.hid hrun
    have hmk := run_make_row' (P := Tryd.prog) 26 54 (.int .u32 0) 4 Tryd.underlying26 info32 rfl .i64 .i64 q (by omega) (by omega)
    have b0 : (((n : Int) + 1) == 0) = false := beq_eq_false_iff_ne.2 (by omega)
    clear hA ba hwz hlen hv0 hb0 hrun ho hd1 hV hT hq hr
    generalize List.replicate q 0 ++ ds = zs at HV Hd1 Hb0
    go_enter Tryd.func75, Tryd.ntmps75
    go_wp2_with (at_builtin; refine wpList_app (s := .tmp 12) (x := .tmp 13) (by rfl) rfl rfl rfl Hrun.out ?_)
    clear hmk e1 b0
    go_loopw [5, 6] (fun v i wr => ∃ (k m2 c2 : Nat) (A2 : Option Addr) (es : List Nat), k ≤ r ∧ m2 ≤ q + (n + 1) + k ∧ i = .int .i64 k ∧ v = .slice A2 m2 c2 ∧ Hid (Dig wr A2 m2 c2 es) ∧ Hid (D.Bare es) ∧ Hid (2 ^ (r - k) * D.val es = T) ∧ Below w.heap.size w wr) (fun _ i _ => r - (intOf i).toNat)
    case atStart => exact ⟨0, q + (n + 1), c1, A1, zs, Nat.zero_le _, Nat.le_refl _, rfl, rfl, Hd1, Hb0, HV.out.symm, hb1⟩
    case round =>
      obtain ⟨k, m2, c2, A2, es, hk, hm2, rfl, rfl, Hes, Hbe, HE, hb⟩ := hrel
      by_cases hkr : k < r
      · go_wp2_with fail
        refine (rdouble_any A2 m2 c2 es 0 _ Hes.out Hbe.out (by omega) (by omega)).mono ?_
        rintro e w2 ⟨A3, m3, c3, fs, rfl, hm3, hfs, hbf, hvf, hb2⟩
        have Hfs := Lib.hid hfs
        have Hbf := Lib.hid hbf
        have HE2 : Hid (2 ^ (r - (k + 1)) * D.val fs = T) := by
          rw [hvf, ← HE.out, show r - k = r - (k + 1) + 1 from by omega, Nat.pow_succ, Nat.add_zero, Nat.mul_assoc]; rfl
        have hb3 := hb.trans (hb2.mono hb.size)
        clear hfs hbf hvf hb2
        go_wp2
        go_roundw
        case rel => exact ⟨k + 1, m3, c3, A3, fs, by omega, by omega, by go_num, rfl, Hfs, Hbf, HE2, hb3⟩
        case measure => simp [intOf]; omega
      · obtain rfl : k = r := by omega
        have Hfin : Hid (DTells w T 100000 (.returned (.slice A2 m2 c2)) wr) := ⟨A2, m2, c2, es, rfl, by omega, Hes.out, Hbe.out, by have := HE.out; rwa [Nat.sub_self, Nat.pow_zero, Nat.one_mul] at this, hb⟩
        go_wp2
        go_ret
        exact Hfin.out
end Go.Proofs.YtjdlnfmeciodnaaDoor

/- The document's numbers: planimeterref05.cut, Of; planimeterref06.Worth. -/
namespace Go.Proofs.YtjdlnfmeciodnaaDoor
open Go.RowKit

theorem cut_l (e0 h : Int) (w : World) (hh : Hid (held e0 = h)) : Calls Tryd.prog 22 #[.int .i64 e0] w fun e w' => e = .returned (.int .i64 h) ∧ w = w' := by
  have hv := hh.out
  unfold held at hv
  clear hh
  by_cases h1 : 2147483648 < e0
  · obtain rfl : h = 2147483648 := by omega
    have b1 : decide ((2147483648 : Int) < e0) = true := decide_eq_true h1
    clear hv h1
    go_enter Tryd.func22, Tryd.ntmps22
    go_wp2
    go_ret
    exact ⟨rfl, rfl⟩
  · have b1 : decide ((2147483648 : Int) < e0) = false := decide_eq_false h1
    by_cases h2 : e0 < -2147483648
    · obtain rfl : h = -2147483648 := by omega
      have b2 : decide (e0 < -2147483648) = true := decide_eq_true h2
      clear hv h1 h2
      go_enter Tryd.func22, Tryd.ntmps22
      go_wp2
      go_ret
      exact ⟨rfl, rfl⟩
    · obtain rfl : h = e0 := by omega
      have b2 : decide (h < -2147483648) = false := decide_eq_false h2
      clear hv h1 h2
      go_enter Tryd.func22, Tryd.ntmps22
      go_wp2
      go_ret
      exact ⟨rfl, rfl⟩

/-- Digits aren't in such a block. -/
theorem Bd.dig {w : World} {b t : Nat} {g : Bool} {A : Option Addr} {n c : Nat} {e : Int} (h : Bd w b t g A n c e) {A1 : Option Addr} {n1 c1 : Nat} {ds : List Nat} (hA : Dig w A1 n1 c1 ds) (g' : Bool) (A' : Option Addr) (n' c' : Nat) (e' : Int) : Dig (World.put w b g' A' n' c' e') A1 n1 c1 ds :=
  ⟨⟨hA.1.1, hA.1.2.1, fun hn => by
    obtain ⟨k, o, ek, hk, hc⟩ := hA.at_ hn
    have hne : k ≠ b := by
      rintro rfl
      have := h.not (hc 0 hn)
      cases this
    exact ⟨k, o, ek, by rw [put_size]; exact hk, fun j hj => by rw [put_cell _ _ _ _ _ _ _ _ hne]; exact hc j hj⟩⟩, hA.2⟩
theorem Dig.drew {w : World} {A : Option Addr} {n c : Nat} {ds : List Nat} (h : Dig w A n c ds) : Dig w.drew A n c ds := h
theorem Dig.alloc {w : World} {A : Option Addr} {n c : Nat} {ds : List Nat} (h : Dig w A n c ds) (o : Obj) : Dig (w.alloc o) A n c ds := h.below ((Below.refl _ _).alloc (Nat.le_refl _) o)
/-- How many digits a number has at most. -/
theorem dig_len {ds : List Nat} {k : Nat} (hb : D.Bare ds) (h : D.val ds < 2 ^ (16 * k)) : ds.length ≤ k := by
  rcases Nat.lt_or_ge k ds.length with hk | hk
  · obtain ⟨j, hj⟩ : ∃ j, ds.length = j + 1 := ⟨ds.length - 1, by omega⟩
    have h1 := D.val_pos_of_tl (xs := ds) (j := j) (by rw [hb, hj])
    rw [D.pw_two] at h1
    have h2 : (2 : Nat) ^ (16 * k) ≤ 2 ^ (16 * j) := Nat.pow_le_pow_right (by decide) (by omega)
    omega
  · exact hk

/-- A number that is told. -/
def NTold (w : World) (d : Dy) (L : Nat) (e : Ending) (w' : World) : Prop :=
  ∃ A m c ds, e = .returned (.agg #[.bool d.neg, .slice A m c, .int .i64 d.e]) ∧ m ≤ L ∧ Dig w' A m c ds ∧ D.Bare ds ∧ D.val ds = d.V ∧ Below w.heap.size w w'

theorem low_bit {V j : Nat} (h : 0 < V) (hj : j ≤ low V) : V / 2 ^ j % 2 = if j = low V then 1 else 0 := by
  obtain ⟨m, hm⟩ := low_spec h
  generalize low V = l at *
  split
  · rename_i e
    subst e
    rw [hm, Nat.mul_div_cancel_left _ (Nat.two_pow_pos _)]
    omega
  · rename_i e
    obtain ⟨d, rfl⟩ : ∃ d, l = j + (d + 1) := ⟨l - j - 1, by omega⟩
    rw [hm, Nat.pow_add, Nat.mul_assoc, Nat.mul_div_cancel_left _ (Nat.two_pow_pos _), Nat.pow_succ, Nat.mul_comm (2 ^ d), Nat.mul_assoc, Nat.mul_mod_right]

set_option maxHeartbeats 1000000 in
theorem rof_any (g : Bool) (A : Option Addr) (n c : Nat) (xs : List Nat) (e0 : Int) (w : World) (hA : Lim w A n c xs) (hn : n ≤ 200) :
    Calls Tryd.prog 7 #[.agg #[.bool g, .slice A n c, .int .i64 e0]] w (NTold w (nO g (val xs) e0) (4 * n)) := by
  have a3 : Below w.heap.size w ((w.alloc (.cells #[.bool g, .slice A n c, .int .i64 e0] 24)).alloc (.cells #[.bool false, .slice none 0 0, .int .i64 0] 28)) := ((Below.refl _ _).alloc (Nat.le_refl _) _).alloc (by simp) _
  have H1 := Lib.hid (to_any A n c xs _ (hA.below a3) (by omega))
  have b1 := (Bd.new w 24 g A n c e0).alloc (.cells #[.bool false, .slice none 0 0, .int .i64 0] 28)
  have b2 := Bd.new (w.alloc (.cells #[.bool g, .slice A n c, .int .i64 e0] 24)) 28 false none 0 0 0
  rw [World.size_alloc] at b2
  have Hb1 := Lib.hid b1
  have Hb2 := Lib.hid b2
  have HS := Lib.hid a3
  have hlt := val_lt hA.words
  rw [hA.len] at hlt
  have Hlt : Hid (val xs < 2 ^ (16 * (4 * n))) := by
    rw [pw_two, show 64 * n = 16 * (4 * n) by omega] at hlt
    exact hlt
  have hbl := hA.blen_le
  generalize val xs = V at *
  clear hA a3 b1 b2 hlt
  go_enter Tryd.func7, Tryd.ntmps7
  go_wp2_with fail
  refine H1.out.mono ?_
  rintro e w1 ⟨A1, m1, c1, ds, rfl, hm1, hl1, hd1, hv1, hB1⟩
  have HL1 := Lib.hid hl1
  have hk1 := Lib.hid (Hb1.out.below hB1)
  have hk2 := Lib.hid (Hb2.out.below hB1)
  have HS1 := Lib.hid (HS.out.trans (hB1.mono HS.out.size))
  have hm9 : m1 ≤ 800 := by omega
  by_cases h0 : V = 0
  · obtain rfl : ds = [] := by
      have h5 : D.tl ds = 0 := D.tl_zero_iff.2 (hv1.trans h0)
      rw [hd1] at h5
      exact List.eq_nil_of_length_eq_zero h5
    obtain rfl : m1 = 0 := hl1.len.symm
    have Hfin : Hid (NTold w (nO g V e0) (4 * n) (.returned (.agg #[.bool false, .slice none 0 0, .int .i64 0])) (World.put w1 (w.heap.size + 1) false none 0 0 0)) := by
      rw [h0, nO_zero]
      exact ⟨none, 0, 0, [], rfl, Nat.zero_le _, Dig.nil _ _ _, rfl, rfl, below_put HS1.out (Nat.le_succ _) _ _ _ _ _⟩
    have y0 := hk2.out.c0
    have y1 := hk2.out.c1
    have y2 := hk2.out.c2
    have yf := hk2.out.fz
    clear hk1 hk2 hB1 hl1 hd1 hv1 H1 Hb1 Hb2 HS HL1 h0 HS1
    go_wp2
    exact bodyPost_ret (v := .agg #[.bool false, .slice none 0 0, .int .i64 0]) (by simp [results, Tryd.results7, go_sem, y0, y1, y2]) rfl Hfin.out
  · have hm0 : 0 < m1 := by
      rcases Nat.eq_zero_or_pos m1 with h | h
      · exfalso
        apply h0
        rw [← hv1]
        have h5 := hl1.len
        rw [h] at h5
        rw [List.eq_nil_of_length_eq_zero h5]; rfl
      · exact h
    obtain ⟨l, hl⟩ : ∃ l, low V = l := ⟨_, rfl⟩
    have hl9 : l ≤ 64 * n := by rw [← hl]; exact Nat.le_trans (low_le_blen V) hbl
    have Hbit : Hid (∀ j, j ≤ l → V / 2 ^ j % 2 = if j = l then 1 else 0) := fun j hj => by
      rw [← hl]; exact low_bit (Nat.pos_of_ne_zero h0) (by omega)
    have Hv1 := Lib.hid hv1
    have Hd1 := Lib.hid hd1
    have c0 : ((m1 : Int) == 0) = false := beq_no (by omega)
    have HN : Hid (nO g V e0 = ⟨g, V / 2 ^ l, held e0 + l⟩) := by rw [← hl]; exact nO_pos g e0 h0
    clear hB1 hl1 hd1 hv1 H1 Hb1 Hb2 HS h0 hl hbl
    go_wp2
    go_loop [4] (fun i => ∃ j : Nat, j ≤ l ∧ i = .int .i64 j) (fun i => l - (intOf i).toNat)
    case atStart => exact ⟨0, Nat.zero_le _, rfl⟩
    case round =>
      obtain ⟨j, hj, rfl⟩ := hrel
      by_cases hjl : j = l
      · subst hjl
        have Hb : Hid (D.val ds / 2 ^ j % 2 = 1) := by rw [Hv1.out]; have := Hbit.out j (Nat.le_refl _); rw [if_pos rfl] at this; exact this
        have H5 := rshr_pos A1 m1 c1 ds j (by omega) w1 HL1.out Hd1.out (by omega)
        rw [Hv1.out] at H5
        generalize decide (V % 2 ^ j ≠ 0) = R at H5
        have H5 := Lib.hid H5
        obtain ⟨h, hh⟩ : ∃ h, held e0 = h := ⟨_, rfl⟩
        have hhb := held_bd e0
        rw [hh] at hhb
        have Hh := Lib.hid hh
        have Hlt2 : Hid (V / 2 ^ j < 2 ^ (16 * (4 * n))) := Nat.lt_of_le_of_lt (Nat.div_le_self _ _) Hlt.out
        rw [hh] at HN
        have hw : IntKind.i64.wrap (h + (j : Int)) = h + (j : Int) := by rw [IntKind.wrap_i64]; omega
        clear hh Hlt Hbit
        go_wp2_with fail
        refine (rbit_any 1 A1 m1 c1 ds j w1 HL1.out (by omega) (by omega) Hb).mono ?_
        rintro e w' ⟨rfl, rfl⟩
        go_wp2_with fail
        refine H5.out.mono ?_
        rintro e w2 ⟨A2, m2, c2, es, rfl, _, hl2, hd2, hv2, hB2⟩
        have k1 := hk1.out.below hB2
        have k2 := hk2.out.below hB2
        have hm2 : m2 ≤ 4 * n := by
          rw [← hl2.len]
          exact dig_len hd2 (by rw [hv2]; exact Hlt2.out)
        have Hfin : Hid (NTold w (nO g V e0) (4 * n) (.returned (.agg #[.bool g, .slice A2 m2 c2, .int .i64 (h + j)])) (World.put w2 (w.heap.size + 1) g A2 m2 c2 (h + j)).drew) := by
          rw [HN.out]
          exact ⟨A2, m2, c2, es, rfl, hm2, (k2.dig hl2 _ _ _ _ _).drew, hd2, hv2, (below_put (HS1.out.trans (hB2.mono HS1.out.size)) (Nat.le_succ _) _ _ _ _ _).drew⟩
        have q1 := k1.other (b' := w.heap.size + 1) (by omega) g A2 m2 c2 (h + j)
        have K0 := Lib.hid (And.intro k1.drew.c0 k1.drew.c2)
        have K1 := Lib.hid (And.intro q1.drew.c0 q1.drew.c2)
        have y0 := k2.c0
        have y1 := k2.c1
        have y2 := k2.c2
        have yf := k2.fz
        clear k1 k2 q1 hB2 hl2 hd2 hv2 H5 hk1 hk2 HS1 HN Hlt2 Hb HL1 Hv1 Hd1
        go_wp2_with fail
        go_region_held3 (fun w' => w'.cell? ⟨w.heap.size, 0, none⟩ = some (.bool g) ∧ w'.cell? ⟨w.heap.size, 2, none⟩ = some (.int .i64 e0)) (first | (with_reducible exact K0.out) | (with_reducible exact K1.out)) (first | (go_at_call 22; (with_reducible refine (cut_l e0 h _ Hh).mono ?_); rintro e w' ⟨rfl, rfl⟩))
        all_goals (
          go_wp2_with fail
          exact bodyPost_ret (v := .agg #[.bool g, .slice A2 m2 c2, .int .i64 (h + j)]) (by simp [results, Tryd.results7, go_sem, y0, y1, y2]) rfl Hfin.out)
      · have Hb : Hid (D.val ds / 2 ^ j % 2 = 0) := by rw [Hv1.out]; have := Hbit.out j hj; rw [if_neg hjl] at this; exact this
        clear Hbit HN hk1 hk2 HS1 Hlt
        go_wp2_with fail
        refine (rbit_any 0 A1 m1 c1 ds j w1 HL1.out (by omega) (by omega) Hb).mono ?_
        rintro e w' ⟨rfl, rfl⟩
        go_wp2
        go_round
        case rel => exact ⟨j + 1, by omega, by go_num⟩
        case measure => simp [intOf]; omega
end Go.Proofs.YtjdlnfmeciodnaaDoor

/- The document's numbers: planimeterref06.Worth and Same, planimeterref05.Fits. -/
namespace Go.Proofs.YtjdlnfmeciodnaaDoor
open Go.RowKit


theorem fits_yes (g : Bool) (A : Option Addr) (n c : Nat) (e0 : Int) (w : World) (h1 : -1073741824 ≤ e0) (h2 : e0 ≤ 1073741824) :
    Calls Tryd.prog 9 #[.agg #[.bool g, .slice A n c, .int .i64 e0]] w fun e w' => e = .returned (.bool true) ∧ Below w.heap.size w w' := by
  have H1 := Lib.hid (below1 w (.cells #[.bool g, .slice A n c, .int .i64 e0] 28))
  have b1 : decide (-1073741824 ≤ e0) = true := decide_eq_true h1
  have b2 : decide (e0 ≤ 1073741824) = true := decide_eq_true h2
  clear h1 h2
  go_enter Tryd.func9, Tryd.ntmps9
  go_wp2
  go_ret
  exact ⟨rfl, H1.out⟩

set_option maxRecDepth 20000 in
theorem worth_any (b : Nat) (hb : b < 18446744073709551616) (w : World) :
    Calls Tryd.prog 58 #[.int .u64 (b : Int)] w (NTold w (fO b) 4) := by
  obtain ⟨z, hz⟩ : ∃ z, b / 4503599627370496 = z := ⟨_, rfl⟩
  have hz9 : z < 4096 := by omega
  have e0 : (b : Int) / 4503599627370496 = (z : Int) := by omega
  have hzx : fex b = z % 2048 := by rw [← hz]; rfl
  have e1 : (z : Int) % 2048 = (fex b : Int) := by rw [hzx]; omega
  have e2 : (b : Int) % 4503599627370496 = (ffr b : Int) := by unfold ffr; omega
  have hx := fex_lt b
  have hy := ffr_lt b
  obtain ⟨s, hs⟩ : ∃ s, fng b = s := ⟨_, rfl⟩
  have s1 : decide ((9223372036854775808 : Int) ≤ (b : Int)) = s := by
    rw [← hs]; unfold fng
    by_cases h : 9223372036854775808 ≤ b
    · rw [decide_eq_true h]; exact decide_eq_true (by omega)
    · rw [decide_eq_false h]; exact decide_eq_false (by omega)
  have s2 : decide (9223372036854775808 ≤ b) = s := hs
  have hO : fO b = nO s (val [fm b]) (fe b) := by
    rw [← hs, show val [fm b] = fm b from by show fm b + 18446744073709551616 * 0 = fm b; omega]; rfl
  have hM : fm b = if fex b = 0 then ffr b else ffr b + 4503599627370496 := rfl
  have hF : fe b = ((fex b - 1 : Nat) : Int) - 1074 := rfl
  rw [hO]
  clear hzx hz hO hs
  generalize fex b = x at *
  generalize ffr b = y at *
  generalize fe b = F at *
  generalize fm b = M at *
  have hM9 : M < 9007199254740992 := by rw [hM]; split <;> omega
  have a1 : Below w.heap.size w ((w.alloc (.cells #[.bool false, .slice none 0 0, .int .i64 0] 28)).alloc (.cells #[.int .u64 (M : Int)] 30)) := ((Below.refl _ _).alloc (Nat.le_refl _) _).alloc (by simp) _
  have n1 := lim_new1 (w.alloc (.cells #[.bool false, .slice none 0 0, .int .i64 0] 28)) 30 M M rfl (by omega)
  rw [World.size_alloc] at n1
  have H1 := Lib.hid (rof_any s _ 1 1 [M] F _ n1 (by decide))
  have Hb := Lib.hid ((Bd.new w 28 false none 0 0 0).alloc (.cells #[.int .u64 (M : Int)] 30))
  have HS := Lib.hid a1
  generalize nO s (val [M]) F = d at H1 ⊢
  obtain ⟨dg, dV, dE⟩ := d
  clear hM9 a1 n1
  by_cases hx0 : x = 0
  · rw [if_pos hx0] at hM
    subst hM
    obtain rfl : F = -1074 := by omega
    have c1 : ((x : Int) == 0) = true := beq_yes (by omega)
    clear hx0 hF
    go_enter Tryd.func58, Tryd.ntmps58
    go_wp2_with fail
    refine H1.out.mono ?_
    rintro e w2 ⟨A2, m2, c2, es, rfl, hm2, hl2, hd2, hv2, hB2⟩
    have k2 := Hb.out.below hB2
    have Hfin : Hid (NTold w ⟨dg, dV, dE⟩ 4 (.returned (.agg #[.bool dg, .slice A2 m2 c2, .int .i64 dE])) (World.put w2 w.heap.size dg A2 m2 c2 dE)) :=
      ⟨A2, m2, c2, es, rfl, hm2, k2.dig hl2 _ _ _ _ _, hd2, hv2, below_put (HS.out.trans (hB2.mono HS.out.size)) (Nat.le_refl _) _ _ _ _ _⟩
    have y0 := k2.c0
    have y1 := k2.c1
    have y2 := k2.c2
    have yf := k2.fz
    clear k2 hB2 hl2 hd2 hv2 H1 Hb HS
    go_wp2
    exact bodyPost_ret (v := .agg #[.bool dg, .slice A2 m2 c2, .int .i64 dE]) (by simp [results, Tryd.results58, go_sem, y0, y1, y2]) rfl Hfin.out
  · rw [if_neg hx0] at hM
    have e3 : (y : Int) + 4503599627370496 = (M : Int) := by omega
    have e4 : (x : Int) - 1075 = F := by omega
    have c1 : ((x : Int) == 0) = false := beq_no (by omega)
    clear hx0 hF hM
    go_enter Tryd.func58, Tryd.ntmps58
    go_wp2_with fail
    refine H1.out.mono ?_
    rintro e w2 ⟨A2, m2, c2, es, rfl, hm2, hl2, hd2, hv2, hB2⟩
    have k2 := Hb.out.below hB2
    have Hfin : Hid (NTold w ⟨dg, dV, dE⟩ 4 (.returned (.agg #[.bool dg, .slice A2 m2 c2, .int .i64 dE])) (World.put w2 w.heap.size dg A2 m2 c2 dE)) :=
      ⟨A2, m2, c2, es, rfl, hm2, k2.dig hl2 _ _ _ _ _, hd2, hv2, below_put (HS.out.trans (hB2.mono HS.out.size)) (Nat.le_refl _) _ _ _ _ _⟩
    have y0 := k2.c0
    have y1 := k2.c1
    have y2 := k2.c2
    have yf := k2.fz
    clear k2 hB2 hl2 hd2 hv2 H1 Hb HS
    go_wp2
    exact bodyPost_ret (v := .agg #[.bool dg, .slice A2 m2 c2, .int .i64 dE]) (by simp [results, Tryd.results58, go_sem, y0, y1, y2]) rfl Hfin.out

theorem bool_no {g k : Bool} (h : ¬ g = k) : (g == k) = false := by cases g <;> cases k <;> simp_all

end Go.Proofs.YtjdlnfmeciodnaaDoor

/- Rounding, as plain mathematics: the size that bits are worth, which bits lie below a size, what a number is rounded to; by the program's way (rndO) and by sizes (rndS). -/
namespace Go.Proofs.YtjdlnfmeciodnaaDoor

/-- Where the least unit lies: a number that nothing reckons with. -/
noncomputable def kb : Nat := Classical.choose (⟨2147482574, rfl⟩ : ∃ k : Nat, k = 2147482574)
theorem kb_eq : kb = 2147482574 := Classical.choose_spec (⟨2147482574, rfl⟩ : ∃ k : Nat, k = 2147482574)
/-- The size of bits without a sign; infinity's is 2^1024. -/
noncomputable def vX (X : Nat) : Nat := fm X * 2 ^ (fE X + kb)

theorem vX_parts {L U X : Nat} (hX : X = L * 4503599627370496 + U) (hU : U ≤ 9007199254740992) (h2 : 0 < L → 4503599627370496 ≤ U) (hL : L ≤ 2045) : vX X = U * 2 ^ (L + kb) := by
  unfold vX
  rcases Nat.lt_or_ge U 4503599627370496 with h | h
  · have hL0 : L = 0 := by omega
    subst hL0
    have e1 : fex X = 0 := by unfold fex; omega
    have e2 : ffr X = U := by unfold ffr; omega
    rw [fm, if_pos e1, e2, fE, e1]
  · rcases Nat.lt_or_ge U 9007199254740992 with h' | h'
    · have e1 : fex X = L + 1 := by unfold fex; omega
      have e2 : ffr X = U - 4503599627370496 := by unfold ffr; omega
      rw [fm, if_neg (by omega), e2, fE, e1, Nat.add_sub_cancel, Nat.sub_add_cancel h]
    · have e0 : U = 9007199254740992 := by omega
      subst e0
      have e1 : fex X = L + 2 := by unfold fex; omega
      have e2 : ffr X = 0 := by unfold ffr; omega
      rw [fm, if_neg (by omega), e2, fE, e1, show L + 2 - 1 + kb = (L + kb) + 1 by omega, Nat.pow_succ]
      generalize 2 ^ (L + kb) = D
      omega
/-- The bits' own parts. -/
theorem x_parts {X : Nat} (h : X < 9218868437227405312) : X = fE X * 4503599627370496 + fm X ∧ fm X < 9007199254740992 ∧ (0 < fE X → 4503599627370496 ≤ fm X) ∧ fE X ≤ 2045 := by
  obtain ⟨p1, p2, p3, p4⟩ := f_parts X
  have hf : Fnt X := by unfold Fnt fex; omega
  exact ⟨by omega, p2, p3, p4 hf⟩
theorem vX_next {X : Nat} (h : X < 9218868437227405312) : vX (X + 1) = vX X + 2 ^ (fE X + kb) := by
  obtain ⟨p1, p2, p3, p4⟩ := x_parts h
  have h1 := vX_parts (L := fE X) (U := fm X + 1) (X := X + 1) (by omega) (by omega) (by omega) p4
  rw [h1, Nat.add_mul, Nat.one_mul]; rfl
theorem vX_lt {X : Nat} (h : X < 9218868437227405312) : vX X < vX (X + 1) := by
  rw [vX_next h]; exact Nat.lt_add_of_pos_right (Nat.two_pow_pos _)
theorem vX_mono {X d : Nat} (h : X + d ≤ 9218868437227405312) : vX X ≤ vX (X + d) := by
  induction d with
  | zero => exact Nat.le_refl _
  | succ d ih =>
    have h1 := ih (by omega)
    have h2 := vX_lt (X := X + d) (by omega)
    rw [← Nat.add_assoc]
    omega
theorem vX_le {X Y : Nat} (h : X ≤ Y) (hY : Y ≤ 9218868437227405312) : vX X ≤ vX Y := by
  have := vX_mono (X := X) (d := Y - X) (by omega)
  rwa [Nat.add_sub_cancel' h] at this

/-- The greatest bits that are worth at most S. -/
def IsLow (S X : Nat) : Prop := X ≤ 9218868437227405312 ∧ vX X ≤ S ∧ (X < 9218868437227405312 → S < vX (X + 1))
theorem IsLow.not_lt {S X Y : Nat} (hX : IsLow S X) (hY : IsLow S Y) : ¬ X < Y := by
  intro h
  have h1 := hX.2.2 (by have := hY.1; omega)
  have h2 := vX_le (X := X + 1) (Y := Y) h hY.1
  have h3 := hY.2.1
  omega
theorem IsLow.uniq {S X Y : Nat} (hX : IsLow S X) (hY : IsLow S Y) : X = Y := by
  have h1 := hX.not_lt hY
  have h2 := hY.not_lt hX
  omega
theorem IsLow.mono {S T X Y : Nat} (hX : IsLow S X) (hY : IsLow T Y) (h : S ≤ T) : X ≤ Y := by
  rcases Nat.lt_or_ge Y X with h' | h'
  · have h1 := hY.2.2 (by have := hX.1; omega)
    have h2 := vX_le (X := Y + 1) (Y := X) h' hX.1
    have h3 := hX.2.1
    omega
  · exact h'

/-- Does a size go up to the next unit? -/
def awy (g : Bool) (dir : Int) (odd half below : Bool) : Bool :=
  if dir = 0 then half && (below || odd) else if dir = 2 then !g && (half || below) else if dir = 3 then g && (half || below) else false
theorem awy_all {g : Bool} {dir : Int} {odd half below : Bool} (h : awy g dir odd half below = true) : awy g dir true true true = true := by
  unfold awy at *
  split
  · rfl
  · rename_i h0
    rw [if_neg h0] at h
    split
    · rename_i h1; rw [if_pos h1] at h; revert h; cases g <;> simp
    · rename_i h1
      rw [if_neg h1] at h
      split
      · rename_i h2; rw [if_pos h2] at h; revert h; cases g <;> simp
      · rename_i h2; rw [if_neg h2] at h; exact h
theorem awy_exact (g : Bool) (dir : Int) (odd : Bool) : awy g dir odd false false = false := by
  unfold awy
  cases g <;> simp

def sgn (g : Bool) (X : Nat) : Nat := (if g then 9223372036854775808 else 0) + X
def overM (g : Bool) (dir : Int) : Nat := if awy g dir true true true then 9218868437227405312 else 9218868437227405311
def overO (g : Bool) (dir : Int) : Nat × Nat := (sgn g (overM g dir), 5)
def upX (g : Bool) (dir : Int) (X : Nat) (half below : Bool) : Nat := X + (awy g dir (decide (X % 2 = 1)) half below).toNat
def fl (half below small : Bool) : Nat := if half || below then (if small then 3 else 1) else 0
/-- What comes of the bits below it. -/
def rfin (g : Bool) (dir : Int) (X : Nat) (half below small : Bool) : Nat × Nat :=
  if upX g dir X half below = 9218868437227405312 then overO g dir else (sgn g (upX g dir X half below), fl half below small)

def rtop (V : Nat) (e : Int) : Int := (blen V : Int) - 1 + e
def ru (V : Nat) (e : Int) : Int := max (rtop V e - 52) (-1074)
def rU (V : Nat) (e u : Int) : Nat := if u ≤ e then V * 2 ^ (e - u).toNat else V / 2 ^ (u - e - 1).toNat / 2
def rH (V : Nat) (e u : Int) : Bool := if u ≤ e then false else decide (V / 2 ^ (u - e - 1).toNat % 2 = 1)
def rB (V : Nat) (e u : Int) : Bool := if u ≤ e then false else decide (V % 2 ^ (u - e - 1).toNat ≠ 0)
def rX (V : Nat) (e : Int) : Nat := (ru V e + 1074).toNat * 4503599627370496 + rU V e (ru V e)
def lowX (V : Nat) (e : Int) : Nat := if 1023 < rtop V e then 9218868437227405312 else rX V e
/-- By the program's way: of a number that isn't 0. -/
def rndO (g : Bool) (V : Nat) (e : Int) (more : Bool) (dir : Int) : Nat × Nat :=
  if 1023 < rtop V e then overO g dir else
  rfin g dir (rX V e) (rH V e (ru V e)) (rB V e (ru V e) || more) (decide (rtop V e < -1022))
/-- By sizes. -/
noncomputable def hS (S X : Nat) : Bool := decide (vX X + vX (X + 1) ≤ 2 * S)
noncomputable def bS (S X : Nat) : Bool := decide (S ≠ vX X ∧ 2 * S ≠ vX X + vX (X + 1))
noncomputable def rndS (g : Bool) (S : Nat) (more : Bool) (dir : Int) (X : Nat) : Nat × Nat :=
  if X = 9218868437227405312 then overO g dir else rfin g dir X (hS S X) (bS S X || more) (decide (S < vX 4503599627370496))

theorem cut_facts {P Q U h b V : Nat} (hP : 0 < P) (hh : h < 2) (hb : b < Q) (hV : V = (2 * U + h) * Q + b) :
    U * (2 * Q * P) ≤ V * P ∧ V * P < (U + 1) * (2 * Q * P) ∧ (U * (2 * Q * P) + (U + 1) * (2 * Q * P) ≤ 2 * (V * P) ↔ h = 1) ∧
    (V * P = U * (2 * Q * P) ↔ h = 0 ∧ b = 0) ∧ (2 * (V * P) = U * (2 * Q * P) + (U + 1) * (2 * Q * P) ↔ h = 1 ∧ b = 0) := by
  have e1 : U * (2 * Q * P) = (U * Q * 2) * P := by rw [← Nat.mul_assoc, ← Nat.mul_assoc, Nat.mul_right_comm U 2 Q]
  have e2 : (U + 1) * (2 * Q * P) = (U * Q * 2 + 2 * Q) * P := by rw [Nat.add_mul, e1, Nat.one_mul, ← Nat.add_mul]
  have e3 : V = U * Q * 2 + h * Q + b := by rw [hV, Nat.add_mul, Nat.mul_comm 2 U, Nat.mul_right_comm U 2 Q]
  have e4 : 2 * (V * P) = (2 * V) * P := (Nat.mul_assoc _ _ _).symm
  rw [e1, e2, e4, ← Nat.add_mul]
  have c1 : ∀ x y : Nat, x * P ≤ y * P ↔ x ≤ y := fun x y => Nat.mul_le_mul_right_iff hP
  have c2 : ∀ x y : Nat, x * P < y * P ↔ x < y := fun x y => Nat.mul_lt_mul_right hP
  have c3 : ∀ x y : Nat, x * P = y * P ↔ x = y := fun x y => ⟨fun h => Nat.eq_of_mul_eq_mul_right hP h, fun h => by rw [h]⟩
  rw [c1, c2, c1, c3, c3]
  generalize U * Q = A at *
  have hh' : h = 0 ∨ h = 1 := by omega
  rcases hh' with rfl | rfl
  · rw [Nat.zero_mul] at e3
    omega
  · rw [Nat.one_mul] at e3
    omega

theorem sh_eq {e : Int} (h1 : -1073741824 ≤ e) (h2 : e ≤ 1073741824) : (sh e : Int) = e + 2147483648 := by rw [sh_held, held_id h1 h2]

/-- The program's way is that of sizes. -/
theorem rnd_low {V : Nat} {e : Int} (hV : V ≠ 0) (h1 : -1073741824 ≤ e) (h2 : e ≤ 1073741824) (ht : rtop V e ≤ 1023) :
    rX V e < 9218868437227405312 ∧ vX (rX V e) ≤ sz V e ∧ sz V e < vX (rX V e + 1) ∧ rH V e (ru V e) = hS (sz V e) (rX V e) ∧ rB V e (ru V e) = bS (sz V e) (rX V e) := by
  have hB := blen_pos hV
  have hlt := lt_blen V
  have hge := blen_le hV
  obtain ⟨u, hu⟩ : ∃ u, ru V e = u := ⟨_, rfl⟩
  obtain ⟨t, htt⟩ : ∃ t, rtop V e = t := ⟨_, rfl⟩
  have hu2 := hu
  unfold ru at hu2
  rw [htt] at hu2 ht
  unfold rtop at htt
  obtain ⟨L, hL⟩ : ∃ L : Nat, (u + 1074).toNat = L := ⟨_, rfl⟩
  have hL1 : u = (L : Int) - 1074 := by omega
  have hL2 : L ≤ 2045 := by omega
  have hsh := sh_eq h1 h2
  have hkb := kb_eq
  unfold rX
  rw [hu, hL]
  unfold sz
  by_cases hue : u ≤ e
  · obtain ⟨k, hk⟩ : ∃ k, (e - u).toNat = k := ⟨_, rfl⟩
    have hU : rU V e u = V * 2 ^ k := by rw [rU, if_pos hue, hk]
    have hbl := blen_shl (n := k) hV
    have hUle : V * 2 ^ k < 9007199254740992 := (blen_le_iff (k := 53)).1 (by rw [hbl]; omega)
    have hUge : 0 < L → 4503599627370496 ≤ V * 2 ^ k := fun h => by
      have h5 : blen (V * 2 ^ k) = 53 := by rw [hbl]; omega
      have h6 := blen_le (x := V * 2 ^ k) (fun h0 => by rw [h0] at h5; cases h5)
      rw [h5] at h6
      exact h6
    have hS : V * 2 ^ sh e = V * 2 ^ k * 2 ^ (L + kb) := by rw [Nat.mul_assoc, ← Nat.pow_add]; congr 2; omega
    rw [hU, hS]
    have v1 := vX_parts (L := L) (U := V * 2 ^ k) rfl (by omega) hUge hL2
    have v2 := vX_parts (L := L) (U := V * 2 ^ k + 1) (X := L * 4503599627370496 + V * 2 ^ k + 1) (by omega) (by omega) (fun h => by have := hUge h; omega) hL2
    have hp := Nat.two_pow_pos (L + kb)
    rw [hS] at *
    unfold Go.Proofs.YtjdlnfmeciodnaaDoor.hS Go.Proofs.YtjdlnfmeciodnaaDoor.bS
    rw [v1, v2, rH, if_pos hue, rB, if_pos hue]
    generalize V * 2 ^ k = U at *
    generalize 2 ^ (L + kb) = D at *
    rw [Nat.add_mul, Nat.one_mul]
    generalize U * D = Z at *
    exact ⟨by omega, Nat.le_refl _, by omega, (decide_eq_false (by omega)).symm, (decide_eq_false (by omega)).symm⟩
  · obtain ⟨k, hk⟩ : ∃ k, (u - e - 1).toNat = k := ⟨_, rfl⟩
    have hU : rU V e u = V / 2 ^ k / 2 := by rw [rU, if_neg hue, hk]
    have hdiv : V / 2 ^ k / 2 = V / 2 ^ (k + 1) := by rw [Nat.div_div_eq_div_mul, Nat.pow_succ]
    have hUle : V / 2 ^ (k + 1) < 9007199254740992 := by
      rw [Nat.div_lt_iff_lt_mul (Nat.two_pow_pos _), show (9007199254740992 : Nat) = 2 ^ 53 from by decide, ← Nat.pow_add]
      exact blen_le_iff.1 (by omega)
    have hUge : 0 < L → 4503599627370496 ≤ V / 2 ^ (k + 1) := fun h => by
      rw [Nat.le_div_iff_mul_le (Nat.two_pow_pos _), show (4503599627370496 : Nat) = 2 ^ 52 from by decide, ← Nat.pow_add, show 52 + (k + 1) = blen V - 1 by omega]
      exact hge
    rw [← hdiv] at hUle hUge
    have hD : 2 ^ (L + kb) = 2 * 2 ^ k * 2 ^ sh e := by
      rw [show L + kb = (k + 1) + sh e by omega, Nat.pow_add, Nat.pow_succ, Nat.mul_comm (2 ^ k) 2]
    rw [hU]
    have v1 := vX_parts (L := L) (U := V / 2 ^ k / 2) rfl (by omega) hUge hL2
    have v2 := vX_parts (L := L) (U := V / 2 ^ k / 2 + 1) (X := L * 4503599627370496 + V / 2 ^ k / 2 + 1) (by omega) (by omega) (fun h => by have := hUge h; omega) hL2
    have hb := Nat.mod_lt V (Nat.two_pow_pos k)
    have hVV : V = (2 * (V / 2 ^ k / 2) + V / 2 ^ k % 2) * 2 ^ k + V % 2 ^ k := by
      rw [Nat.div_add_mod]
      have := Nat.div_add_mod V (2 ^ k)
      rw [Nat.mul_comm] at this
      exact this.symm
    obtain ⟨f1, f2, f3, f4, f5⟩ := cut_facts (P := 2 ^ sh e) (Q := 2 ^ k) (U := V / 2 ^ k / 2) (h := V / 2 ^ k % 2) (b := V % 2 ^ k) (V := V) (Nat.two_pow_pos _) (Nat.mod_lt _ (by decide)) hb hVV
    rw [← hD] at f1 f2 f3 f4 f5
    unfold Go.Proofs.YtjdlnfmeciodnaaDoor.hS Go.Proofs.YtjdlnfmeciodnaaDoor.bS
    rw [v1, v2, rH, if_neg hue, rB, if_neg hue, hk]
    refine ⟨by omega, f1, f2, ?_, ?_⟩
    · rw [decide_eq_decide]; exact f3.symm
    · rw [decide_eq_decide]
      constructor
      · intro h
        exact ⟨fun h' => h (f4.1 h').2, fun h' => h (f5.1 h').2⟩
      · rintro ⟨ha, hb'⟩ h0
        have h3 := Nat.mod_lt (V / 2 ^ k) (show 0 < 2 by decide)
        have h4 : V / 2 ^ k % 2 = 0 ∨ V / 2 ^ k % 2 = 1 := by omega
        rcases h4 with h4 | h4
        · exact ha (f4.2 ⟨h4, h0⟩)
        · exact hb' (f5.2 ⟨h4, h0⟩)

theorem vX_norm : vX 4503599627370496 = 2 ^ (52 + kb) := by
  have := vX_parts (L := 0) (U := 4503599627370496) (X := 4503599627370496) (by omega) (by omega) (by omega) (by omega)
  rw [this, Nat.zero_add, Nat.pow_add]
theorem vX_inf : vX 9218868437227405312 = 2 ^ (2098 + kb) := by
  have := vX_parts (L := 2045) (U := 9007199254740992) (X := 9218868437227405312) (by omega) (by omega) (by omega) (by omega)
  rw [this, show 2098 + kb = 53 + (2045 + kb) by omega, Nat.pow_add _ 53]
theorem blen_szR {V : Nat} {e : Int} (hV : V ≠ 0) (h1 : -1073741824 ≤ e) (h2 : e ≤ 1073741824) : (blen (sz V e) : Int) = rtop V e + 1 + 2147483648 := by
  rw [blen_sz e hV, topD, held_id h1 h2]; rfl
theorem small_iff {V : Nat} {e : Int} (hV : V ≠ 0) (h1 : -1073741824 ≤ e) (h2 : e ≤ 1073741824) : rtop V e < -1022 ↔ sz V e < vX 4503599627370496 := by
  rw [vX_norm, ← blen_le_iff]
  have := blen_szR hV h1 h2
  have := kb_eq
  omega
theorem great_iff {V : Nat} {e : Int} (hV : V ≠ 0) (h1 : -1073741824 ≤ e) (h2 : e ≤ 1073741824) : 1023 < rtop V e ↔ vX 9218868437227405312 ≤ sz V e := by
  rw [vX_inf, ← Nat.not_lt, ← blen_le_iff]
  have := blen_szR hV h1 h2
  have := kb_eq
  omega

theorem low_is {V : Nat} {e : Int} (hV : V ≠ 0) (h1 : -1073741824 ≤ e) (h2 : e ≤ 1073741824) : IsLow (sz V e) (lowX V e) := by
  unfold lowX
  by_cases ht : 1023 < rtop V e
  · rw [if_pos ht]
    exact ⟨Nat.le_refl _, (great_iff hV h1 h2).1 ht, fun h => absurd h (by omega)⟩
  · rw [if_neg ht]
    obtain ⟨a, b, c, _, _⟩ := rnd_low hV h1 h2 (by omega)
    exact ⟨by omega, b, fun _ => c⟩
theorem rndO_S {V : Nat} {e : Int} (g more : Bool) (dir : Int) {X : Nat} (hV : V ≠ 0) (h1 : -1073741824 ≤ e) (h2 : e ≤ 1073741824) (hX : IsLow (sz V e) X) : rndO g V e more dir = rndS g (sz V e) more dir X := by
  obtain rfl := hX.uniq (low_is hV h1 h2)
  unfold rndO rndS lowX
  by_cases ht : 1023 < rtop V e
  · rw [if_pos ht, if_pos ht, if_pos rfl]
  · obtain ⟨a, b, c, d, f⟩ := rnd_low hV h1 h2 (by omega)
    rw [if_neg ht, if_neg ht, if_neg (by omega), d, f]
    congr 1
    rw [decide_eq_decide]
    exact small_iff hV h1 h2

end Go.Proofs.YtjdlnfmeciodnaaDoor

/- The walks of round.known, away, signed, raised, Over, Under, up, cut, count. -/
namespace Go.Proofs.YtjdlnfmeciodnaaDoor
open Go.RowKit

theorem known_l (v : Bool) (dir : Int) (w : World) (hv : Hid (decide (0 ≤ dir ∧ dir ≤ 3) = v)) :
    Calls Tryd.prog 49 #[.int .i64 dir] w fun e w' => e = .returned (.bool v) ∧ w = w' := by
  have hv' := hv.out
  clear hv
  by_cases h : 0 ≤ dir ∧ dir ≤ 3
  · obtain rfl : v = true := by rw [← hv']; exact decide_eq_true h
    have h4 : dir = 0 ∨ dir = 1 ∨ dir = 2 ∨ dir = 3 := by omega
    clear hv' h
    rcases h4 with rfl | rfl | rfl | rfl
    all_goals (
      go_enter Tryd.func49, Tryd.ntmps49
      go_wp2
      go_ret
      exact ⟨rfl, rfl⟩)
  · obtain rfl : v = false := by rw [← hv']; exact decide_eq_false h
    have c0 : (dir == 0) = false := beq_no (by omega)
    have c1 : (dir == 1) = false := beq_no (by omega)
    have c2 : (dir == 2) = false := beq_no (by omega)
    have c3 : (dir == 3) = false := beq_no (by omega)
    clear hv' h
    go_enter Tryd.func49, Tryd.ntmps49
    go_wp2
    go_ret
    exact ⟨rfl, rfl⟩

theorem away_l (v : Bool) (g : Bool) (dir : Int) (odd half below : Bool) (w : World) (hv : Hid (awy g dir odd half below = v)) :
    Calls Tryd.prog 38 #[.bool g, .int .i64 dir, .bool odd, .bool half, .bool below] w fun e w' => e = .returned (.bool v) ∧ w = w' := by
  have hv' := hv.out
  clear hv
  unfold awy at hv'
  by_cases h0 : dir = 0
  · subst h0
    rw [if_pos rfl] at hv'
    cases half <;> cases below <;> cases odd <;> subst hv' <;> (
      go_enter Tryd.func38, Tryd.ntmps38
      go_wp2
      go_ret
      exact ⟨rfl, rfl⟩)
  · rw [if_neg h0] at hv'
    have c0 : (dir == 0) = false := beq_no h0
    by_cases h2 : dir = 2
    · subst h2
      rw [if_pos rfl] at hv'
      cases g <;> cases half <;> cases below <;> subst hv' <;> (
        go_enter Tryd.func38, Tryd.ntmps38
        go_wp2
        go_ret
        exact ⟨rfl, rfl⟩)
    · rw [if_neg h2] at hv'
      have c2 : (dir == 2) = false := beq_no h2
      by_cases h3 : dir = 3
      · subst h3
        rw [if_pos rfl] at hv'
        cases g <;> cases half <;> cases below <;> subst hv' <;> (
          go_enter Tryd.func38, Tryd.ntmps38
          go_wp2
          go_ret
          exact ⟨rfl, rfl⟩)
      · rw [if_neg h3] at hv'
        subst hv'
        have c3 : (dir == 3) = false := beq_no h3
        clear h0 h2 h3
        go_enter Tryd.func38, Tryd.ntmps38
        go_wp2
        go_ret
        exact ⟨rfl, rfl⟩

theorem or_sign' (X : Nat) (hX : X < 9223372036854775808) : bits BinOp.or IntKind.u64 (X : Int) 9223372036854775808 = ((9223372036854775808 + X : Nat) : Int) := by
  have h := bits_or_u64_nat X 9223372036854775808 (by omega) (by decide)
  have h2 : X ||| 9223372036854775808 = 9223372036854775808 + X := by
    rw [Nat.or_comm]; exact (Nat.shiftLeft_add_eq_or_of_lt (i := 63) (b := X) (show X < 2 ^ 63 from hX) 1).symm
  rw [h2] at h
  exact h
theorem signed_l (Y : Nat) (g : Bool) (X : Nat) (hX : X < 9223372036854775808) (w : World) (hY : Hid (sgn g X = Y)) :
    Calls Tryd.prog 39 #[.bool g, .int .u64 (X : Int)] w fun e w' => e = .returned (.int .u64 (Y : Int)) ∧ w = w' := by
  have h := hY.out
  cases g with
  | false =>
    obtain rfl : X = Y := by rw [← h]; exact (Nat.zero_add _).symm
    clear h hY
    go_enter Tryd.func39, Tryd.ntmps39
    go_wp2
    go_ret
    exact ⟨rfl, rfl⟩
  | true =>
    have hor := or_sign' X hX
    rw [show 9223372036854775808 + X = Y from h] at hor
    clear h hY
    go_enter Tryd.func39, Tryd.ntmps39
    go_wp2
    go_ret
    exact ⟨rfl, rfl⟩

theorem raised_l (F : Nat) (inx : Bool) (top : Int) (w : World) (hF : Hid (fl inx false (decide (top < -1022)) = F)) :
    Calls Tryd.prog 53 #[.bool inx, .int .i64 top] w fun e w' => e = .returned (.int .u8 (F : Int)) ∧ w = w' := by
  have h := hF.out
  clear hF
  unfold fl at h
  cases inx with
  | false =>
    subst h
    go_enter Tryd.func53, Tryd.ntmps53
    go_wp2
    go_ret
    exact ⟨rfl, rfl⟩
  | true =>
    by_cases ht : top < -1022
    · have b : decide (top < -1022) = true := decide_eq_true ht
      rw [b] at h
      subst h
      clear ht
      go_enter Tryd.func53, Tryd.ntmps53
      go_wp2
      go_ret
      exact ⟨rfl, rfl⟩
    · have b : decide (top < -1022) = false := decide_eq_false ht
      rw [b] at h
      subst h
      clear ht
      go_enter Tryd.func53, Tryd.ntmps53
      go_wp2
      go_ret
      exact ⟨rfl, rfl⟩

theorem over_l (X : Nat) (g : Bool) (dir : Int) (w : World) (hX : Hid ((overO g dir).1 = X)) :
    Calls Tryd.prog 15 #[.bool g, .int .i64 dir] w fun e w' => e = .returned (.tuple #[.int .u64 (X : Int), .int .u8 5]) ∧ w = w' := by
  have h : sgn g (overM g dir) = X := hX.out
  unfold overM at h
  obtain ⟨v, hv⟩ : ∃ v, awy g dir true true true = v := ⟨_, rfl⟩
  rw [hv] at h
  have Hv := Lib.hid hv
  clear hv hX
  cases v with
  | true =>
    have H : Hid (sgn g 9218868437227405312 = X) := h
    clear h
    go_enter Tryd.func15, Tryd.ntmps15
    go_wp2_with fail
    refine (away_l true g dir true true true w Hv).mono ?_
    rintro e w' ⟨rfl, rfl⟩
    go_wp2_with fail
    refine (signed_l X g 9218868437227405312 (by decide) w H).mono ?_
    rintro e w' ⟨rfl, rfl⟩
    go_wp2
    go_ret2
    exact ⟨rfl, rfl⟩
  | false =>
    have H : Hid (sgn g 9218868437227405311 = X) := h
    clear h
    go_enter Tryd.func15, Tryd.ntmps15
    go_wp2_with fail
    refine (away_l false g dir true true true w Hv).mono ?_
    rintro e w' ⟨rfl, rfl⟩
    go_wp2_with fail
    refine (signed_l X g 9218868437227405311 (by decide) w H).mono ?_
    rintro e w' ⟨rfl, rfl⟩
    go_wp2
    go_ret2
    exact ⟨rfl, rfl⟩
theorem under_l (X : Nat) (g : Bool) (dir : Int) (w : World) (hX : Hid (sgn g (awy g dir false false true).toNat = X)) :
    Calls Tryd.prog 16 #[.bool g, .int .i64 dir] w fun e w' => e = .returned (.tuple #[.int .u64 (X : Int), .int .u8 3]) ∧ w = w' := by
  have h := hX.out
  obtain ⟨v, hv⟩ : ∃ v, awy g dir false false true = v := ⟨_, rfl⟩
  rw [hv] at h
  have Hv := Lib.hid hv
  clear hv hX
  cases v with
  | true =>
    have H : Hid (sgn g 1 = X) := h
    clear h
    go_enter Tryd.func16, Tryd.ntmps16
    go_wp2_with fail
    refine (away_l true g dir false false true w Hv).mono ?_
    rintro e w' ⟨rfl, rfl⟩
    go_wp2_with fail
    refine (signed_l X g 1 (by decide) w H).mono ?_
    rintro e w' ⟨rfl, rfl⟩
    go_wp2
    go_ret2
    exact ⟨rfl, rfl⟩
  | false =>
    have H : Hid (sgn g 0 = X) := h
    clear h
    go_enter Tryd.func16, Tryd.ntmps16
    go_wp2_with fail
    refine (away_l false g dir false false true w Hv).mono ?_
    rintro e w' ⟨rfl, rfl⟩
    go_wp2_with fail
    refine (signed_l X g 0 (by decide) w H).mono ?_
    rintro e w' ⟨rfl, rfl⟩
    go_wp2
    go_ret2
    exact ⟨rfl, rfl⟩

/-- Noughts made, and limbs behind them. -/
theorem app_zeros64 (w : World) (A : Option Addr) (n c q : Nat) (ds : List Nat) (hA : Row .u64 w A n c ds) (hn : n ≤ 4294967296) (hq : q ≤ 1000000) :
    ∃ A' c' w', (Builtin.append_ #[22, 22] 22 #[.slice (some ⟨w.heap.size, 0, none⟩) q q, .slice A n c]).run Tryd.prog (w.alloc (.cells (madeCells #[.int .u64 0] q) 30)) = .ok (.slice A' (q + n) c') w' ∧
      Row .u64 w' A' (q + n) c' (List.replicate q 0 ++ ds) ∧ Below w.heap.size w w' := by
  have hb : Below w.heap.size w (w.alloc (.cells (madeCells #[.int .u64 0] q) 30)) := (Below.refl _ _).alloc (Nat.le_refl _) _
  have hown : Own .u64 30 (w.alloc (.cells (madeCells #[.int .u64 0] q) 30)) w.heap.size (.slice (some ⟨w.heap.size, 0, none⟩) q q) (List.replicate q 0) := by
    refine ⟨by simp, Or.inr ⟨w.heap.size, q, madeCells #[.int .u64 0] q, by simp, Nat.le_refl _, heap_alloc_new w _, by simp, by unfold maxLen; omega, by rw [size_madeCells]; omega, ?_⟩⟩
    have hr := World.rowIs_made w (.int .u64 0) q 30
    apply List.ext_getElem?
    intro k
    by_cases hk : k < q
    · have hc := hr.cell hk
      rw [cell_of_row _ w.heap.size k (madeCells #[.int .u64 0] q) 30 (0, 0) (heap_alloc_new w _)] at hc
      rw [List.getElem?_take_of_lt (by simpa using hk), Array.getElem?_toList, hc, List.getElem?_map, List.getElem?_replicate, if_pos hk]
      rfl
    · rw [List.getElem?_eq_none (by rw [List.length_take, List.length_replicate]; omega), List.getElem?_eq_none (by simp; omega)]
  obtain ⟨v', w', hrun, ho, hb'⟩ := run_app (P := Tryd.prog) (T := 22) (ty := 22) Tryd.underlying22 info64 hown (hA.below hb) hb.size (by simp; omega) (by simp; omega)
  obtain ⟨A1, c1, rfl, hr⟩ := ho.row
  have el : (List.replicate q 0 ++ ds).length = q + n := by rw [List.length_append, List.length_replicate, hA.len]
  rw [el] at hrun hr
  exact ⟨A1, c1, w', hrun, hr, hb.trans hb'⟩

set_option maxRecDepth 20000 in
/-- up, by fewer bits than a limb has. -/
theorem up_l (A : Option Addr) (n c : Nat) (xs : List Nat) (N : Nat) (w : World) (hA : Lim w A n c xs) (hn : n ≤ 4294967296) (hT : Tab w) (hN : N < 64) :
    Calls Tryd.prog 82 #[.slice A n c, .int .i64 (N : Int)] w (Tells w (val xs * 2 ^ N) (n + 1)) := by
  obtain ⟨A1, c1, w1, hrun, hr, hb1⟩ := app_zeros64 w A n c 1 xs hA.toRow hn (by decide)
  rw [show List.replicate 1 0 ++ xs = 0 :: xs from rfl, Nat.add_comm 1 n] at hr
  rw [Nat.add_comm 1 n] at hrun
  have hl1 : Lim w1 A1 (n + 1) c1 (0 :: xs) := hr.toLim (Words.cons (by decide) hA.words)
  obtain ⟨M, hM⟩ : ∃ M, 64 - N = M := ⟨_, rfl⟩
  obtain ⟨bb, hbb⟩ : ∃ bb, decide (val (0 :: xs) % 2 ^ M ≠ 0) = bb := ⟨_, rfl⟩
  have H1 := shr_l M A1 (n + 1) c1 (0 :: xs) w1 hl1 (by omega) (hT.below hb1) (by omega) bb hbb
  have hV : val (0 :: xs) / 2 ^ M = val xs * 2 ^ N := by
    rw [val, Nat.zero_add, show (18446744073709551616 : Nat) = 2 ^ 64 from by decide, show 64 = M + N by omega, Nat.pow_add, Nat.mul_assoc, Nat.mul_div_cancel_left _ (Nat.two_pow_pos _), Nat.mul_comm]
  rw [hV] at H1
  have H1 := Lib.hid H1
  have HB1 := Lib.hid hb1
  have Hrun := Lib.hid hrun
  have hmk := run_make_row' (P := Tryd.prog) 22 30 (.int .u64 0) 8 Tryd.underlying22 info64 rfl .i64 .i64 1 (by omega) (by omega)
  rw [show ((1 : Nat) : Int) = 1 from rfl] at hmk
  have e1 : (N : Int) / 64 = 0 := by omega
  have e2 : (64 : Int) - (N : Int) = (M : Int) := by omega
  clear hA hrun hr hl1 hb1 hV hbb hT hM
  go_enter Tryd.func82, Tryd.ntmps82
  go_wp2_with (at_builtin; refine wpList_app (s := .tmp 13) (x := .tmp 14) (by rfl) rfl rfl rfl Hrun.out ?_)
  refine H1.out.mono ?_
  rintro e w2 ⟨A2, m2, c2, zs, rfl, hm2, hl2, hb2, hv2, hB2⟩
  have Hfin : Hid (Tells w (val xs * 2 ^ N) (n + 1) (.returned (.slice A2 m2 c2)) w2) := ⟨A2, m2, c2, zs, rfl, hm2, hl2, hb2, hv2, HB1.out.trans (hB2.mono HB1.out.size)⟩
  clear hl2 hb2 hv2 hB2 H1 HB1 hmk Hrun
  go_wp2
  go_ret
  exact Hfin.out
end Go.Proofs.YtjdlnfmeciodnaaDoor

/- The walks of round.cut, count, laid. -/
namespace Go.Proofs.YtjdlnfmeciodnaaDoor
open Go.RowKit

theorem quiet_one {P : Program} {f : FuncId} {args : Array Value} {w : World} {n : Nat} {v : Value}
    (h : Calls P f args (w.drewN n) fun e w' => e = .returned v ∧ w.drewN n = w') : Calls P f args (w.drewN n) fun e w'' => e = .returned v ∧ ∃ m, w'' = w.drewN m :=
  h.mono fun _ _ ⟨he, hm⟩ => ⟨he, n, hm.symm⟩
/-- A number and two values. -/
def TellsC (w : World) (V L : Nat) (p q : Bool) (e : Ending) (w' : World) : Prop :=
  ∃ A m c zs, e = .returned (.tuple #[.slice A m c, .bool p, .bool q]) ∧ m ≤ L ∧ Lim w' A m c zs ∧ Bare zs ∧ val zs = V ∧ Below w.heap.size w w'

theorem rcut_l (U : Nat) (H B : Bool) (g : Bool) (A : Option Addr) (n c : Nat) (xs : List Nat) (e0 u : Int) (w : World) (hA : Lim w A n c xs) (hn : n ≤ 4294967295) (hT : Tab w)
    (h1 : -2147483648 ≤ e0) (h2 : e0 ≤ 2147483648) (h3 : -2147483648 ≤ u) (h4 : u ≤ 2147483648) (h5 : e0 ≤ u + 63) (hU : Hid (rU (val xs) e0 u = U)) (hH : Hid (rH (val xs) e0 u = H)) (hB : Hid (rB (val xs) e0 u = B)) :
    Calls Tryd.prog 71 #[.agg #[.bool g, .slice A n c, .int .i64 e0], .int .i64 u] w (TellsC w U (n + 1) H B) := by
  have a3 := below1 w (.cells #[.bool g, .slice A n c, .int .i64 e0] 35)
  have HS := Lib.hid a3
  have hUo := hU.out
  have hHo := hH.out
  have hBo := hB.out
  unfold rU at hUo
  unfold rH at hHo
  unfold rB at hBo
  clear hU hH hB
  by_cases hue : u ≤ e0
  · rw [if_pos hue] at hUo hHo hBo
    subst hHo hBo
    obtain ⟨N, hN⟩ : ∃ N : Nat, (e0 - u).toNat = N := ⟨_, rfl⟩
    rw [hN] at hUo
    have eN : e0 - u = (N : Int) := by omega
    have H1 := up_l A n c xs N _ (hA.below a3) (by omega) (hT.below a3) (by omega)
    rw [hUo] at H1
    have H1 := Lib.hid H1
    have b1 : decide (u ≤ e0) = true := decide_eq_true hue
    clear hA hT a3 hUo hue hN h5
    go_enter Tryd.func71, Tryd.ntmps71
    go_wp2_with fail
    refine H1.out.mono ?_
    rintro e w2 ⟨A2, m2, c2, zs, rfl, hm2, hl2, hb2, hv2, hB2⟩
    have Hfin : Hid (TellsC w U (n + 1) false false (.returned (.tuple #[.slice A2 m2 c2, .bool false, .bool false])) w2) := ⟨A2, m2, c2, zs, rfl, hm2, hl2, hb2, hv2, HS.out.trans (hB2.mono HS.out.size)⟩
    clear hl2 hb2 hv2 hB2 H1 HS
    go_wp2
    go_ret3
    exact Hfin.out
  · rw [if_neg hue] at hUo hHo hBo
    obtain ⟨N, hN⟩ : ∃ N : Nat, (u - e0 - 1).toNat = N := ⟨_, rfl⟩
    rw [hN] at hUo hHo hBo
    have eN : u - e0 - 1 = (N : Int) := by omega
    have H1 := Lib.hid (shr_l N A n c xs _ (hA.below a3) (by omega) (hT.below a3) (by omega) B hBo)
    have HT := Lib.hid (hT.below a3)
    have b1 : decide (u ≤ e0) = false := decide_eq_false hue
    generalize val xs / 2 ^ N = Q at hUo hHo H1
    have HU := Lib.hid hUo
    have HH := Lib.hid hHo
    clear hA hT a3 hBo hUo hHo hue hN h5
    go_enter Tryd.func71, Tryd.ntmps71
    go_wp2_with fail
    refine H1.out.mono ?_
    rintro e w2 ⟨A2, m2, c2, zs, rfl, hm2, hl2, hb2, hv2, hB2⟩
    obtain ⟨bb, hbb⟩ : ∃ bb, decide (val zs % 2 ^ 1 ≠ 0) = bb := ⟨_, rfl⟩
    have H2 := shr_l 1 A2 m2 c2 zs w2 hl2 (by omega) (HT.out.below hB2) (by omega) bb hbb
    rw [hv2, Nat.pow_one, HU.out] at H2
    rw [show ((1 : Nat) : Int) = 1 from rfl] at H2
    have H2 := Lib.hid H2
    have HL2 := Lib.hid hl2
    have HS2 := Lib.hid (HS.out.trans (hB2.mono HS.out.size))
    have HHz : Hid (decide (val zs % 2 = 1) = H) := by rw [hv2]; exact HH.out
    clear hl2 hb2 hv2 hB2 H1 HS hbb HT HU HH
    go_wp2_with fail
    refine H2.out.mono ?_
    rintro e w3 ⟨A3, m3, c3, ys, rfl, hm3, hl3, hb3, hv3, hB3⟩
    have H3 := odd_any A2 m2 c2 zs w3 (HL2.out.below hB3) (by omega)
    rw [HHz.out] at H3
    have H3 := Lib.hid H3
    have Hfin : Hid (TellsC w U (n + 1) H B (.returned (.tuple #[.slice A3 m3 c3, .bool H, .bool B])) w3) := ⟨A3, m3, c3, ys, rfl, by omega, hl3, hb3, hv3, HS2.out.trans (hB3.mono HS2.out.size)⟩
    clear hl3 hb3 hv3 hB3 H2 HS2 HHz
    go_wp2_with fail
    refine H3.out.mono ?_
    rintro e w' ⟨rfl, rfl⟩
    go_wp2
    go_ret3
    exact Hfin.out

theorem count_l (v H B more : Bool) (U V2 : Nat) (g : Bool) (A : Option Addr) (n c : Nat) (xs : List Nat) (e0 u dir : Int) (w : World) (hA : Lim w A n c xs) (hn : n ≤ 4294967295) (hT : Tab w)
    (h1 : -2147483648 ≤ e0) (h2 : e0 ≤ 2147483648) (h3 : -2147483648 ≤ u) (h4 : u ≤ 2147483648) (h5 : e0 ≤ u + 63) (hU : Hid (rU (val xs) e0 u = U)) (hH : Hid (rH (val xs) e0 u = H)) (hB : Hid (rB (val xs) e0 u = B))
    (hv : Hid (awy g dir (decide (U % 2 = 1)) H (B || more) = v)) (hV2 : Hid (U + v.toNat = V2)) :
    Calls Tryd.prog 51 #[.agg #[.bool g, .slice A n c, .int .i64 e0], .bool more, .int .i64 dir, .int .i64 u] w (Tells2 w V2 (n + 3) (.bool (H || (B || more)))) := by
  have a3 := below1 w (.cells #[.bool g, .slice A n c, .int .i64 e0] 35)
  have HS := Lib.hid a3
  have H1 := Lib.hid (rcut_l U H B g A n c xs e0 u _ (hA.below a3) hn (hT.below a3) h1 h2 h3 h4 h5 hU hH hB)
  have Hbd := Lib.hid (Bd.new w 35 g A n c e0)
  clear hA hT a3 h1 h2 h3 h4 h5 hU hH hB
  obtain ⟨b, hb⟩ : ∃ b, (B || more) = b := ⟨_, rfl⟩
  rw [hb] at hv ⊢
  have hbm : (B = true ∧ b = true) ∨ (B = false ∧ more = b) := by cases B <;> simp_all
  clear hb
  obtain ⟨od, hod⟩ : ∃ od, decide (U % 2 = 1) = od := ⟨_, rfl⟩
  rw [hod] at hv
  have Hod := Lib.hid hod
  clear hod
  have key : ∀ (B2 : Bool), (B2 = B) → (B2 = true ∧ b = true) ∨ (B2 = false ∧ more = b) → Calls Tryd.prog 51 #[.agg #[.bool g, .slice A n c, .int .i64 e0], .bool more, .int .i64 dir, .int .i64 u] w (Tells2 w V2 (n + 3) (.bool (H || b))) := by
    intro B2 hB2 hbm2
    subst hB2
    clear hbm
    rcases hbm2 with ⟨rfl, rfl⟩ | ⟨rfl, rfl⟩
    all_goals (
      go_enter Tryd.func51, Tryd.ntmps51
      go_wp2_with fail
      refine H1.out.mono ?_
      rintro e w2 ⟨A2, m2, c2, zs, rfl, hm2, hl2, hb2, hv2, hB2⟩
      have H3 := fun q => odd_any A2 m2 c2 zs (w2.drewN q) (hl2.drewN q) (by omega)
      rw [hv2, Hod.out] at H3
      have H3 := Lib.hid H3
      have HL2 := Lib.hid hl2
      have Hb2 := Lib.hid hb2
      have Hv2 := Lib.hid hv2
      have HS2 := Lib.hid (HS.out.trans (hB2.mono HS.out.size))
      have kk := Hbd.out.below hB2
      have x0 := kk.c0
      clear hl2 hb2 hv2 hB2 H1 HS kk Hbd
      cases v with
      | false =>
        obtain rfl : U = V2 := hV2.out
        go_wp2
        go_quiet (first | (go_at_call 72; exact quiet_one (H3.out _)) | (go_at_call 38; exact quiet_one (away_l false g dir od H _ _ hv)))
        cases H <;> (
          go_wp2
          go_ret2
          exact ⟨A2, m2, c2, zs, rfl, by omega, HL2.out.drewN _, Hb2.out, Hv2.out, below_drewN HS2.out _⟩)
      | true =>
        have hV3 : U + 1 = V2 := hV2.out
        go_wp2
        go_quiet (first | (go_at_call 72; exact quiet_one (H3.out _)) | (go_at_call 38; exact quiet_one (away_l true g dir od H _ _ hv)))
        go_wp2_with fail
        refine (of_any 1 (by decide) _).mono ?_
        rintro e w3 ⟨A3, m3, c3, ys, rfl, hm3, hl3, hb3, hv3, hB3⟩
        have HS3 := Lib.hid ((below_drewN HS2.out _).trans (hB3.mono (below_drewN HS2.out _).size))
        have H4 := add_any A2 m2 c2 zs A3 m3 c3 ys w3 ((HL2.out.drewN _).below hB3) hl3 (by omega) (by omega)
        rw [Hv2.out, hv3, hV3] at H4
        have H4 := Lib.hid H4
        clear hl3 hb3 hv3 hB3 HS2 HL2 Hb2 Hv2 x0
        go_wp2_with fail
        refine H4.out.mono ?_
        rintro e w4 ⟨A4, m4, c4, us, rfl, hm4, hl4, hb4, hv4, hB4⟩
        have Hfin := Lib.hid (show Lim w4 A4 m4 c4 us ∧ Bare us ∧ val us = V2 ∧ Below w.heap.size w w4 from ⟨hl4, hb4, hv4, HS3.out.trans (hB4.mono HS3.out.size)⟩)
        clear hl4 hb4 hv4 hB4 HS3 H4
        cases H <;> (
          go_wp2
          go_ret2
          exact ⟨A4, m4, c4, us, rfl, by omega, Hfin.out⟩))
  exact key B rfl hbm
end Go.Proofs.YtjdlnfmeciodnaaDoor

/- The document's numbers: planimeterref05.Sign, Top, Add. -/
namespace Go.Proofs.YtjdlnfmeciodnaaDoor
open Go.RowKit

theorem dnil_iff {w : World} {A : Option Addr} {n c : Nat} {ds : List Nat} (h : Dig w A n c ds) (hb : D.Bare ds) : n = 0 ↔ D.val ds = 0 := by
  rw [← D.tl_zero_iff, hb, h.len]

theorem rsign_l (v : Int) (g : Bool) (A : Option Addr) (n c : Nat) (ds : List Nat) (e0 : Int) (w : World) (hA : Dig w A n c ds) (hb : D.Bare ds) (hv : Hid (sgD g (D.val ds) = v)) :
    Calls Tryd.prog 55 #[.agg #[.bool g, .slice A n c, .int .i64 e0]] w fun e w' => e = .returned (.int .i64 v) ∧ Below w.heap.size w w' := by
  have H1 := Lib.hid (below1 w (.cells #[.bool g, .slice A n c, .int .i64 e0] 28))
  have hv' := hv.out
  have hz := dnil_iff hA hb
  unfold sgD at hv'
  clear hv hA hb
  by_cases h0 : D.val ds = 0
  · rw [if_pos h0] at hv'
    subst hv'
    obtain rfl := hz.2 h0
    clear hz h0
    go_enter Tryd.func55, Tryd.ntmps55
    go_wp2
    go_ret
    exact ⟨rfl, H1.out⟩
  · rw [if_neg h0] at hv'
    have c1 : ((n : Int) == 0) = false := beq_no (by omega)
    clear hz h0
    cases g <;> subst hv' <;> (
      go_enter Tryd.func55, Tryd.ntmps55
      go_wp2
      go_ret
      exact ⟨rfl, H1.out⟩)

theorem rtop_l (v : Int) (g : Bool) (A : Option Addr) (n c : Nat) (ds : List Nat) (e0 : Int) (w : World) (hA : Dig w A n c ds) (hb : D.Bare ds) (hn : n ≤ 1000000) (h1 : -4294967296 ≤ e0) (h2 : e0 ≤ 4294967296) (hv : Hid (rtop (D.val ds) e0 = v)) :
    Calls Tryd.prog 56 #[.agg #[.bool g, .slice A n c, .int .i64 e0]] w fun e w' => e = .returned (.int .i64 v) ∧ Below w.heap.size w w' := by
  have a1 := below1 w (.cells #[.bool g, .slice A n c, .int .i64 e0] 28)
  have hlt := D.val_lt hA.words
  rw [hA.len, D.pw_two] at hlt
  have hbl : blen (D.val ds) ≤ 16 * n := blen_le_iff.2 hlt
  have H2 := fun q => rbits_any A n c ds ((w.alloc (.cells #[.bool g, .slice A n c, .int .i64 e0] 28)).drewN q) ((hA.below a1).drewN q) hb hn
  have hv' : (blen (D.val ds) : Int) - 1 + e0 = v := hv.out
  generalize blen (D.val ds) = B at *
  have H2 := Lib.hid H2
  have HS := Lib.hid a1
  have HV := Lib.hid hv'
  have hw : IntKind.i64.wrap ((B : Int) - 1 + e0) = (B : Int) - 1 + e0 := by rw [IntKind.wrap_i64]; omega
  clear hA hb a1 hlt hv hv'
  go_enter Tryd.func56, Tryd.ntmps56
  go_wp2
  go_quiet ((go_at_call 46; exact quiet_one (H2.out _)))
  go_wp2
  go_ret
  exact ⟨ret_int HV.out, below_drewN HS.out _⟩

/-- Two numbers of the document, in their boxes. -/
def HN (w0 : World) (b1 : Nat) (g : Bool) (A : Option Addr) (n c : Nat) (ds : List Nat) (e1 : Int) (b2 : Nat) (k : Bool) (B : Option Addr) (m d : Nat) (es : List Nat) (e2 : Int) (w : World) : Prop :=
  Bd w b1 28 g A n c e1 ∧ Bd w b2 28 k B m d e2 ∧ Dig w A n c ds ∧ Dig w B m d es ∧ Below w0.heap.size w0 w
abbrev CellsN (w0 : World) (b1 : Nat) (g : Bool) (A : Option Addr) (n c : Nat) (ds : List Nat) (e1 : Int) (b2 : Nat) (k : Bool) (B : Option Addr) (m d : Nat) (es : List Nat) (e2 : Int) (w' : World) : Prop :=
  w'.cell? ⟨b1, 0, none⟩ = some (.bool g) ∧ w'.cell? ⟨b1, 1, none⟩ = some (.slice A n c) ∧ w'.cell? ⟨b1, 2, none⟩ = some (.int .i64 e1) ∧ w'.cell? ⟨b2, 0, none⟩ = some (.bool k) ∧ w'.cell? ⟨b2, 1, none⟩ = some (.slice B m d) ∧ w'.cell? ⟨b2, 2, none⟩ = some (.int .i64 e2) ∧ Hid (HN w0 b1 g A n c ds e1 b2 k B m d es e2 w')
section
variable {w0 : World} {b1 : Nat} {g : Bool} {A : Option Addr} {n c : Nat} {ds : List Nat} {e1 : Int} {b2 : Nat} {k : Bool} {B : Option Addr} {m d : Nat} {es : List Nat} {e2 : Int} {w w' : World}
theorem HN.below (h : HN w0 b1 g A n c ds e1 b2 k B m d es e2 w) (hb : Below w.heap.size w w') : HN w0 b1 g A n c ds e1 b2 k B m d es e2 w' := by
  obtain ⟨h1, h2, h3, h4, h5⟩ := h
  exact ⟨h1.below hb, h2.below hb, h3.below hb, h4.below hb, h5.trans (hb.mono h5.size)⟩
theorem HN.cells (h : HN w0 b1 g A n c ds e1 b2 k B m d es e2 w) : CellsN w0 b1 g A n c ds e1 b2 k B m d es e2 w := ⟨h.1.c0, h.1.c1, h.1.c2, h.2.1.c0, h.2.1.c1, h.2.1.c2, h⟩
end
theorem HN.start (w : World) (g : Bool) (A : Option Addr) (n c : Nat) (ds : List Nat) (e1 : Int) (k : Bool) (B : Option Addr) (m d : Nat) (es : List Nat) (e2 : Int) (hA : Dig w A n c ds) (hB : Dig w B m d es) :
    HN w w.heap.size g A n c ds e1 (w.heap.size + 1) k B m d es e2 ((w.alloc (.cells #[.bool g, .slice A n c, .int .i64 e1] 28)).alloc (.cells #[.bool k, .slice B m d, .int .i64 e2] 28)) := by
  have a3 : Below w.heap.size w ((w.alloc (.cells #[.bool g, .slice A n c, .int .i64 e1] 28)).alloc (.cells #[.bool k, .slice B m d, .int .i64 e2] 28)) := ((Below.refl _ _).alloc (Nat.le_refl _) _).alloc (by simp) _
  have b1 := (Bd.new w 28 g A n c e1).alloc (.cells #[.bool k, .slice B m d, .int .i64 e2] 28)
  have b2 := Bd.new (w.alloc (.cells #[.bool g, .slice A n c, .int .i64 e1] 28)) 28 k B m d e2
  rw [World.size_alloc] at b2
  exact ⟨b1, b2, hA.below a3, hB.below a3, a3⟩
theorem HN.start3 (w : World) (g : Bool) (A : Option Addr) (n c : Nat) (ds : List Nat) (e1 : Int) (k : Bool) (B : Option Addr) (m d : Nat) (es : List Nat) (e2 : Int) (hA : Dig w A n c ds) (hB : Dig w B m d es) :
    HN w w.heap.size g A n c ds e1 (w.heap.size + 1) k B m d es e2 (((w.alloc (.cells #[.bool g, .slice A n c, .int .i64 e1] 28)).alloc (.cells #[.bool k, .slice B m d, .int .i64 e2] 28)).alloc (.cells #[.bool false, .slice none 0 0, .int .i64 0] 28)) ∧
    Bd (((w.alloc (.cells #[.bool g, .slice A n c, .int .i64 e1] 28)).alloc (.cells #[.bool k, .slice B m d, .int .i64 e2] 28)).alloc (.cells #[.bool false, .slice none 0 0, .int .i64 0] 28)) (w.heap.size + 1 + 1) 28 false none 0 0 0 := by
  have b3 := Bd.new ((w.alloc (.cells #[.bool g, .slice A n c, .int .i64 e1] 28)).alloc (.cells #[.bool k, .slice B m d, .int .i64 e2] 28)) 28 false none 0 0 0
  rw [World.size_alloc, World.size_alloc] at b3
  exact ⟨(HN.start w g A n c ds e1 k B m d es e2 hA hB).below (below1 _ _), b3⟩

/-- The first number is 0: the second one. -/
theorem radd_zero (g : Bool) (A : Option Addr) (c : Nat) (e1 : Int) (k : Bool) (B : Option Addr) (m d : Nat) (es : List Nat) (e2 : Int) (w : World) (hB : Dig w B m d es) (bb : D.Bare es) :
    Calls Tryd.prog 57 #[.agg #[.bool g, .slice A 0 c, .int .i64 e1], .agg #[.bool k, .slice B m d, .int .i64 e2]] w (NTold w ⟨k, D.val es, e2⟩ m) := by
  have h0 := (HN.start w g A 0 c [] e1 k B m d es e2 (Dig.nil _ _ _) hB).below (below1 _ (.cells #[.bool k, .slice B m d, .int .i64 e2] 28))
  have Hfin : Hid (NTold w ⟨k, D.val es, e2⟩ m (.returned (.agg #[.bool k, .slice B m d, .int .i64 e2])) (((w.alloc (.cells #[.bool g, .slice A 0 c, .int .i64 e1] 28)).alloc (.cells #[.bool k, .slice B m d, .int .i64 e2] 28)).alloc (.cells #[.bool k, .slice B m d, .int .i64 e2] 28))) :=
    ⟨B, m, d, es, rfl, Nat.le_refl _, h0.2.2.2.1, bb, rfl, h0.2.2.2.2⟩
  clear h0 hB bb
  go_enter Tryd.func57, Tryd.ntmps57
  go_wp2
  exact bodyPost_ret (v := .agg #[.bool k, .slice B m d, .int .i64 e2]) (by simp [results, Tryd.results57, go_sem]) rfl Hfin.out
end Go.Proofs.YtjdlnfmeciodnaaDoor

/- The document's numbers: planimeterref05.Add of two that aren't 0. Written by law_rsum.py. -/
namespace Go.Proofs.YtjdlnfmeciodnaaDoor
open Go.RowKit

/-- .. and the result's block. -/
def HS3 (w0 : World) (b1 : Nat) (g : Bool) (A : Option Addr) (n c : Nat) (ds : List Nat) (e1 : Int) (b2 : Nat) (k : Bool) (B : Option Addr) (m d : Nat) (es : List Nat) (e2 : Int) (b3 : Nat) (w : World) : Prop :=
  HN w0 b1 g A n c ds e1 b2 k B m d es e2 w ∧ Bd w b3 28 false none 0 0 0
abbrev CellsS (w0 : World) (b1 : Nat) (g : Bool) (A : Option Addr) (n c : Nat) (ds : List Nat) (e1 : Int) (b2 : Nat) (k : Bool) (B : Option Addr) (m d : Nat) (es : List Nat) (e2 : Int) (b3 : Nat) (w' : World) : Prop :=
  w'.cell? ⟨b1, 0, none⟩ = some (.bool g) ∧ w'.cell? ⟨b1, 1, none⟩ = some (.slice A n c) ∧ w'.cell? ⟨b1, 2, none⟩ = some (.int .i64 e1) ∧ w'.cell? ⟨b2, 0, none⟩ = some (.bool k) ∧ w'.cell? ⟨b2, 1, none⟩ = some (.slice B m d) ∧ w'.cell? ⟨b2, 2, none⟩ = some (.int .i64 e2) ∧ Hid (HS3 w0 b1 g A n c ds e1 b2 k B m d es e2 b3 w')
section
variable {w0 : World} {b1 : Nat} {g : Bool} {A : Option Addr} {n c : Nat} {ds : List Nat} {e1 : Int} {b2 : Nat} {k : Bool} {B : Option Addr} {m d : Nat} {es : List Nat} {e2 : Int} {b3 : Nat} {w w' : World}
theorem HS3.below (h : HS3 w0 b1 g A n c ds e1 b2 k B m d es e2 b3 w) (hb : Below w.heap.size w w') : HS3 w0 b1 g A n c ds e1 b2 k B m d es e2 b3 w' := ⟨h.1.below hb, h.2.below hb⟩
theorem HS3.cells (h : HS3 w0 b1 g A n c ds e1 b2 k B m d es e2 b3 w) : CellsS w0 b1 g A n c ds e1 b2 k B m d es e2 b3 w := ⟨h.1.1.c0, h.1.1.c1, h.1.1.c2, h.1.2.1.c0, h.1.2.1.c1, h.1.2.1.c2, h⟩
end

set_option maxHeartbeats 1000000 in
theorem radd_sum_L (x y q : Nat) (A : Option Addr) (n c : Nat) (ds : List Nat) (e1 : Int) (B : Option Addr) (m d : Nat) (es : List Nat) (e2 : Int) (w : World) (hA : Dig w A n c ds) (hB : Dig w B m d es) (ba : D.Bare ds) (bb : D.Bare es) (hn : n ≤ 1000) (hm : m ≤ 1000) (hn0 : n ≠ 0) (hm0 : m ≠ 0)
    (hd : e1 - e2 = (q : Int)) (hq : q ≤ 4000) (hl : e2 < e1) (hx : Hid (D.val ds * 2 ^ q = x)) (hy : Hid (D.val es = y)) :
    Calls Tryd.prog 57 #[.agg #[.bool false, .slice A n c, .int .i64 e1], .agg #[.bool false, .slice B m d, .int .i64 e2]] w (NTold w ⟨false, x + y, e2⟩ 100001) := by
  have h0 : HS3 w w.heap.size false A n c ds e1 (w.heap.size + 1) false B m d es e2 (w.heap.size + 1 + 1) _ := HN.start3 w false A n c ds e1 false B m d es e2 hA hB
  have K0 := Lib.hid (h0.below (below_drew _)).cells
  have HP1 : Hid (∀ u, CellsS w w.heap.size false A n c ds e1 (w.heap.size + 1) false B m d es e2 (w.heap.size + 1 + 1) u → Calls Tryd.prog 75 #[.slice A n c, .int .i64 (q : Int)] u fun e w' => ∃ (A6 : Option Addr) (m6 c6 : Nat) (ps : List Nat), e = .returned (.slice A6 m6 c6) ∧ m6 ≤ 100000 ∧ CellsS w w.heap.size false A n c ds e1 (w.heap.size + 1) false B m d es e2 (w.heap.size + 1 + 1) w' ∧ Hid (Dig w' A6 m6 c6 ps ∧ D.Bare ps ∧ D.val ps = x ∧ Below u.heap.size u w')) := fun u hu => by
    have h := hu.2.2.2.2.2.2.out
    have this := rshl_any A n c ds q u h.1.2.2.1 ba (by omega) (by omega)
    rw [hx.out] at this
    refine this.mono ?_
    rintro e w' ⟨A6, m6, c6, ps, rfl, q1, q2, q3, q4, q5⟩
    exact ⟨A6, m6, c6, ps, rfl, q1, (h.below q5).cells, q2, q3, q4, q5⟩
  have HP2 : Hid (∀ u, CellsS w w.heap.size false A n c ds e1 (w.heap.size + 1) false B m d es e2 (w.heap.size + 1 + 1) u → Calls Tryd.prog 75 #[.slice B m d, .int .i64 0] u fun e w' => ∃ (A6 : Option Addr) (m6 c6 : Nat) (ps : List Nat), e = .returned (.slice A6 m6 c6) ∧ m6 ≤ 100000 ∧ CellsS w w.heap.size false A n c ds e1 (w.heap.size + 1) false B m d es e2 (w.heap.size + 1 + 1) w' ∧ Hid (Dig w' A6 m6 c6 ps ∧ D.Bare ps ∧ D.val ps = y ∧ Below u.heap.size u w')) := fun u hu => by
    have h := hu.2.2.2.2.2.2.out
    have this := rshl_any B m d es 0 u h.1.2.2.2.1 bb (by omega) (by omega)
    rw [show ((0 : Nat) : Int) = 0 from rfl, Nat.pow_zero, Nat.mul_one] at this
    rw [hy.out] at this
    refine this.mono ?_
    rintro e w' ⟨A6, m6, c6, ps, rfl, q1, q2, q3, q4, q5⟩
    exact ⟨A6, m6, c6, ps, rfl, q1, (h.below q5).cells, q2, q3, q4, q5⟩
  have hwq : IntKind.i64.wrap (q : Int) = (q : Int) := by rw [IntKind.wrap_i64]; omega
  have hw0 : IntKind.i64.wrap 0 = 0 := by decide
  have c1 : ((n : Int) == 0) = false := beq_no (by omega)
  have c2 : ((m : Int) == 0) = false := beq_no (by omega)
  have x1 := h0.1.1.c1
  have x2 := h0.1.1.c2
  have y1 := h0.1.2.1.c1
  have y2 := h0.1.2.1.c2
  have b1 : decide (e2 < e1) = true := decide_eq_true hl
  clear hA hB ba bb hx hy h0 hl hn0 hm0
  go_enter Tryd.func57, Tryd.ntmps57
  go_wp2_with fail
  go_region_held3 (fun w' => w'.cell? ⟨w.heap.size, 0, none⟩ = some (.bool false) ∧ w'.cell? ⟨w.heap.size, 1, none⟩ = some (.slice A n c) ∧ w'.cell? ⟨w.heap.size, 2, none⟩ = some (.int .i64 e1) ∧ w'.cell? ⟨w.heap.size + 1, 0, none⟩ = some (.bool false) ∧ w'.cell? ⟨w.heap.size + 1, 1, none⟩ = some (.slice B m d) ∧ w'.cell? ⟨w.heap.size + 1, 2, none⟩ = some (.int .i64 e2) ∧ Hid (HS3 w w.heap.size false A n c ds e1 (w.heap.size + 1) false B m d es e2 (w.heap.size + 1 + 1) w'))
    (first | (with_reducible exact K0.out) | (with_reducible assumption))
    (first | (go_at_call 75; (with_reducible refine (HP1.out _ (by first | (with_reducible exact K0.out) | (with_reducible assumption))).mono ?_); rintro e w1 ⟨A6, m6, c6, ps, rfl, hm6, hY, hP6⟩) | (go_at_call 75; (with_reducible refine (HP2.out _ (by first | (with_reducible exact K0.out) | (with_reducible assumption))).mono ?_); rintro e w2 ⟨A7, m7, c7, qs, rfl, hm7, hZ, hP7⟩))
  have G1 := hP6.out.1.below hP7.out.2.2.2
  have G2 := hP7.out.1
  have HZ := Lib.hid hZ.2.2.2.2.2.2.out
  have HB := Lib.hid (And.intro hP6.out.2.1 (And.intro hP6.out.2.2.1 (And.intro hP7.out.2.1 hP7.out.2.2.1)))
  have Z0 := Lib.hid (HZ.out.below (below_drew _)).cells
  have HC : Hid (∀ u, Dig u A6 m6 c6 ps → Dig u A7 m7 c7 qs → CellsS w w.heap.size false A n c ds e1 (w.heap.size + 1) false B m d es e2 (w.heap.size + 1 + 1) u → Calls Tryd.prog 76 #[.slice A6 m6 c6, .slice A7 m7 c7] u fun e w' => ∃ (A8 : Option Addr) (m8 c8 : Nat) (rs : List Nat), e = .returned (.slice A8 m8 c8) ∧ m8 ≤ 100001 ∧ CellsS w w.heap.size false A n c ds e1 (w.heap.size + 1) false B m d es e2 (w.heap.size + 1 + 1) w' ∧ Hid (Dig w' A8 m8 c8 rs ∧ D.Bare rs ∧ D.val rs = x + y)) := fun u d1 d2 hu => by
    have h := hu.2.2.2.2.2.2.out
    refine (radd_any A6 m6 c6 ps A7 m7 c7 qs u d1 d2 HB.out.1 HB.out.2.2.1 (by omega) (by omega)).mono ?_
    rintro e w' ⟨A8, m8, c8, rs, rfl, q1, q2, q3, q4, q5⟩
    exact ⟨A8, m8, c8, rs, rfl, by omega, (h.below q5).cells, q2, q3, by rw [q4, HB.out.2.1, HB.out.2.2.2]⟩
  have G1h := Lib.hid (G1.drew)
  have G2h := Lib.hid (G2.drew)
  clear K0 HP1 HP2 hY hP6 hP7 c1 c2 x1 x2 y1 y2 b1 G1 G2
  obtain ⟨x0, x1, x2, y0, y1, y2, _⟩ := hZ
  go_wp2_with fail
  go_region_held3 (fun w' => w'.cell? ⟨w.heap.size, 0, none⟩ = some (.bool false))
    (first | (with_reducible exact Z0.out.1) | (with_reducible exact Kp.out) | (with_reducible exact hX.1))
    ((go_at_call 76; (with_reducible refine (HC.out _ G1h.out G2h.out Z0.out).mono ?_); rintro e w9 ⟨A8, m8, c8, rs, rfl, hm8, hX, hP8⟩; have kb := hX.2.2.2.2.2.2.out.2; have u0 := kb.c0; have u1 := kb.c1; have u2 := kb.c2; have uf := kb.fz; have Hfin : Hid (NTold w ⟨false, x + y, e2⟩ 100001 (.returned (.agg #[.bool false, .slice A8 m8 c8, .int .i64 e2])) (World.put w9 (w.heap.size + 1 + 1) false A8 m8 c8 e2)) := ⟨A8, m8, c8, rs, rfl, hm8, kb.dig hP8.out.1 _ _ _ _ _, hP8.out.2.1, hP8.out.2.2, below_put hX.2.2.2.2.2.2.out.1.2.2.2.2 (by omega) _ _ _ _ _⟩; have hW := hX.2.2.2.2.2.2.out; have Kp : Hid (World.cell? (World.put w9 (w.heap.size + 1 + 1) false A8 m8 c8 e2) ⟨w.heap.size, 0, none⟩ = some (.bool false)) := (hW.1.1.other (by omega) _ _ _ _ _).c0; clear kb hP8 hW))
  all_goals (
    go_wp2_with fail
    exact bodyPost_ret (v := .agg #[.bool false, .slice A8 m8 c8, .int .i64 e2]) (by simp [results, Tryd.results57, go_sem, u0, u1, u2]) rfl Hfin.out)

set_option maxHeartbeats 1000000 in
theorem radd_sum_G (x y q : Nat) (A : Option Addr) (n c : Nat) (ds : List Nat) (e1 : Int) (B : Option Addr) (m d : Nat) (es : List Nat) (e2 : Int) (w : World) (hA : Dig w A n c ds) (hB : Dig w B m d es) (ba : D.Bare ds) (bb : D.Bare es) (hn : n ≤ 1000) (hm : m ≤ 1000) (hn0 : n ≠ 0) (hm0 : m ≠ 0)
    (hd : e2 - e1 = (q : Int)) (hq : q ≤ 4000) (hx : Hid (D.val ds = x)) (hy : Hid (D.val es * 2 ^ q = y)) :
    Calls Tryd.prog 57 #[.agg #[.bool false, .slice A n c, .int .i64 e1], .agg #[.bool false, .slice B m d, .int .i64 e2]] w (NTold w ⟨false, x + y, e1⟩ 100001) := by
  have h0 : HS3 w w.heap.size false A n c ds e1 (w.heap.size + 1) false B m d es e2 (w.heap.size + 1 + 1) _ := HN.start3 w false A n c ds e1 false B m d es e2 hA hB
  have K0 := Lib.hid (h0.below (below_drew _)).cells
  have HP1 : Hid (∀ u, CellsS w w.heap.size false A n c ds e1 (w.heap.size + 1) false B m d es e2 (w.heap.size + 1 + 1) u → Calls Tryd.prog 75 #[.slice A n c, .int .i64 0] u fun e w' => ∃ (A6 : Option Addr) (m6 c6 : Nat) (ps : List Nat), e = .returned (.slice A6 m6 c6) ∧ m6 ≤ 100000 ∧ CellsS w w.heap.size false A n c ds e1 (w.heap.size + 1) false B m d es e2 (w.heap.size + 1 + 1) w' ∧ Hid (Dig w' A6 m6 c6 ps ∧ D.Bare ps ∧ D.val ps = x ∧ Below u.heap.size u w')) := fun u hu => by
    have h := hu.2.2.2.2.2.2.out
    have this := rshl_any A n c ds 0 u h.1.2.2.1 ba (by omega) (by omega)
    rw [show ((0 : Nat) : Int) = 0 from rfl, Nat.pow_zero, Nat.mul_one] at this
    rw [hx.out] at this
    refine this.mono ?_
    rintro e w' ⟨A6, m6, c6, ps, rfl, q1, q2, q3, q4, q5⟩
    exact ⟨A6, m6, c6, ps, rfl, q1, (h.below q5).cells, q2, q3, q4, q5⟩
  have HP2 : Hid (∀ u, CellsS w w.heap.size false A n c ds e1 (w.heap.size + 1) false B m d es e2 (w.heap.size + 1 + 1) u → Calls Tryd.prog 75 #[.slice B m d, .int .i64 (q : Int)] u fun e w' => ∃ (A6 : Option Addr) (m6 c6 : Nat) (ps : List Nat), e = .returned (.slice A6 m6 c6) ∧ m6 ≤ 100000 ∧ CellsS w w.heap.size false A n c ds e1 (w.heap.size + 1) false B m d es e2 (w.heap.size + 1 + 1) w' ∧ Hid (Dig w' A6 m6 c6 ps ∧ D.Bare ps ∧ D.val ps = y ∧ Below u.heap.size u w')) := fun u hu => by
    have h := hu.2.2.2.2.2.2.out
    have this := rshl_any B m d es q u h.1.2.2.2.1 bb (by omega) (by omega)
    rw [hy.out] at this
    refine this.mono ?_
    rintro e w' ⟨A6, m6, c6, ps, rfl, q1, q2, q3, q4, q5⟩
    exact ⟨A6, m6, c6, ps, rfl, q1, (h.below q5).cells, q2, q3, q4, q5⟩
  have hwq : IntKind.i64.wrap (q : Int) = (q : Int) := by rw [IntKind.wrap_i64]; omega
  have hw0 : IntKind.i64.wrap 0 = 0 := by decide
  have c1 : ((n : Int) == 0) = false := beq_no (by omega)
  have c2 : ((m : Int) == 0) = false := beq_no (by omega)
  have x1 := h0.1.1.c1
  have x2 := h0.1.1.c2
  have y1 := h0.1.2.1.c1
  have y2 := h0.1.2.1.c2
  have b1 : decide (e2 < e1) = false := decide_eq_false (by omega)
  clear hA hB ba bb hx hy h0 hn0 hm0
  go_enter Tryd.func57, Tryd.ntmps57
  go_wp2_with fail
  go_region_held3 (fun w' => w'.cell? ⟨w.heap.size, 0, none⟩ = some (.bool false) ∧ w'.cell? ⟨w.heap.size, 1, none⟩ = some (.slice A n c) ∧ w'.cell? ⟨w.heap.size, 2, none⟩ = some (.int .i64 e1) ∧ w'.cell? ⟨w.heap.size + 1, 0, none⟩ = some (.bool false) ∧ w'.cell? ⟨w.heap.size + 1, 1, none⟩ = some (.slice B m d) ∧ w'.cell? ⟨w.heap.size + 1, 2, none⟩ = some (.int .i64 e2) ∧ Hid (HS3 w w.heap.size false A n c ds e1 (w.heap.size + 1) false B m d es e2 (w.heap.size + 1 + 1) w'))
    (first | (with_reducible exact K0.out) | (with_reducible assumption))
    (first | (go_at_call 75; (with_reducible refine (HP1.out _ (by first | (with_reducible exact K0.out) | (with_reducible assumption))).mono ?_); rintro e w1 ⟨A6, m6, c6, ps, rfl, hm6, hY, hP6⟩) | (go_at_call 75; (with_reducible refine (HP2.out _ (by first | (with_reducible exact K0.out) | (with_reducible assumption))).mono ?_); rintro e w2 ⟨A7, m7, c7, qs, rfl, hm7, hZ, hP7⟩))
  have G1 := hP6.out.1.below hP7.out.2.2.2
  have G2 := hP7.out.1
  have HZ := Lib.hid hZ.2.2.2.2.2.2.out
  have HB := Lib.hid (And.intro hP6.out.2.1 (And.intro hP6.out.2.2.1 (And.intro hP7.out.2.1 hP7.out.2.2.1)))
  have Z0 := Lib.hid (HZ.out.below (below_drew _)).cells
  have HC : Hid (∀ u, Dig u A6 m6 c6 ps → Dig u A7 m7 c7 qs → CellsS w w.heap.size false A n c ds e1 (w.heap.size + 1) false B m d es e2 (w.heap.size + 1 + 1) u → Calls Tryd.prog 76 #[.slice A6 m6 c6, .slice A7 m7 c7] u fun e w' => ∃ (A8 : Option Addr) (m8 c8 : Nat) (rs : List Nat), e = .returned (.slice A8 m8 c8) ∧ m8 ≤ 100001 ∧ CellsS w w.heap.size false A n c ds e1 (w.heap.size + 1) false B m d es e2 (w.heap.size + 1 + 1) w' ∧ Hid (Dig w' A8 m8 c8 rs ∧ D.Bare rs ∧ D.val rs = x + y)) := fun u d1 d2 hu => by
    have h := hu.2.2.2.2.2.2.out
    refine (radd_any A6 m6 c6 ps A7 m7 c7 qs u d1 d2 HB.out.1 HB.out.2.2.1 (by omega) (by omega)).mono ?_
    rintro e w' ⟨A8, m8, c8, rs, rfl, q1, q2, q3, q4, q5⟩
    exact ⟨A8, m8, c8, rs, rfl, by omega, (h.below q5).cells, q2, q3, by rw [q4, HB.out.2.1, HB.out.2.2.2]⟩
  have G1h := Lib.hid (G1.drew)
  have G2h := Lib.hid (G2.drew)
  clear K0 HP1 HP2 hY hP6 hP7 c1 c2 x1 x2 y1 y2 b1 G1 G2
  obtain ⟨x0, x1, x2, y0, y1, y2, _⟩ := hZ
  go_wp2_with fail
  go_region_held3 (fun w' => w'.cell? ⟨w.heap.size, 0, none⟩ = some (.bool false))
    (first | (with_reducible exact Z0.out.1) | (with_reducible exact Kp.out) | (with_reducible exact hX.1))
    ((go_at_call 76; (with_reducible refine (HC.out _ G1h.out G2h.out Z0.out).mono ?_); rintro e w9 ⟨A8, m8, c8, rs, rfl, hm8, hX, hP8⟩; have kb := hX.2.2.2.2.2.2.out.2; have u0 := kb.c0; have u1 := kb.c1; have u2 := kb.c2; have uf := kb.fz; have Hfin : Hid (NTold w ⟨false, x + y, e1⟩ 100001 (.returned (.agg #[.bool false, .slice A8 m8 c8, .int .i64 e1])) (World.put w9 (w.heap.size + 1 + 1) false A8 m8 c8 e1)) := ⟨A8, m8, c8, rs, rfl, hm8, kb.dig hP8.out.1 _ _ _ _ _, hP8.out.2.1, hP8.out.2.2, below_put hX.2.2.2.2.2.2.out.1.2.2.2.2 (by omega) _ _ _ _ _⟩; have hW := hX.2.2.2.2.2.2.out; have Kp : Hid (World.cell? (World.put w9 (w.heap.size + 1 + 1) false A8 m8 c8 e1) ⟨w.heap.size, 0, none⟩ = some (.bool false)) := (hW.1.1.other (by omega) _ _ _ _ _).c0; clear kb hP8 hW))
  all_goals (
    go_wp2_with fail
    exact bodyPost_ret (v := .agg #[.bool false, .slice A8 m8 c8, .int .i64 e1]) (by simp [results, Tryd.results57, go_sem, u0, u1, u2]) rfl Hfin.out)

set_option maxHeartbeats 1000000 in
theorem radd_ge_L (x y q : Nat) (A : Option Addr) (n c : Nat) (ds : List Nat) (e1 : Int) (B : Option Addr) (m d : Nat) (es : List Nat) (e2 : Int) (w : World) (hA : Dig w A n c ds) (hB : Dig w B m d es) (ba : D.Bare ds) (bb : D.Bare es) (hn : n ≤ 1000) (hm : m ≤ 1000) (hn0 : n ≠ 0) (hm0 : m ≠ 0)
    (hd : e1 - e2 = (q : Int)) (hq : q ≤ 4000) (hl : e2 < e1) (hx : Hid (D.val ds * 2 ^ q = x)) (hy : Hid (D.val es = y)) (ho : y ≤ x) :
    Calls Tryd.prog 57 #[.agg #[.bool false, .slice A n c, .int .i64 e1], .agg #[.bool true, .slice B m d, .int .i64 e2]] w (NTold w ⟨false, x - y, e2⟩ 100001) := by
  have h0 : HS3 w w.heap.size false A n c ds e1 (w.heap.size + 1) true B m d es e2 (w.heap.size + 1 + 1) _ := HN.start3 w false A n c ds e1 true B m d es e2 hA hB
  have K0 := Lib.hid (h0.below (below_drew _)).cells
  have HP1 : Hid (∀ u, CellsS w w.heap.size false A n c ds e1 (w.heap.size + 1) true B m d es e2 (w.heap.size + 1 + 1) u → Calls Tryd.prog 75 #[.slice A n c, .int .i64 (q : Int)] u fun e w' => ∃ (A6 : Option Addr) (m6 c6 : Nat) (ps : List Nat), e = .returned (.slice A6 m6 c6) ∧ m6 ≤ 100000 ∧ CellsS w w.heap.size false A n c ds e1 (w.heap.size + 1) true B m d es e2 (w.heap.size + 1 + 1) w' ∧ Hid (Dig w' A6 m6 c6 ps ∧ D.Bare ps ∧ D.val ps = x ∧ Below u.heap.size u w')) := fun u hu => by
    have h := hu.2.2.2.2.2.2.out
    have this := rshl_any A n c ds q u h.1.2.2.1 ba (by omega) (by omega)
    rw [hx.out] at this
    refine this.mono ?_
    rintro e w' ⟨A6, m6, c6, ps, rfl, q1, q2, q3, q4, q5⟩
    exact ⟨A6, m6, c6, ps, rfl, q1, (h.below q5).cells, q2, q3, q4, q5⟩
  have HP2 : Hid (∀ u, CellsS w w.heap.size false A n c ds e1 (w.heap.size + 1) true B m d es e2 (w.heap.size + 1 + 1) u → Calls Tryd.prog 75 #[.slice B m d, .int .i64 0] u fun e w' => ∃ (A6 : Option Addr) (m6 c6 : Nat) (ps : List Nat), e = .returned (.slice A6 m6 c6) ∧ m6 ≤ 100000 ∧ CellsS w w.heap.size false A n c ds e1 (w.heap.size + 1) true B m d es e2 (w.heap.size + 1 + 1) w' ∧ Hid (Dig w' A6 m6 c6 ps ∧ D.Bare ps ∧ D.val ps = y ∧ Below u.heap.size u w')) := fun u hu => by
    have h := hu.2.2.2.2.2.2.out
    have this := rshl_any B m d es 0 u h.1.2.2.2.1 bb (by omega) (by omega)
    rw [show ((0 : Nat) : Int) = 0 from rfl, Nat.pow_zero, Nat.mul_one] at this
    rw [hy.out] at this
    refine this.mono ?_
    rintro e w' ⟨A6, m6, c6, ps, rfl, q1, q2, q3, q4, q5⟩
    exact ⟨A6, m6, c6, ps, rfl, q1, (h.below q5).cells, q2, q3, q4, q5⟩
  have hwq : IntKind.i64.wrap (q : Int) = (q : Int) := by rw [IntKind.wrap_i64]; omega
  have hw0 : IntKind.i64.wrap 0 = 0 := by decide
  have c1 : ((n : Int) == 0) = false := beq_no (by omega)
  have c2 : ((m : Int) == 0) = false := beq_no (by omega)
  have x1 := h0.1.1.c1
  have x2 := h0.1.1.c2
  have y1 := h0.1.2.1.c1
  have y2 := h0.1.2.1.c2
  have b1 : decide (e2 < e1) = true := decide_eq_true hl
  clear hA hB ba bb hx hy h0 hl hn0 hm0
  go_enter Tryd.func57, Tryd.ntmps57
  go_wp2_with fail
  go_region_held3 (fun w' => w'.cell? ⟨w.heap.size, 0, none⟩ = some (.bool false) ∧ w'.cell? ⟨w.heap.size, 1, none⟩ = some (.slice A n c) ∧ w'.cell? ⟨w.heap.size, 2, none⟩ = some (.int .i64 e1) ∧ w'.cell? ⟨w.heap.size + 1, 0, none⟩ = some (.bool true) ∧ w'.cell? ⟨w.heap.size + 1, 1, none⟩ = some (.slice B m d) ∧ w'.cell? ⟨w.heap.size + 1, 2, none⟩ = some (.int .i64 e2) ∧ Hid (HS3 w w.heap.size false A n c ds e1 (w.heap.size + 1) true B m d es e2 (w.heap.size + 1 + 1) w'))
    (first | (with_reducible exact K0.out) | (with_reducible assumption))
    (first | (go_at_call 75; (with_reducible refine (HP1.out _ (by first | (with_reducible exact K0.out) | (with_reducible assumption))).mono ?_); rintro e w1 ⟨A6, m6, c6, ps, rfl, hm6, hY, hP6⟩) | (go_at_call 75; (with_reducible refine (HP2.out _ (by first | (with_reducible exact K0.out) | (with_reducible assumption))).mono ?_); rintro e w2 ⟨A7, m7, c7, qs, rfl, hm7, hZ, hP7⟩))
  have G1 := hP6.out.1.below hP7.out.2.2.2
  have G2 := hP7.out.1
  have HZ := Lib.hid hZ.2.2.2.2.2.2.out
  have HB := Lib.hid (And.intro hP6.out.2.1 (And.intro hP6.out.2.2.1 (And.intro hP7.out.2.1 hP7.out.2.2.1)))
  have Z0 := Lib.hid (HZ.out.below (below_drew _)).cells
  have HC : Hid (∀ u, Dig u A6 m6 c6 ps → Dig u A7 m7 c7 qs → CellsS w w.heap.size false A n c ds e1 (w.heap.size + 1) true B m d es e2 (w.heap.size + 1 + 1) u → Calls Tryd.prog 78 #[.slice A6 m6 c6, .slice A7 m7 c7] u fun e w' => ∃ (A8 : Option Addr) (m8 c8 : Nat) (rs : List Nat), e = .returned (.slice A8 m8 c8) ∧ m8 ≤ 100001 ∧ CellsS w w.heap.size false A n c ds e1 (w.heap.size + 1) true B m d es e2 (w.heap.size + 1 + 1) w' ∧ Hid (Dig w' A8 m8 c8 rs ∧ D.Bare rs ∧ D.val rs = x - y)) := fun u d1 d2 hu => by
    have h := hu.2.2.2.2.2.2.out
    refine (rsub_any A6 m6 c6 ps A7 m7 c7 qs u d1 d2 HB.out.2.2.1 (by rw [HB.out.2.1, HB.out.2.2.2]; exact ho) (by omega) (by omega)).mono ?_
    rintro e w' ⟨A8, m8, c8, rs, rfl, q1, q2, q3, q4, q5⟩
    exact ⟨A8, m8, c8, rs, rfl, by omega, (h.below q5).cells, q2, q3, by rw [q4, HB.out.2.1, HB.out.2.2.2]⟩
  obtain ⟨z, hz⟩ : ∃ z, cmpZ x y = z := ⟨_, rfl⟩
  have HR := rcmp_any A6 m6 c6 ps A7 m7 c7 qs w2 G1 G2 HB.out.1 HB.out.2.2.1 (by omega) (by omega)
  rw [HB.out.2.1, HB.out.2.2.2, hz] at HR
  have HR := Lib.hid HR
  have b3 : decide (0 ≤ z) = true := by
    rw [← hz]
    exact decide_eq_true (by have := cmpZ_bd x y; by_cases h : y < x; (rw [cmpZ_gt h]; decide); (rw [cmpZ_eq (by omega)]; decide))
  have G1h := Lib.hid G1
  have G2h := Lib.hid G2
  clear hz
  clear K0 HP1 HP2 hY hP6 hP7 c1 c2 x1 x2 y1 y2 b1 G1 G2
  obtain ⟨x0, x1, x2, y0, y1, y2, _⟩ := hZ
  go_wp2_with fail
  refine HR.out.mono ?_
  rintro e w3 ⟨rfl, nq, rfl⟩
  have Hq := Lib.hid (HZ.out.below (below_drewN (Below.refl _ _) nq))
  have Zq := Lib.hid (HZ.out.below (below_drewN (Below.refl _ _) (nq + 1))).cells
  have Zr := Lib.hid (Hq.out.below (below_drew _)).cells
  have G1q := Lib.hid (G1h.out.drewN (nq + 1))
  have G2q := Lib.hid (G2h.out.drewN (nq + 1))
  obtain ⟨v0, v1, v2, s0, s1, s2, _⟩ := Hq.out.cells
  clear x0 x1 x2 y0 y1 y2 HR HZ Z0
  go_wp2_with fail
  go_region_held3 (fun w' => w'.cell? ⟨w.heap.size, 0, none⟩ = some (.bool false))
    (first | (with_reducible exact Zq.out.1) | (with_reducible exact Zr.out.1) | (with_reducible exact Kp.out) | (with_reducible exact hX.1))
    ((go_at_call 78; (with_reducible refine (HC.out _ G1q.out G2q.out Zq.out).mono ?_); rintro e w9 ⟨A8, m8, c8, rs, rfl, hm8, hX, hP8⟩; have kb := hX.2.2.2.2.2.2.out.2; have u0 := kb.c0; have u1 := kb.c1; have u2 := kb.c2; have uf := kb.fz; have Hfin : Hid (NTold w ⟨false, x - y, e2⟩ 100001 (.returned (.agg #[.bool false, .slice A8 m8 c8, .int .i64 e2])) (World.put w9 (w.heap.size + 1 + 1) false A8 m8 c8 e2)) := ⟨A8, m8, c8, rs, rfl, hm8, kb.dig hP8.out.1 _ _ _ _ _, hP8.out.2.1, hP8.out.2.2, below_put hX.2.2.2.2.2.2.out.1.2.2.2.2 (by omega) _ _ _ _ _⟩; have hW := hX.2.2.2.2.2.2.out; have Kp : Hid (World.cell? (World.put w9 (w.heap.size + 1 + 1) false A8 m8 c8 e2) ⟨w.heap.size, 0, none⟩ = some (.bool false)) := (hW.1.1.other (by omega) _ _ _ _ _).c0; clear kb hP8 hW))
  all_goals (
    go_wp2_with fail
    exact bodyPost_ret (v := .agg #[.bool false, .slice A8 m8 c8, .int .i64 e2]) (by simp [results, Tryd.results57, go_sem, u0, u1, u2]) rfl Hfin.out)

set_option maxHeartbeats 1000000 in
theorem radd_ge_G (x y q : Nat) (A : Option Addr) (n c : Nat) (ds : List Nat) (e1 : Int) (B : Option Addr) (m d : Nat) (es : List Nat) (e2 : Int) (w : World) (hA : Dig w A n c ds) (hB : Dig w B m d es) (ba : D.Bare ds) (bb : D.Bare es) (hn : n ≤ 1000) (hm : m ≤ 1000) (hn0 : n ≠ 0) (hm0 : m ≠ 0)
    (hd : e2 - e1 = (q : Int)) (hq : q ≤ 4000) (hx : Hid (D.val ds = x)) (hy : Hid (D.val es * 2 ^ q = y)) (ho : y ≤ x) :
    Calls Tryd.prog 57 #[.agg #[.bool false, .slice A n c, .int .i64 e1], .agg #[.bool true, .slice B m d, .int .i64 e2]] w (NTold w ⟨false, x - y, e1⟩ 100001) := by
  have h0 : HS3 w w.heap.size false A n c ds e1 (w.heap.size + 1) true B m d es e2 (w.heap.size + 1 + 1) _ := HN.start3 w false A n c ds e1 true B m d es e2 hA hB
  have K0 := Lib.hid (h0.below (below_drew _)).cells
  have HP1 : Hid (∀ u, CellsS w w.heap.size false A n c ds e1 (w.heap.size + 1) true B m d es e2 (w.heap.size + 1 + 1) u → Calls Tryd.prog 75 #[.slice A n c, .int .i64 0] u fun e w' => ∃ (A6 : Option Addr) (m6 c6 : Nat) (ps : List Nat), e = .returned (.slice A6 m6 c6) ∧ m6 ≤ 100000 ∧ CellsS w w.heap.size false A n c ds e1 (w.heap.size + 1) true B m d es e2 (w.heap.size + 1 + 1) w' ∧ Hid (Dig w' A6 m6 c6 ps ∧ D.Bare ps ∧ D.val ps = x ∧ Below u.heap.size u w')) := fun u hu => by
    have h := hu.2.2.2.2.2.2.out
    have this := rshl_any A n c ds 0 u h.1.2.2.1 ba (by omega) (by omega)
    rw [show ((0 : Nat) : Int) = 0 from rfl, Nat.pow_zero, Nat.mul_one] at this
    rw [hx.out] at this
    refine this.mono ?_
    rintro e w' ⟨A6, m6, c6, ps, rfl, q1, q2, q3, q4, q5⟩
    exact ⟨A6, m6, c6, ps, rfl, q1, (h.below q5).cells, q2, q3, q4, q5⟩
  have HP2 : Hid (∀ u, CellsS w w.heap.size false A n c ds e1 (w.heap.size + 1) true B m d es e2 (w.heap.size + 1 + 1) u → Calls Tryd.prog 75 #[.slice B m d, .int .i64 (q : Int)] u fun e w' => ∃ (A6 : Option Addr) (m6 c6 : Nat) (ps : List Nat), e = .returned (.slice A6 m6 c6) ∧ m6 ≤ 100000 ∧ CellsS w w.heap.size false A n c ds e1 (w.heap.size + 1) true B m d es e2 (w.heap.size + 1 + 1) w' ∧ Hid (Dig w' A6 m6 c6 ps ∧ D.Bare ps ∧ D.val ps = y ∧ Below u.heap.size u w')) := fun u hu => by
    have h := hu.2.2.2.2.2.2.out
    have this := rshl_any B m d es q u h.1.2.2.2.1 bb (by omega) (by omega)
    rw [hy.out] at this
    refine this.mono ?_
    rintro e w' ⟨A6, m6, c6, ps, rfl, q1, q2, q3, q4, q5⟩
    exact ⟨A6, m6, c6, ps, rfl, q1, (h.below q5).cells, q2, q3, q4, q5⟩
  have hwq : IntKind.i64.wrap (q : Int) = (q : Int) := by rw [IntKind.wrap_i64]; omega
  have hw0 : IntKind.i64.wrap 0 = 0 := by decide
  have c1 : ((n : Int) == 0) = false := beq_no (by omega)
  have c2 : ((m : Int) == 0) = false := beq_no (by omega)
  have x1 := h0.1.1.c1
  have x2 := h0.1.1.c2
  have y1 := h0.1.2.1.c1
  have y2 := h0.1.2.1.c2
  have b1 : decide (e2 < e1) = false := decide_eq_false (by omega)
  clear hA hB ba bb hx hy h0 hn0 hm0
  go_enter Tryd.func57, Tryd.ntmps57
  go_wp2_with fail
  go_region_held3 (fun w' => w'.cell? ⟨w.heap.size, 0, none⟩ = some (.bool false) ∧ w'.cell? ⟨w.heap.size, 1, none⟩ = some (.slice A n c) ∧ w'.cell? ⟨w.heap.size, 2, none⟩ = some (.int .i64 e1) ∧ w'.cell? ⟨w.heap.size + 1, 0, none⟩ = some (.bool true) ∧ w'.cell? ⟨w.heap.size + 1, 1, none⟩ = some (.slice B m d) ∧ w'.cell? ⟨w.heap.size + 1, 2, none⟩ = some (.int .i64 e2) ∧ Hid (HS3 w w.heap.size false A n c ds e1 (w.heap.size + 1) true B m d es e2 (w.heap.size + 1 + 1) w'))
    (first | (with_reducible exact K0.out) | (with_reducible assumption))
    (first | (go_at_call 75; (with_reducible refine (HP1.out _ (by first | (with_reducible exact K0.out) | (with_reducible assumption))).mono ?_); rintro e w1 ⟨A6, m6, c6, ps, rfl, hm6, hY, hP6⟩) | (go_at_call 75; (with_reducible refine (HP2.out _ (by first | (with_reducible exact K0.out) | (with_reducible assumption))).mono ?_); rintro e w2 ⟨A7, m7, c7, qs, rfl, hm7, hZ, hP7⟩))
  have G1 := hP6.out.1.below hP7.out.2.2.2
  have G2 := hP7.out.1
  have HZ := Lib.hid hZ.2.2.2.2.2.2.out
  have HB := Lib.hid (And.intro hP6.out.2.1 (And.intro hP6.out.2.2.1 (And.intro hP7.out.2.1 hP7.out.2.2.1)))
  have Z0 := Lib.hid (HZ.out.below (below_drew _)).cells
  have HC : Hid (∀ u, Dig u A6 m6 c6 ps → Dig u A7 m7 c7 qs → CellsS w w.heap.size false A n c ds e1 (w.heap.size + 1) true B m d es e2 (w.heap.size + 1 + 1) u → Calls Tryd.prog 78 #[.slice A6 m6 c6, .slice A7 m7 c7] u fun e w' => ∃ (A8 : Option Addr) (m8 c8 : Nat) (rs : List Nat), e = .returned (.slice A8 m8 c8) ∧ m8 ≤ 100001 ∧ CellsS w w.heap.size false A n c ds e1 (w.heap.size + 1) true B m d es e2 (w.heap.size + 1 + 1) w' ∧ Hid (Dig w' A8 m8 c8 rs ∧ D.Bare rs ∧ D.val rs = x - y)) := fun u d1 d2 hu => by
    have h := hu.2.2.2.2.2.2.out
    refine (rsub_any A6 m6 c6 ps A7 m7 c7 qs u d1 d2 HB.out.2.2.1 (by rw [HB.out.2.1, HB.out.2.2.2]; exact ho) (by omega) (by omega)).mono ?_
    rintro e w' ⟨A8, m8, c8, rs, rfl, q1, q2, q3, q4, q5⟩
    exact ⟨A8, m8, c8, rs, rfl, by omega, (h.below q5).cells, q2, q3, by rw [q4, HB.out.2.1, HB.out.2.2.2]⟩
  obtain ⟨z, hz⟩ : ∃ z, cmpZ x y = z := ⟨_, rfl⟩
  have HR := rcmp_any A6 m6 c6 ps A7 m7 c7 qs w2 G1 G2 HB.out.1 HB.out.2.2.1 (by omega) (by omega)
  rw [HB.out.2.1, HB.out.2.2.2, hz] at HR
  have HR := Lib.hid HR
  have b3 : decide (0 ≤ z) = true := by
    rw [← hz]
    exact decide_eq_true (by have := cmpZ_bd x y; by_cases h : y < x; (rw [cmpZ_gt h]; decide); (rw [cmpZ_eq (by omega)]; decide))
  have G1h := Lib.hid G1
  have G2h := Lib.hid G2
  clear hz
  clear K0 HP1 HP2 hY hP6 hP7 c1 c2 x1 x2 y1 y2 b1 G1 G2
  obtain ⟨x0, x1, x2, y0, y1, y2, _⟩ := hZ
  go_wp2_with fail
  refine HR.out.mono ?_
  rintro e w3 ⟨rfl, nq, rfl⟩
  have Hq := Lib.hid (HZ.out.below (below_drewN (Below.refl _ _) nq))
  have Zq := Lib.hid (HZ.out.below (below_drewN (Below.refl _ _) (nq + 1))).cells
  have Zr := Lib.hid (Hq.out.below (below_drew _)).cells
  have G1q := Lib.hid (G1h.out.drewN (nq + 1))
  have G2q := Lib.hid (G2h.out.drewN (nq + 1))
  obtain ⟨v0, v1, v2, s0, s1, s2, _⟩ := Hq.out.cells
  clear x0 x1 x2 y0 y1 y2 HR HZ Z0
  go_wp2_with fail
  go_region_held3 (fun w' => w'.cell? ⟨w.heap.size, 0, none⟩ = some (.bool false))
    (first | (with_reducible exact Zq.out.1) | (with_reducible exact Zr.out.1) | (with_reducible exact Kp.out) | (with_reducible exact hX.1))
    ((go_at_call 78; (with_reducible refine (HC.out _ G1q.out G2q.out Zq.out).mono ?_); rintro e w9 ⟨A8, m8, c8, rs, rfl, hm8, hX, hP8⟩; have kb := hX.2.2.2.2.2.2.out.2; have u0 := kb.c0; have u1 := kb.c1; have u2 := kb.c2; have uf := kb.fz; have Hfin : Hid (NTold w ⟨false, x - y, e1⟩ 100001 (.returned (.agg #[.bool false, .slice A8 m8 c8, .int .i64 e1])) (World.put w9 (w.heap.size + 1 + 1) false A8 m8 c8 e1)) := ⟨A8, m8, c8, rs, rfl, hm8, kb.dig hP8.out.1 _ _ _ _ _, hP8.out.2.1, hP8.out.2.2, below_put hX.2.2.2.2.2.2.out.1.2.2.2.2 (by omega) _ _ _ _ _⟩; have hW := hX.2.2.2.2.2.2.out; have Kp : Hid (World.cell? (World.put w9 (w.heap.size + 1 + 1) false A8 m8 c8 e1) ⟨w.heap.size, 0, none⟩ = some (.bool false)) := (hW.1.1.other (by omega) _ _ _ _ _).c0; clear kb hP8 hW))
  all_goals (
    go_wp2_with fail
    exact bodyPost_ret (v := .agg #[.bool false, .slice A8 m8 c8, .int .i64 e1]) (by simp [results, Tryd.results57, go_sem, u0, u1, u2]) rfl Hfin.out)

set_option maxHeartbeats 1000000 in
theorem radd_lt_L (x y q : Nat) (A : Option Addr) (n c : Nat) (ds : List Nat) (e1 : Int) (B : Option Addr) (m d : Nat) (es : List Nat) (e2 : Int) (w : World) (hA : Dig w A n c ds) (hB : Dig w B m d es) (ba : D.Bare ds) (bb : D.Bare es) (hn : n ≤ 1000) (hm : m ≤ 1000) (hn0 : n ≠ 0) (hm0 : m ≠ 0)
    (hd : e1 - e2 = (q : Int)) (hq : q ≤ 4000) (hl : e2 < e1) (hx : Hid (D.val ds * 2 ^ q = x)) (hy : Hid (D.val es = y)) (ho : x < y) :
    Calls Tryd.prog 57 #[.agg #[.bool false, .slice A n c, .int .i64 e1], .agg #[.bool true, .slice B m d, .int .i64 e2]] w (NTold w ⟨true, y - x, e2⟩ 100001) := by
  have h0 : HS3 w w.heap.size false A n c ds e1 (w.heap.size + 1) true B m d es e2 (w.heap.size + 1 + 1) _ := HN.start3 w false A n c ds e1 true B m d es e2 hA hB
  have K0 := Lib.hid (h0.below (below_drew _)).cells
  have HP1 : Hid (∀ u, CellsS w w.heap.size false A n c ds e1 (w.heap.size + 1) true B m d es e2 (w.heap.size + 1 + 1) u → Calls Tryd.prog 75 #[.slice A n c, .int .i64 (q : Int)] u fun e w' => ∃ (A6 : Option Addr) (m6 c6 : Nat) (ps : List Nat), e = .returned (.slice A6 m6 c6) ∧ m6 ≤ 100000 ∧ CellsS w w.heap.size false A n c ds e1 (w.heap.size + 1) true B m d es e2 (w.heap.size + 1 + 1) w' ∧ Hid (Dig w' A6 m6 c6 ps ∧ D.Bare ps ∧ D.val ps = x ∧ Below u.heap.size u w')) := fun u hu => by
    have h := hu.2.2.2.2.2.2.out
    have this := rshl_any A n c ds q u h.1.2.2.1 ba (by omega) (by omega)
    rw [hx.out] at this
    refine this.mono ?_
    rintro e w' ⟨A6, m6, c6, ps, rfl, q1, q2, q3, q4, q5⟩
    exact ⟨A6, m6, c6, ps, rfl, q1, (h.below q5).cells, q2, q3, q4, q5⟩
  have HP2 : Hid (∀ u, CellsS w w.heap.size false A n c ds e1 (w.heap.size + 1) true B m d es e2 (w.heap.size + 1 + 1) u → Calls Tryd.prog 75 #[.slice B m d, .int .i64 0] u fun e w' => ∃ (A6 : Option Addr) (m6 c6 : Nat) (ps : List Nat), e = .returned (.slice A6 m6 c6) ∧ m6 ≤ 100000 ∧ CellsS w w.heap.size false A n c ds e1 (w.heap.size + 1) true B m d es e2 (w.heap.size + 1 + 1) w' ∧ Hid (Dig w' A6 m6 c6 ps ∧ D.Bare ps ∧ D.val ps = y ∧ Below u.heap.size u w')) := fun u hu => by
    have h := hu.2.2.2.2.2.2.out
    have this := rshl_any B m d es 0 u h.1.2.2.2.1 bb (by omega) (by omega)
    rw [show ((0 : Nat) : Int) = 0 from rfl, Nat.pow_zero, Nat.mul_one] at this
    rw [hy.out] at this
    refine this.mono ?_
    rintro e w' ⟨A6, m6, c6, ps, rfl, q1, q2, q3, q4, q5⟩
    exact ⟨A6, m6, c6, ps, rfl, q1, (h.below q5).cells, q2, q3, q4, q5⟩
  have hwq : IntKind.i64.wrap (q : Int) = (q : Int) := by rw [IntKind.wrap_i64]; omega
  have hw0 : IntKind.i64.wrap 0 = 0 := by decide
  have c1 : ((n : Int) == 0) = false := beq_no (by omega)
  have c2 : ((m : Int) == 0) = false := beq_no (by omega)
  have x1 := h0.1.1.c1
  have x2 := h0.1.1.c2
  have y1 := h0.1.2.1.c1
  have y2 := h0.1.2.1.c2
  have b1 : decide (e2 < e1) = true := decide_eq_true hl
  clear hA hB ba bb hx hy h0 hl hn0 hm0
  go_enter Tryd.func57, Tryd.ntmps57
  go_wp2_with fail
  go_region_held3 (fun w' => w'.cell? ⟨w.heap.size, 0, none⟩ = some (.bool false) ∧ w'.cell? ⟨w.heap.size, 1, none⟩ = some (.slice A n c) ∧ w'.cell? ⟨w.heap.size, 2, none⟩ = some (.int .i64 e1) ∧ w'.cell? ⟨w.heap.size + 1, 0, none⟩ = some (.bool true) ∧ w'.cell? ⟨w.heap.size + 1, 1, none⟩ = some (.slice B m d) ∧ w'.cell? ⟨w.heap.size + 1, 2, none⟩ = some (.int .i64 e2) ∧ Hid (HS3 w w.heap.size false A n c ds e1 (w.heap.size + 1) true B m d es e2 (w.heap.size + 1 + 1) w'))
    (first | (with_reducible exact K0.out) | (with_reducible assumption))
    (first | (go_at_call 75; (with_reducible refine (HP1.out _ (by first | (with_reducible exact K0.out) | (with_reducible assumption))).mono ?_); rintro e w1 ⟨A6, m6, c6, ps, rfl, hm6, hY, hP6⟩) | (go_at_call 75; (with_reducible refine (HP2.out _ (by first | (with_reducible exact K0.out) | (with_reducible assumption))).mono ?_); rintro e w2 ⟨A7, m7, c7, qs, rfl, hm7, hZ, hP7⟩))
  have G1 := hP6.out.1.below hP7.out.2.2.2
  have G2 := hP7.out.1
  have HZ := Lib.hid hZ.2.2.2.2.2.2.out
  have HB := Lib.hid (And.intro hP6.out.2.1 (And.intro hP6.out.2.2.1 (And.intro hP7.out.2.1 hP7.out.2.2.1)))
  have Z0 := Lib.hid (HZ.out.below (below_drew _)).cells
  have HC : Hid (∀ u, Dig u A6 m6 c6 ps → Dig u A7 m7 c7 qs → CellsS w w.heap.size false A n c ds e1 (w.heap.size + 1) true B m d es e2 (w.heap.size + 1 + 1) u → Calls Tryd.prog 78 #[.slice A7 m7 c7, .slice A6 m6 c6] u fun e w' => ∃ (A8 : Option Addr) (m8 c8 : Nat) (rs : List Nat), e = .returned (.slice A8 m8 c8) ∧ m8 ≤ 100001 ∧ CellsS w w.heap.size false A n c ds e1 (w.heap.size + 1) true B m d es e2 (w.heap.size + 1 + 1) w' ∧ Hid (Dig w' A8 m8 c8 rs ∧ D.Bare rs ∧ D.val rs = y - x)) := fun u d1 d2 hu => by
    have h := hu.2.2.2.2.2.2.out
    refine (rsub_any A7 m7 c7 qs A6 m6 c6 ps u d2 d1 HB.out.1 (by rw [HB.out.2.1, HB.out.2.2.2]; omega) (by omega) (by omega)).mono ?_
    rintro e w' ⟨A8, m8, c8, rs, rfl, q1, q2, q3, q4, q5⟩
    exact ⟨A8, m8, c8, rs, rfl, by omega, (h.below q5).cells, q2, q3, by rw [q4, HB.out.2.1, HB.out.2.2.2]⟩
  obtain ⟨z, hz⟩ : ∃ z, cmpZ x y = z := ⟨_, rfl⟩
  have HR := rcmp_any A6 m6 c6 ps A7 m7 c7 qs w2 G1 G2 HB.out.1 HB.out.2.2.1 (by omega) (by omega)
  rw [HB.out.2.1, HB.out.2.2.2, hz] at HR
  have HR := Lib.hid HR
  have b3 : decide (0 ≤ z) = false := by
    rw [← hz]
    rw [cmpZ_lt ho]; rfl
  have G1h := Lib.hid G1
  have G2h := Lib.hid G2
  clear hz
  clear K0 HP1 HP2 hY hP6 hP7 c1 c2 x1 x2 y1 y2 b1 G1 G2
  obtain ⟨x0, x1, x2, y0, y1, y2, _⟩ := hZ
  go_wp2_with fail
  refine HR.out.mono ?_
  rintro e w3 ⟨rfl, nq, rfl⟩
  have Hq := Lib.hid (HZ.out.below (below_drewN (Below.refl _ _) nq))
  have Zq := Lib.hid (HZ.out.below (below_drewN (Below.refl _ _) (nq + 1))).cells
  have Zr := Lib.hid (Hq.out.below (below_drew _)).cells
  have G1q := Lib.hid (G1h.out.drewN (nq + 1))
  have G2q := Lib.hid (G2h.out.drewN (nq + 1))
  obtain ⟨v0, v1, v2, s0, s1, s2, _⟩ := Hq.out.cells
  clear x0 x1 x2 y0 y1 y2 HR HZ Z0
  go_wp2_with fail
  go_region_held3 (fun w' => w'.cell? ⟨w.heap.size + 1, 0, none⟩ = some (.bool true))
    (first | (with_reducible exact Zq.out.2.2.2.1) | (with_reducible exact Zr.out.2.2.2.1) | (with_reducible exact Kp.out) | (with_reducible exact hX.2.2.2.1))
    ((go_at_call 78; (with_reducible refine (HC.out _ G1q.out G2q.out Zq.out).mono ?_); rintro e w9 ⟨A8, m8, c8, rs, rfl, hm8, hX, hP8⟩; have kb := hX.2.2.2.2.2.2.out.2; have u0 := kb.c0; have u1 := kb.c1; have u2 := kb.c2; have uf := kb.fz; have Hfin : Hid (NTold w ⟨true, y - x, e2⟩ 100001 (.returned (.agg #[.bool true, .slice A8 m8 c8, .int .i64 e2])) (World.put w9 (w.heap.size + 1 + 1) true A8 m8 c8 e2)) := ⟨A8, m8, c8, rs, rfl, hm8, kb.dig hP8.out.1 _ _ _ _ _, hP8.out.2.1, hP8.out.2.2, below_put hX.2.2.2.2.2.2.out.1.2.2.2.2 (by omega) _ _ _ _ _⟩; have hW := hX.2.2.2.2.2.2.out; have Kp : Hid (World.cell? (World.put w9 (w.heap.size + 1 + 1) true A8 m8 c8 e2) ⟨w.heap.size + 1, 0, none⟩ = some (.bool true)) := (hW.1.2.1.other (by omega) _ _ _ _ _).c0; clear kb hP8 hW))
  all_goals (
    go_wp2_with fail
    exact bodyPost_ret (v := .agg #[.bool true, .slice A8 m8 c8, .int .i64 e2]) (by simp [results, Tryd.results57, go_sem, u0, u1, u2]) rfl Hfin.out)

set_option maxHeartbeats 1000000 in
theorem radd_lt_G (x y q : Nat) (A : Option Addr) (n c : Nat) (ds : List Nat) (e1 : Int) (B : Option Addr) (m d : Nat) (es : List Nat) (e2 : Int) (w : World) (hA : Dig w A n c ds) (hB : Dig w B m d es) (ba : D.Bare ds) (bb : D.Bare es) (hn : n ≤ 1000) (hm : m ≤ 1000) (hn0 : n ≠ 0) (hm0 : m ≠ 0)
    (hd : e2 - e1 = (q : Int)) (hq : q ≤ 4000) (hx : Hid (D.val ds = x)) (hy : Hid (D.val es * 2 ^ q = y)) (ho : x < y) :
    Calls Tryd.prog 57 #[.agg #[.bool false, .slice A n c, .int .i64 e1], .agg #[.bool true, .slice B m d, .int .i64 e2]] w (NTold w ⟨true, y - x, e1⟩ 100001) := by
  have h0 : HS3 w w.heap.size false A n c ds e1 (w.heap.size + 1) true B m d es e2 (w.heap.size + 1 + 1) _ := HN.start3 w false A n c ds e1 true B m d es e2 hA hB
  have K0 := Lib.hid (h0.below (below_drew _)).cells
  have HP1 : Hid (∀ u, CellsS w w.heap.size false A n c ds e1 (w.heap.size + 1) true B m d es e2 (w.heap.size + 1 + 1) u → Calls Tryd.prog 75 #[.slice A n c, .int .i64 0] u fun e w' => ∃ (A6 : Option Addr) (m6 c6 : Nat) (ps : List Nat), e = .returned (.slice A6 m6 c6) ∧ m6 ≤ 100000 ∧ CellsS w w.heap.size false A n c ds e1 (w.heap.size + 1) true B m d es e2 (w.heap.size + 1 + 1) w' ∧ Hid (Dig w' A6 m6 c6 ps ∧ D.Bare ps ∧ D.val ps = x ∧ Below u.heap.size u w')) := fun u hu => by
    have h := hu.2.2.2.2.2.2.out
    have this := rshl_any A n c ds 0 u h.1.2.2.1 ba (by omega) (by omega)
    rw [show ((0 : Nat) : Int) = 0 from rfl, Nat.pow_zero, Nat.mul_one] at this
    rw [hx.out] at this
    refine this.mono ?_
    rintro e w' ⟨A6, m6, c6, ps, rfl, q1, q2, q3, q4, q5⟩
    exact ⟨A6, m6, c6, ps, rfl, q1, (h.below q5).cells, q2, q3, q4, q5⟩
  have HP2 : Hid (∀ u, CellsS w w.heap.size false A n c ds e1 (w.heap.size + 1) true B m d es e2 (w.heap.size + 1 + 1) u → Calls Tryd.prog 75 #[.slice B m d, .int .i64 (q : Int)] u fun e w' => ∃ (A6 : Option Addr) (m6 c6 : Nat) (ps : List Nat), e = .returned (.slice A6 m6 c6) ∧ m6 ≤ 100000 ∧ CellsS w w.heap.size false A n c ds e1 (w.heap.size + 1) true B m d es e2 (w.heap.size + 1 + 1) w' ∧ Hid (Dig w' A6 m6 c6 ps ∧ D.Bare ps ∧ D.val ps = y ∧ Below u.heap.size u w')) := fun u hu => by
    have h := hu.2.2.2.2.2.2.out
    have this := rshl_any B m d es q u h.1.2.2.2.1 bb (by omega) (by omega)
    rw [hy.out] at this
    refine this.mono ?_
    rintro e w' ⟨A6, m6, c6, ps, rfl, q1, q2, q3, q4, q5⟩
    exact ⟨A6, m6, c6, ps, rfl, q1, (h.below q5).cells, q2, q3, q4, q5⟩
  have hwq : IntKind.i64.wrap (q : Int) = (q : Int) := by rw [IntKind.wrap_i64]; omega
  have hw0 : IntKind.i64.wrap 0 = 0 := by decide
  have c1 : ((n : Int) == 0) = false := beq_no (by omega)
  have c2 : ((m : Int) == 0) = false := beq_no (by omega)
  have x1 := h0.1.1.c1
  have x2 := h0.1.1.c2
  have y1 := h0.1.2.1.c1
  have y2 := h0.1.2.1.c2
  have b1 : decide (e2 < e1) = false := decide_eq_false (by omega)
  clear hA hB ba bb hx hy h0 hn0 hm0
  go_enter Tryd.func57, Tryd.ntmps57
  go_wp2_with fail
  go_region_held3 (fun w' => w'.cell? ⟨w.heap.size, 0, none⟩ = some (.bool false) ∧ w'.cell? ⟨w.heap.size, 1, none⟩ = some (.slice A n c) ∧ w'.cell? ⟨w.heap.size, 2, none⟩ = some (.int .i64 e1) ∧ w'.cell? ⟨w.heap.size + 1, 0, none⟩ = some (.bool true) ∧ w'.cell? ⟨w.heap.size + 1, 1, none⟩ = some (.slice B m d) ∧ w'.cell? ⟨w.heap.size + 1, 2, none⟩ = some (.int .i64 e2) ∧ Hid (HS3 w w.heap.size false A n c ds e1 (w.heap.size + 1) true B m d es e2 (w.heap.size + 1 + 1) w'))
    (first | (with_reducible exact K0.out) | (with_reducible assumption))
    (first | (go_at_call 75; (with_reducible refine (HP1.out _ (by first | (with_reducible exact K0.out) | (with_reducible assumption))).mono ?_); rintro e w1 ⟨A6, m6, c6, ps, rfl, hm6, hY, hP6⟩) | (go_at_call 75; (with_reducible refine (HP2.out _ (by first | (with_reducible exact K0.out) | (with_reducible assumption))).mono ?_); rintro e w2 ⟨A7, m7, c7, qs, rfl, hm7, hZ, hP7⟩))
  have G1 := hP6.out.1.below hP7.out.2.2.2
  have G2 := hP7.out.1
  have HZ := Lib.hid hZ.2.2.2.2.2.2.out
  have HB := Lib.hid (And.intro hP6.out.2.1 (And.intro hP6.out.2.2.1 (And.intro hP7.out.2.1 hP7.out.2.2.1)))
  have Z0 := Lib.hid (HZ.out.below (below_drew _)).cells
  have HC : Hid (∀ u, Dig u A6 m6 c6 ps → Dig u A7 m7 c7 qs → CellsS w w.heap.size false A n c ds e1 (w.heap.size + 1) true B m d es e2 (w.heap.size + 1 + 1) u → Calls Tryd.prog 78 #[.slice A7 m7 c7, .slice A6 m6 c6] u fun e w' => ∃ (A8 : Option Addr) (m8 c8 : Nat) (rs : List Nat), e = .returned (.slice A8 m8 c8) ∧ m8 ≤ 100001 ∧ CellsS w w.heap.size false A n c ds e1 (w.heap.size + 1) true B m d es e2 (w.heap.size + 1 + 1) w' ∧ Hid (Dig w' A8 m8 c8 rs ∧ D.Bare rs ∧ D.val rs = y - x)) := fun u d1 d2 hu => by
    have h := hu.2.2.2.2.2.2.out
    refine (rsub_any A7 m7 c7 qs A6 m6 c6 ps u d2 d1 HB.out.1 (by rw [HB.out.2.1, HB.out.2.2.2]; omega) (by omega) (by omega)).mono ?_
    rintro e w' ⟨A8, m8, c8, rs, rfl, q1, q2, q3, q4, q5⟩
    exact ⟨A8, m8, c8, rs, rfl, by omega, (h.below q5).cells, q2, q3, by rw [q4, HB.out.2.1, HB.out.2.2.2]⟩
  obtain ⟨z, hz⟩ : ∃ z, cmpZ x y = z := ⟨_, rfl⟩
  have HR := rcmp_any A6 m6 c6 ps A7 m7 c7 qs w2 G1 G2 HB.out.1 HB.out.2.2.1 (by omega) (by omega)
  rw [HB.out.2.1, HB.out.2.2.2, hz] at HR
  have HR := Lib.hid HR
  have b3 : decide (0 ≤ z) = false := by
    rw [← hz]
    rw [cmpZ_lt ho]; rfl
  have G1h := Lib.hid G1
  have G2h := Lib.hid G2
  clear hz
  clear K0 HP1 HP2 hY hP6 hP7 c1 c2 x1 x2 y1 y2 b1 G1 G2
  obtain ⟨x0, x1, x2, y0, y1, y2, _⟩ := hZ
  go_wp2_with fail
  refine HR.out.mono ?_
  rintro e w3 ⟨rfl, nq, rfl⟩
  have Hq := Lib.hid (HZ.out.below (below_drewN (Below.refl _ _) nq))
  have Zq := Lib.hid (HZ.out.below (below_drewN (Below.refl _ _) (nq + 1))).cells
  have Zr := Lib.hid (Hq.out.below (below_drew _)).cells
  have G1q := Lib.hid (G1h.out.drewN (nq + 1))
  have G2q := Lib.hid (G2h.out.drewN (nq + 1))
  obtain ⟨v0, v1, v2, s0, s1, s2, _⟩ := Hq.out.cells
  clear x0 x1 x2 y0 y1 y2 HR HZ Z0
  go_wp2_with fail
  go_region_held3 (fun w' => w'.cell? ⟨w.heap.size + 1, 0, none⟩ = some (.bool true))
    (first | (with_reducible exact Zq.out.2.2.2.1) | (with_reducible exact Zr.out.2.2.2.1) | (with_reducible exact Kp.out) | (with_reducible exact hX.2.2.2.1))
    ((go_at_call 78; (with_reducible refine (HC.out _ G1q.out G2q.out Zq.out).mono ?_); rintro e w9 ⟨A8, m8, c8, rs, rfl, hm8, hX, hP8⟩; have kb := hX.2.2.2.2.2.2.out.2; have u0 := kb.c0; have u1 := kb.c1; have u2 := kb.c2; have uf := kb.fz; have Hfin : Hid (NTold w ⟨true, y - x, e1⟩ 100001 (.returned (.agg #[.bool true, .slice A8 m8 c8, .int .i64 e1])) (World.put w9 (w.heap.size + 1 + 1) true A8 m8 c8 e1)) := ⟨A8, m8, c8, rs, rfl, hm8, kb.dig hP8.out.1 _ _ _ _ _, hP8.out.2.1, hP8.out.2.2, below_put hX.2.2.2.2.2.2.out.1.2.2.2.2 (by omega) _ _ _ _ _⟩; have hW := hX.2.2.2.2.2.2.out; have Kp : Hid (World.cell? (World.put w9 (w.heap.size + 1 + 1) true A8 m8 c8 e1) ⟨w.heap.size + 1, 0, none⟩ = some (.bool true)) := (hW.1.2.1.other (by omega) _ _ _ _ _).c0; clear kb hP8 hW))
  all_goals (
    go_wp2_with fail
    exact bodyPost_ret (v := .agg #[.bool true, .slice A8 m8 c8, .int .i64 e1]) (by simp [results, Tryd.results57, go_sem, u0, u1, u2]) rfl Hfin.out)

end Go.Proofs.YtjdlnfmeciodnaaDoor

/- The document's numbers: planimeterref05.Cmp of two that aren't below 0, the second one above it. -/
namespace Go.Proofs.YtjdlnfmeciodnaaDoor
open Go.RowKit

section
variable {w : World} {b t : Nat} {g : Bool} {A : Option Addr} {n c : Nat} {e : Int}
theorem neg_heap (w : World) (b : Nat) (v : Value) (k : Nat) (hk : k ≠ b) : (w.setCell ⟨b, 0, none⟩ v).heap[k]? = w.heap[k]? := Below.heap_setCell _ _ _ _ hk
theorem neg_size (w : World) (b : Nat) (v : Value) : (w.setCell ⟨b, 0, none⟩ v).heap.size = w.heap.size := by simp [World.setCell]
theorem Bd.neg_ (h : Bd w b t g A n c e) (g' : Bool) : Bd (w.setCell ⟨b, 0, none⟩ (.bool g')) b t g' A n c e := by
  unfold Bd at h ⊢
  simp [World.setCell, Array.getElem?_modify, h]
theorem Bd.neg_other (h : Bd w b t g A n c e) {b' : Nat} (hb : b ≠ b') (v : Value) : Bd (w.setCell ⟨b', 0, none⟩ v) b t g A n c e := by
  unfold Bd; rw [neg_heap _ _ _ _ hb]; exact h
theorem Bd.neg_dig (h : Bd w b t g A n c e) {A1 : Option Addr} {n1 c1 : Nat} {ds : List Nat} (hA : Dig w A1 n1 c1 ds) (v : Value) : Dig (w.setCell ⟨b, 0, none⟩ v) A1 n1 c1 ds :=
  ⟨⟨hA.1.1, hA.1.2.1, fun hn => by
    obtain ⟨k, o, ek, hk, hc⟩ := hA.at_ hn
    have hne : k ≠ b := by
      rintro rfl
      have := h.not (hc 0 hn)
      cases this
    exact ⟨k, o, ek, by rw [neg_size]; exact hk, fun j hj => by rw [World.cell?_of_block (w := w) (neg_heap w b v k hne)]; exact hc j hj⟩⟩, hA.2⟩
end

theorem sz_both {V U q : Nat} {e1 e2 : Int} (h1 : -1073741824 ≤ e2) (h2 : e1 ≤ 1073741824) (hq : e1 - e2 = (q : Int)) : cmpZ (sz V e1) (sz U e2) = cmpZ (V * 2 ^ q) U := by
  have hh : held e1 = held e2 + q := by rw [held_id (by omega) h2, held_id h1 (by omega)]; omega
  rw [sz_shift hh]
  unfold sz
  exact cmpZ_times (Nat.two_pow_pos _)
theorem cmpZ_anti (x y : Nat) : cmpZ y x = - cmpZ x y := by
  rcases Nat.lt_trichotomy x y with h | h | h
  · rw [cmpZ_gt h, cmpZ_lt h]; rfl
  · rw [cmpZ_eq h, cmpZ_eq h.symm]; rfl
  · rw [cmpZ_lt h, cmpZ_gt h]
theorem sgD_ge {x y : Nat} (h : y ≤ x) : sgD false (x - y) = cmpZ x y := by
  unfold sgD
  by_cases he : x = y
  · rw [if_pos (by omega), cmpZ_eq he]
  · rw [if_neg (by omega), cmpZ_gt (by omega)]; rfl
theorem sgD_lt {x y : Nat} (h : x < y) : sgD true (y - x) = cmpZ x y := by
  unfold sgD
  rw [if_neg (by omega), cmpZ_lt h]; rfl

/-- One less another: its sign tells the order. -/
theorem radd_less (v : Int) (A : Option Addr) (n c : Nat) (ds : List Nat) (e1 : Int) (B : Option Addr) (m d : Nat) (es : List Nat) (e2 : Int) (w : World) (hA : Dig w A n c ds) (hB : Dig w B m d es) (ba : D.Bare ds) (bb : D.Bare es) (hn : n ≤ 1000) (hm : m ≤ 1000) (hn0 : n ≠ 0) (hm0 : m ≠ 0)
    (h1 : -1073741824 ≤ e1) (h2 : e1 ≤ 1073741824) (h3 : -1073741824 ≤ e2) (h4 : e2 ≤ 1073741824) (h5 : e1 ≤ e2 + 4000) (h6 : e2 ≤ e1 + 4000) (hv : cmpZ (sz (D.val ds) e1) (sz (D.val es) e2) = v) :
    Calls Tryd.prog 57 #[.agg #[.bool false, .slice A n c, .int .i64 e1], .agg #[.bool true, .slice B m d, .int .i64 e2]] w fun e w' => ∃ (o : Dy), NTold w o 100001 e w' ∧ sgD o.neg o.V = v := by
  by_cases hl : e2 < e1
  · obtain ⟨q, hq⟩ : ∃ q : Nat, e1 - e2 = (q : Int) := ⟨(e1 - e2).toNat, by omega⟩
    rw [sz_both h3 h2 hq] at hv
    obtain ⟨x, hx⟩ : ∃ x, D.val ds * 2 ^ q = x := ⟨_, rfl⟩
    obtain ⟨y, hy⟩ : ∃ y, D.val es = y := ⟨_, rfl⟩
    rw [hx, hy] at hv
    rcases Nat.lt_or_ge x y with ho | ho
    · refine (radd_lt_L x y q A n c ds e1 B m d es e2 w hA hB ba bb hn hm hn0 hm0 hq (by omega) hl hx hy ho).mono fun e w' h => ⟨_, h, by rw [← hv]; exact sgD_lt ho⟩
    · refine (radd_ge_L x y q A n c ds e1 B m d es e2 w hA hB ba bb hn hm hn0 hm0 hq (by omega) hl hx hy ho).mono fun e w' h => ⟨_, h, by rw [← hv]; exact sgD_ge ho⟩
  · obtain ⟨q, hq⟩ : ∃ q : Nat, e2 - e1 = (q : Int) := ⟨(e2 - e1).toNat, by omega⟩
    have hv2 : cmpZ (D.val ds) (D.val es * 2 ^ q) = v := by
      rw [cmpZ_anti, sz_both h1 h4 hq] at hv
      rw [cmpZ_anti]; exact hv
    obtain ⟨x, hx⟩ : ∃ x, D.val ds = x := ⟨_, rfl⟩
    obtain ⟨y, hy⟩ : ∃ y, D.val es * 2 ^ q = y := ⟨_, rfl⟩
    rw [hx, hy] at hv2
    rcases Nat.lt_or_ge x y with ho | ho
    · refine (radd_lt_G x y q A n c ds e1 B m d es e2 w hA hB ba bb hn hm hn0 hm0 hq (by omega) hx hy ho).mono fun e w' h => ⟨_, h, by rw [← hv2]; exact sgD_lt ho⟩
    · refine (radd_ge_G x y q A n c ds e1 B m d es e2 w hA hB ba bb hn hm hn0 hm0 hq (by omega) hx hy ho).mono fun e w' h => ⟨_, h, by rw [← hv2]; exact sgD_ge ho⟩

set_option maxHeartbeats 2000000 in
theorem rncmp_l (v : Int) (A : Option Addr) (n c : Nat) (ds : List Nat) (e1 : Int) (B : Option Addr) (m d : Nat) (es : List Nat) (e2 : Int) (w : World) (hA : Dig w A n c ds) (hB : Dig w B m d es) (ba : D.Bare ds) (bb : D.Bare es) (hn : n ≤ 240) (hm : m ≤ 240) (hU : D.val es ≠ 0)
    (h1 : -1073741824 ≤ e1) (h2 : e1 ≤ 1073741824) (h3 : -1073741824 ≤ e2) (h4 : e2 ≤ 1073741824) (hv : Hid (cmpZ (sz (D.val ds) e1) (sz (D.val es) e2) = v)) :
    Calls Tryd.prog 27 #[.agg #[.bool false, .slice A n c, .int .i64 e1], .agg #[.bool false, .slice B m d, .int .i64 e2]] w fun e w' => e = .returned (.int .i64 v) ∧ Below w.heap.size w w' := by
  obtain ⟨s1, hs1⟩ : ∃ s, sgD false (D.val ds) = s := ⟨_, rfl⟩
  have hs2 : sgD false (D.val es) = 1 := by unfold sgD; rw [if_neg hU]; rfl
  have H0 := Lib.hid ((HN.start w false A n c ds e1 false B m d es e2 hA hB).below (below_drew _))
  have HS1 : Hid (∀ u, CellsN w w.heap.size false A n c ds e1 (w.heap.size + 1) false B m d es e2 u → Calls Tryd.prog 55 #[.agg #[.bool false, .slice A n c, .int .i64 e1]] u fun e w' => e = .returned (.int .i64 s1) ∧ CellsN w w.heap.size false A n c ds e1 (w.heap.size + 1) false B m d es e2 w') := fun u hu => by
    have h := hu.2.2.2.2.2.2.out
    refine (rsign_l s1 false A n c ds e1 u h.2.2.1 ba hs1).mono ?_
    rintro e w' ⟨rfl, hb⟩
    exact ⟨rfl, (h.below hb).cells⟩
  have HS2 : Hid (∀ u, CellsN w w.heap.size false A n c ds e1 (w.heap.size + 1) false B m d es e2 u → Calls Tryd.prog 55 #[.agg #[.bool false, .slice B m d, .int .i64 e2]] u fun e w' => e = .returned (.int .i64 1) ∧ CellsN w w.heap.size false A n c ds e1 (w.heap.size + 1) false B m d es e2 w') := fun u hu => by
    have h := hu.2.2.2.2.2.2.out
    refine (rsign_l 1 false B m d es e2 u h.2.2.2.1 bb hs2).mono ?_
    rintro e w' ⟨rfl, hb⟩
    exact ⟨rfl, (h.below hb).cells⟩
  have hz := dnil_iff hA ba
  have hz2 := dnil_iff hB bb
  have lt1 := D.val_lt hA.words
  have lt2 := D.val_lt hB.words
  rw [hA.len, D.pw_two] at lt1
  rw [hB.len, D.pw_two] at lt2
  have bl1 := blen_le_iff.2 lt1
  have bl2 := blen_le_iff.2 lt2
  have hv' := hv.out
  have HBA := Lib.hid ba
  have HBB := Lib.hid bb
  clear hA hB ba bb lt1 lt2 hs2 hv
  by_cases hV : D.val ds = 0
  · obtain rfl : s1 = 0 := by rw [← hs1, hV]; rfl
    obtain rfl : v = -1 := by
      rw [← hv', hV, sz_zero, cmpZ_lt (sz_pos e2 hU)]
    clear hs1 hv' hz hz2 bl1 bl2 hV hU
    go_enter Tryd.func27, Tryd.ntmps27
    go_wp2_with fail
    go_region_held3 (fun w' => w'.cell? ⟨w.heap.size, 0, none⟩ = some (.bool false) ∧ w'.cell? ⟨w.heap.size, 1, none⟩ = some (.slice A n c) ∧ w'.cell? ⟨w.heap.size, 2, none⟩ = some (.int .i64 e1) ∧ w'.cell? ⟨w.heap.size + 1, 0, none⟩ = some (.bool false) ∧ w'.cell? ⟨w.heap.size + 1, 1, none⟩ = some (.slice B m d) ∧ w'.cell? ⟨w.heap.size + 1, 2, none⟩ = some (.int .i64 e2) ∧ Hid (HN w w.heap.size false A n c ds e1 (w.heap.size + 1) false B m d es e2 w'))
      (first | (with_reducible exact H0.out.cells) | (with_reducible assumption))
      (first | (go_at_call 55; (with_reducible refine (HS1.out _ (by with_reducible assumption)).mono ?_); rintro e w1 ⟨rfl, hY⟩) | (go_at_call 55; (with_reducible refine (HS2.out _ (by with_reducible assumption)).mono ?_); rintro e w2 ⟨rfl, hZ⟩))
    have HF := Lib.hid hZ.2.2.2.2.2.2.out.2.2.2.2
    clear hY hZ HS1 HS2 H0
    go_wp2_with fail
    go_ret
    exact ⟨rfl, HF.out⟩
  · obtain rfl : s1 = 1 := by rw [← hs1]; unfold sgD; rw [if_neg hV]; rfl
    have hn0 : n ≠ 0 := fun h => hV (hz.1 h)
    have hm0 : m ≠ 0 := fun h => hU (hz2.1 h)
    have B1 := blen_pos hV
    have B2 := blen_pos hU
    obtain ⟨t1, ht1⟩ : ∃ t, rtop (D.val ds) e1 = t := ⟨_, rfl⟩
    obtain ⟨t2, ht2⟩ : ∃ t, rtop (D.val es) e2 = t := ⟨_, rfl⟩
    have HT1 : Hid (∀ u, CellsN w w.heap.size false A n c ds e1 (w.heap.size + 1) false B m d es e2 u → Calls Tryd.prog 56 #[.agg #[.bool false, .slice A n c, .int .i64 e1]] u fun e w' => e = .returned (.int .i64 t1) ∧ CellsN w w.heap.size false A n c ds e1 (w.heap.size + 1) false B m d es e2 w') := fun u hu => by
      have h := hu.2.2.2.2.2.2.out
      refine (rtop_l t1 false A n c ds e1 u h.2.2.1 HBA.out (by omega) (by omega) (by omega) ht1).mono ?_
      rintro e w' ⟨rfl, hb⟩
      exact ⟨rfl, (h.below hb).cells⟩
    have HT2 : Hid (∀ u, CellsN w w.heap.size false A n c ds e1 (w.heap.size + 1) false B m d es e2 u → Calls Tryd.prog 56 #[.agg #[.bool false, .slice B m d, .int .i64 e2]] u fun e w' => e = .returned (.int .i64 t2) ∧ CellsN w w.heap.size false A n c ds e1 (w.heap.size + 1) false B m d es e2 w') := fun u hu => by
      have h := hu.2.2.2.2.2.2.out
      refine (rtop_l t2 false B m d es e2 u h.2.2.2.1 HBB.out (by omega) (by omega) (by omega) ht2).mono ?_
      rintro e w' ⟨rfl, hb⟩
      exact ⟨rfl, (h.below hb).cells⟩
    have htt : t1 ≠ t2 → cmpI t1 t2 = v := fun h => by
      have e1' : topD (D.val ds) e1 = t1 := by unfold topD; rw [held_id h1 h2]; exact ht1
      have e2' : topD (D.val es) e2 = t2 := by unfold topD; rw [held_id h3 h4]; exact ht2
      have := cmp_tops (e := e1) (f := e2) hV hU (by rw [e1', e2']; exact h)
      rw [e1', e2'] at this
      rw [this, hv']
    have hnear : t1 = t2 → e1 ≤ e2 + 4000 ∧ e2 ≤ e1 + 4000 := fun h => by
      unfold rtop at ht1 ht2
      omega
    have Hv := Lib.hid hv'
    clear hs1 hv' hz hz2 hV hU ht1 ht2
    go_enter Tryd.func27, Tryd.ntmps27
    go_wp2_with fail
    go_region_held3 (fun w' => w'.cell? ⟨w.heap.size, 0, none⟩ = some (.bool false) ∧ w'.cell? ⟨w.heap.size, 1, none⟩ = some (.slice A n c) ∧ w'.cell? ⟨w.heap.size, 2, none⟩ = some (.int .i64 e1) ∧ w'.cell? ⟨w.heap.size + 1, 0, none⟩ = some (.bool false) ∧ w'.cell? ⟨w.heap.size + 1, 1, none⟩ = some (.slice B m d) ∧ w'.cell? ⟨w.heap.size + 1, 2, none⟩ = some (.int .i64 e2) ∧ Hid (HN w w.heap.size false A n c ds e1 (w.heap.size + 1) false B m d es e2 w'))
      (first | (with_reducible exact H0.out.cells) | (with_reducible assumption))
      (first | (go_at_call 55; (with_reducible refine (HS1.out _ (by with_reducible assumption)).mono ?_); rintro e w1 ⟨rfl, hY⟩) | (go_at_call 55; (with_reducible refine (HS2.out _ (by with_reducible assumption)).mono ?_); rintro e w2 ⟨rfl, hZ⟩))
    have K0 := Lib.hid (hZ.2.2.2.2.2.2.out.below (below_drew _)).cells
    clear hY hZ HS1 HS2 H0
    go_wp2_with fail
    go_region_held3 (fun w' => w'.cell? ⟨w.heap.size, 0, none⟩ = some (.bool false) ∧ w'.cell? ⟨w.heap.size, 1, none⟩ = some (.slice A n c) ∧ w'.cell? ⟨w.heap.size, 2, none⟩ = some (.int .i64 e1) ∧ w'.cell? ⟨w.heap.size + 1, 0, none⟩ = some (.bool false) ∧ w'.cell? ⟨w.heap.size + 1, 1, none⟩ = some (.slice B m d) ∧ w'.cell? ⟨w.heap.size + 1, 2, none⟩ = some (.int .i64 e2) ∧ Hid (HN w w.heap.size false A n c ds e1 (w.heap.size + 1) false B m d es e2 w'))
      (first | (with_reducible exact K0.out) | (with_reducible assumption))
      (first | (go_at_call 56; (with_reducible refine (HT1.out _ (by first | (with_reducible exact K0.out) | (with_reducible assumption))).mono ?_); rintro e w3 ⟨rfl, hY⟩) | (go_at_call 56; (with_reducible refine (HT2.out _ (by with_reducible assumption)).mono ?_); rintro e w4 ⟨rfl, hZ⟩))
    have K4 := Lib.hid (hZ.2.2.2.2.2.2.out.below (below_drew _)).cells
    have H4 := Lib.hid hZ.2.2.2.2.2.2.out
    obtain ⟨x0, x1, x2, y0, y1, y2, _⟩ := hZ
    clear hY K0
    by_cases hq : t1 = t2
    · obtain ⟨hq1, hq2⟩ := hnear hq
      have c1 : (t1 != t2) = false := bne_no hq
      have j1 := H4.out.1.neg_other (b' := w.heap.size + 1) (by omega) (.bool true)
      have j2 := H4.out.2.1.neg_ true
      have j3 := H4.out.2.1.neg_dig H4.out.2.2.1 (.bool true)
      have j4 := H4.out.2.1.neg_dig H4.out.2.2.2.1 (.bool true)
      have j5 := H4.out.2.2.2.2.setCell (p := ⟨w.heap.size + 1, 0, none⟩) (by show w.heap.size ≤ w.heap.size + 1; omega) (.bool true)
      have yf := H4.out.2.1.fz
      have HA := Lib.hid (radd_less v A n c ds e1 B m d es e2 _ j3 j4 HBA.out HBB.out (by omega) (by omega) hn0 hm0 h1 h2 h3 h4 hq1 hq2 Hv.out)
      have HJ := Lib.hid j5
      clear j1 j2 j3 j4 j5 H4 K4 htt hnear hq hq1 hq2 Hv HT1 HT2 HBA HBB bl1 bl2 B1 B2 hn0 hm0
      go_wp2_with fail
      refine HA.out.mono ?_
      rintro e w5 ⟨⟨og, oV, oE⟩, ⟨A5, m5, c5, rs, rfl, hm5, hl5, hd5, hv5, hb5⟩, hs⟩
      have HG := Lib.hid (rsign_l v og A5 m5 c5 rs oE w5 hl5 hd5 (by rw [hv5]; exact hs))
      have HS5 := Lib.hid (HJ.out.trans (hb5.mono HJ.out.size))
      clear hl5 hd5 hv5 hb5 hs HA HJ x0 x1 x2 y0 y1 y2 yf
      go_wp2_with fail
      refine HG.out.mono ?_
      rintro e w6 ⟨rfl, hb6⟩
      have Hfin := Lib.hid (HS5.out.trans (hb6.mono HS5.out.size))
      clear hb6 HS5 HG
      go_wp2
      go_ret
      exact ⟨rfl, Hfin.out⟩
    · have hvv := htt hq
      have c1 : (t1 != t2) = true := bne_yes hq
      clear htt hnear Hv HBA HBB bl1 bl2 B1 B2 hn0 hm0 H4
      rcases Int.lt_or_le t1 t2 with hlt | hge
      · obtain rfl : v = -1 := by rw [← hvv]; exact cmpI_lt hlt
        have b1 : decide (t1 < t2) = true := decide_eq_true hlt
        clear hvv hq hlt
        go_wp2_with fail
        go_region_held3 (fun w' => w'.cell? ⟨w.heap.size, 0, none⟩ = some (.bool false) ∧ w'.cell? ⟨w.heap.size, 1, none⟩ = some (.slice A n c) ∧ w'.cell? ⟨w.heap.size, 2, none⟩ = some (.int .i64 e1) ∧ w'.cell? ⟨w.heap.size + 1, 0, none⟩ = some (.bool false) ∧ w'.cell? ⟨w.heap.size + 1, 1, none⟩ = some (.slice B m d) ∧ w'.cell? ⟨w.heap.size + 1, 2, none⟩ = some (.int .i64 e2) ∧ Hid (HN w w.heap.size false A n c ds e1 (w.heap.size + 1) false B m d es e2 w'))
          (first | (with_reducible exact K4.out) | (with_reducible assumption))
          (first | (go_at_call 56; (with_reducible refine (HT1.out _ (by first | (with_reducible exact K4.out) | (with_reducible assumption))).mono ?_); rintro e w5 ⟨rfl, hY⟩) | (go_at_call 56; (with_reducible refine (HT2.out _ (by with_reducible assumption)).mono ?_); rintro e w6 ⟨rfl, hZ⟩))
        all_goals (
          have HF := Lib.hid hZ.2.2.2.2.2.2.out.2.2.2.2
          clear hY hZ HT1 HT2 K4 x0 x1 x2 y0 y1 y2
          go_wp2_with fail
          go_ret
          exact ⟨rfl, HF.out⟩)
      · obtain rfl : v = 1 := by rw [← hvv]; exact cmpI_gt (by omega)
        have b1 : decide (t1 < t2) = false := decide_eq_false (by omega)
        clear hvv hq hge
        go_wp2_with fail
        go_region_held3 (fun w' => w'.cell? ⟨w.heap.size, 0, none⟩ = some (.bool false) ∧ w'.cell? ⟨w.heap.size, 1, none⟩ = some (.slice A n c) ∧ w'.cell? ⟨w.heap.size, 2, none⟩ = some (.int .i64 e1) ∧ w'.cell? ⟨w.heap.size + 1, 0, none⟩ = some (.bool false) ∧ w'.cell? ⟨w.heap.size + 1, 1, none⟩ = some (.slice B m d) ∧ w'.cell? ⟨w.heap.size + 1, 2, none⟩ = some (.int .i64 e2) ∧ Hid (HN w w.heap.size false A n c ds e1 (w.heap.size + 1) false B m d es e2 w'))
          (first | (with_reducible exact K4.out) | (with_reducible assumption))
          (first | (go_at_call 56; (with_reducible refine (HT1.out _ (by first | (with_reducible exact K4.out) | (with_reducible assumption))).mono ?_); rintro e w5 ⟨rfl, hY⟩) | (go_at_call 56; (with_reducible refine (HT2.out _ (by with_reducible assumption)).mono ?_); rintro e w6 ⟨rfl, hZ⟩))
        all_goals (
          have HF := Lib.hid hZ.2.2.2.2.2.2.out.2.2.2.2
          clear hY hZ HT1 HT2 K4 x0 x1 x2 y0 y1 y2
          go_wp2_with fail
          go_ret
          exact ⟨rfl, HF.out⟩)
end Go.Proofs.YtjdlnfmeciodnaaDoor
