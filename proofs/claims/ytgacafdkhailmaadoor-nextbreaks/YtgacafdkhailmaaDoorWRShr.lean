/- The walks of planimeterref01.Shr and Shl. -/
import Derived.Test.YtgacafdkhailmaaDoorWRBit
namespace Go.Proofs.YtgacafdkhailmaaDoor
open Go.RowKit

/-- Digits, with a second result. -/
def DTells2 (w : World) (V L : Nat) (u : Value) (e : Ending) (w' : World) : Prop :=
  ∃ A m c ds, e = .returned (.tuple #[.slice A m c, u]) ∧ m ≤ L ∧ Dig w' A m c ds ∧ D.Bare ds ∧ D.val ds = V ∧ Below w.heap.size w w'

theorem half_step (V j : Nat) : 2 * (V / 2 ^ (j + 1)) + V / 2 ^ j % 2 = V / 2 ^ j := by
  rw [Nat.pow_succ, ← Nat.div_div_eq_div_mul]
  omega
theorem mod_step (V k : Nat) : V % 2 ^ (k + 1) = V % 2 ^ k + 2 ^ k * (V / 2 ^ k % 2) := by
  rw [Nat.pow_succ, Nat.mod_mul]
theorem rest_step {V k v : Nat} {r : Bool} (hr : r = decide (V % 2 ^ k ≠ 0)) (hv : V / 2 ^ k % 2 = v) : (r || (v == 1)) = decide (V % 2 ^ (k + 1) ≠ 0) := by
  rw [mod_step, hv, hr]
  have hv2 : v < 2 := by rw [← hv]; exact Nat.mod_lt _ (by decide)
  have hp : 0 < 2 ^ k := Nat.pow_pos (by decide)
  have : v = 0 ∨ v = 1 := by omega
  rcases this with h | h
  · subst h; simp
  · subst h
    have : V % 2 ^ k + 2 ^ k * 1 ≠ 0 := by omega
    rw [decide_eq_true this]; simp

set_option maxHeartbeats 4000000 in
theorem rshr_pos (A : Option Addr) (n c : Nat) (ds : List Nat) (N : Nat) (hNb : N ≤ 9223372036854775807) (w : World) (hA : Dig w A n c ds) (ba : D.Bare ds) (hn : n ≤ 1000) :
    Calls Tryd.prog 38 #[.slice A n c, .int .i64 (N : Int)] w (DTells2 w (D.val ds / 2 ^ N) 100000 (.bool (decide (D.val ds % 2 ^ N ≠ 0)))) := by
  obtain ⟨V, hV⟩ : ∃ V, D.val ds = V := ⟨_, rfl⟩
  obtain ⟨R, hR⟩ : ∃ R, decide (V % 2 ^ N ≠ 0) = R := ⟨_, rfl⟩
  obtain ⟨Q, hQ⟩ : ∃ Q, V / 2 ^ N = Q := ⟨_, rfl⟩
  rw [hV, hR, hQ]
  have HR := Lib.hid hR
  have HQ := Lib.hid hQ
  have HV := Lib.hid hV
  have HA := Lib.hid hA
  obtain ⟨bl, hbl⟩ : ∃ bl, blen V = bl := ⟨_, rfl⟩
  have hblb : bl ≤ 16 * n := by
    rw [← hbl, ← hV]
    exact blen_le_iff.2 (by rw [← D.pw_two, ← hA.len]; exact D.val_lt hA.words)
  have Hlt : Hid (V < 2 ^ bl) := by rw [← hbl]; exact lt_blen V
  have hbits := rbits_any A n c ds w hA ba (by omega)
  rw [hV, hbl] at hbits
  have Hbits := Lib.hid hbits
  have b0 : decide ((N : Int) < 0) = false := by simp
  clear hR hQ hV hbl hbits hA ba
  go_enter Tryd.func38, Tryd.ntmps38
  go_wp2_with fail
  refine Hbits.out.mono ?_
  rintro e w' ⟨rfl, rfl⟩
  go_wp2_with fail
  clear Hbits b0
  go_loopw [7, 8] (fun v i wr => ∃ (j m1 c1 : Nat) (A1 : Option Addr) (es : List Nat), j ≤ bl ∧ m1 + j ≤ 2 * bl + 5 ∧ i = .int .i64 ((j : Int) - 1) ∧ v = .slice A1 m1 c1 ∧ Hid (N ≤ j ∨ j = bl) ∧ Hid (Dig wr A1 m1 c1 es) ∧ Hid (D.Bare es) ∧ Hid (D.val es = V / 2 ^ j) ∧ Below w.heap.size w wr) (fun _ i _ => (intOf i + 1).toNat)
  case atStart => exact ⟨bl, 0, 0, none, [], Nat.le_refl _, by omega, rfl, rfl, Or.inr rfl, Dig.nil _ _ _, rfl, by rw [Nat.div_eq_of_lt Hlt.out]; rfl, Below.refl _ _⟩
  case round =>
    obtain ⟨j, m1, c1, A1, es, hj, hm1, rfl, rfl, Hj, Hes, Hbe, HE, hb⟩ := hrel
    by_cases hc : N < j
    · obtain ⟨j, rfl⟩ : ∃ j', j = j' + 1 := ⟨j - 1, by omega⟩
      rw [show (((j + 1 : Nat) : Int) - 1) = (j : Int) from by omega]
      obtain ⟨v, hv⟩ : ∃ v, V / 2 ^ j % 2 = v := ⟨_, rfl⟩
      have hv2 : v ≤ 1 := by rw [← hv]; omega
      have hdb := half_step V j
      rw [hv] at hdb
      have Hdb := Lib.hid hdb
      have Hv := Lib.hid hv
      have hbit := rbit_any v A n c ds j wr (HA.out.below hb) (by omega) (by omega) (by rw [HV.out]; exact Hv)
      have Hbit := Lib.hid hbit
      have b2 : decide (N ≤ j) = true := by simp; omega
      clear hbit hdb hv
      go_wp2_with fail
      refine Hbit.out.mono ?_
      rintro e w' ⟨rfl, rfl⟩
      go_wp2_with fail
      refine (rdouble_any A1 m1 c1 es v _ Hes.out Hbe.out hv2 (by omega)).mono ?_
      rintro e w2 ⟨A2, m2, c2, fs, rfl, hm2, hfs, hbf, hvf, hb2⟩
      have Hfs := Lib.hid hfs
      have Hbf := Lib.hid hbf
      have Hvf : Hid (D.val fs = V / 2 ^ j) := by rw [hvf, HE.out]; exact Hdb.out
      have hb3 := hb.trans (hb2.mono hb.size)
      clear hfs hbf hvf hb2
      go_wp2
      go_roundw
      case rel => exact ⟨j, m2, c2, A2, fs, by omega, by omega, by go_num, rfl, Or.inl (by omega), Hfs, Hbf, Hvf, hb3⟩
      case measure => simp [intOf]
    · have HQ2 : Hid (D.val es = Q) := by
        rw [HE.out, ← HQ.out]
        rcases Hj.out with h | h
        · rw [show j = N from by omega]; rfl
        · have h1 := Hlt.out
          rw [h, Nat.div_eq_of_lt h1, Nat.div_eq_of_lt (Nat.lt_of_lt_of_le h1 (Nat.pow_le_pow_right (by decide) (by omega)))]; rfl
      have b2 : decide ((N : Int) ≤ (j : Int) - 1) = false := by simp; omega
      go_wp2_with fail
      clear b2
      go_loop [9, 10] (fun r i => ∃ (k : Nat) (rb : Bool), k ≤ N ∧ k ≤ bl ∧ i = .int .i64 k ∧ r = .bool rb ∧ Hid (rb = decide (V % 2 ^ k ≠ 0))) (fun _ i => bl - (intOf i).toNat)
      case atStart => exact ⟨0, false, Nat.zero_le _, Nat.zero_le _, rfl, rfl, by simp [Hid, Nat.mod_one]⟩
      case round =>
        obtain ⟨k, rb, hk1, hk2, rfl, rfl, Hrb⟩ := hrel
        by_cases hc2 : k < N ∧ k < bl
        · obtain ⟨h1, h2⟩ := hc2
          obtain ⟨v, hv⟩ : ∃ v, V / 2 ^ k % 2 = v := ⟨_, rfl⟩
          have hv2 : v = 0 ∨ v = 1 := by rw [← hv]; omega
          have hst := rest_step Hrb.out hv
          have Hst := Lib.hid hst
          have Hv := Lib.hid hv
          have hbit := rbit_any v A n c ds k wr (HA.out.below hb) (by omega) (by omega) (by rw [HV.out]; exact Hv)
          have Hbit := Lib.hid hbit
          have b3 : decide (k < N) = true := by simp; omega
          have b4 : decide (k < bl) = true := by simp; omega
          clear hbit hst hv
          cases rb with
          | true =>
            clear hv2
            go_wp2
            go_round
            case rel => exact ⟨k + 1, true, by omega, by omega, by go_num, rfl, by have := Hst.out; rw [Bool.true_or] at this; exact this⟩
            case measure => simp [intOf]; omega
          | false =>
            rcases hv2 with rfl | rfl
            · go_wp2_with fail
              refine Hbit.out.mono ?_
              rintro e w' ⟨rfl, rfl⟩
              go_wp2
              go_round
              case rel => exact ⟨k + 1, false, by omega, by omega, by go_num, rfl, Hst.out⟩
              case measure => simp [intOf]; omega
            · go_wp2_with fail
              refine Hbit.out.mono ?_
              rintro e w' ⟨rfl, rfl⟩
              go_wp2
              go_round
              case rel => exact ⟨k + 1, true, by omega, by omega, by go_num, rfl, Hst.out⟩
              case measure => simp [intOf]; omega
        · have HR2 : Hid (rb = R) := by
            rw [Hrb.out, ← HR.out]
            by_cases e : k = N
            · rw [e]; rfl
            · have h1 := Hlt.out
              have ek : k = bl := by omega
              rw [ek, Nat.mod_eq_of_lt h1, Nat.mod_eq_of_lt (Nat.lt_of_lt_of_le h1 (Nat.pow_le_pow_right (by decide) (by omega)))]; rfl
          have g : decide (k < N) = false ∨ (decide (k < N) = true ∧ decide (k < bl) = false) := by
            by_cases e : k < N
            · exact Or.inr ⟨by simp; omega, by simp; omega⟩
            · exact Or.inl (by simp; omega)
          have hfin : DTells2 w Q 100000 (.bool R) (.returned (.tuple #[.slice A1 m1 c1, .bool rb])) wr := by
            rw [HR2.out]
            exact ⟨A1, m1, c1, es, rfl, by omega, Hes.out, Hbe.out, HQ2.out, hb⟩
          have Hfin := Lib.hid hfin
          clear hfin hc2
          rcases g with b3 | ⟨b3, b4⟩
          all_goals
            go_wp2
            go_ret2
            exact Hfin.out

set_option maxHeartbeats 4000000 in
theorem rshr_neg (A : Option Addr) (n c : Nat) (ds : List Nat) (i : Int) (hi : i < 0) (w : World) (hA : Dig w A n c ds) (ba : D.Bare ds) (hn : n ≤ 1000) :
    Calls Tryd.prog 38 #[.slice A n c, .int .i64 i] w (DTells2 w (D.val ds / 2 ^ 0) 100000 (.bool (decide (D.val ds % 2 ^ 0 ≠ 0)))) := by
  obtain ⟨V, hV⟩ : ∃ V, D.val ds = V := ⟨_, rfl⟩
  obtain ⟨R, hR⟩ : ∃ R, decide (V % 2 ^ 0 ≠ 0) = R := ⟨_, rfl⟩
  obtain ⟨Q, hQ⟩ : ∃ Q, V / 2 ^ 0 = Q := ⟨_, rfl⟩
  rw [hV, hR, hQ]
  have HR := Lib.hid hR
  have HQ := Lib.hid hQ
  have HV := Lib.hid hV
  have HA := Lib.hid hA
  obtain ⟨bl, hbl⟩ : ∃ bl, blen V = bl := ⟨_, rfl⟩
  have hblb : bl ≤ 16 * n := by
    rw [← hbl, ← hV]
    exact blen_le_iff.2 (by rw [← D.pw_two, ← hA.len]; exact D.val_lt hA.words)
  have Hlt : Hid (V < 2 ^ bl) := by rw [← hbl]; exact lt_blen V
  have hbits := rbits_any A n c ds w hA ba (by omega)
  rw [hV, hbl] at hbits
  have Hbits := Lib.hid hbits
  have b0 : decide (i < 0) = true := by simpa using hi
  clear hR hQ hV hbl hbits hA ba
  go_enter Tryd.func38, Tryd.ntmps38
  go_wp2_with fail
  refine Hbits.out.mono ?_
  rintro e w' ⟨rfl, rfl⟩
  go_wp2_with fail
  clear Hbits b0
  go_loopw [7, 8] (fun v i wr => ∃ (j m1 c1 : Nat) (A1 : Option Addr) (es : List Nat), j ≤ bl ∧ m1 + j ≤ 2 * bl + 5 ∧ i = .int .i64 ((j : Int) - 1) ∧ v = .slice A1 m1 c1 ∧ Hid (0 ≤ j ∨ j = bl) ∧ Hid (Dig wr A1 m1 c1 es) ∧ Hid (D.Bare es) ∧ Hid (D.val es = V / 2 ^ j) ∧ Below w.heap.size w wr) (fun _ i _ => (intOf i + 1).toNat)
  case atStart => exact ⟨bl, 0, 0, none, [], Nat.le_refl _, by omega, rfl, rfl, Or.inr rfl, Dig.nil _ _ _, rfl, by rw [Nat.div_eq_of_lt Hlt.out]; rfl, Below.refl _ _⟩
  case round =>
    obtain ⟨j, m1, c1, A1, es, hj, hm1, rfl, rfl, Hj, Hes, Hbe, HE, hb⟩ := hrel
    by_cases hc : 0 < j
    · obtain ⟨j, rfl⟩ : ∃ j', j = j' + 1 := ⟨j - 1, by omega⟩
      rw [show (((j + 1 : Nat) : Int) - 1) = (j : Int) from by omega]
      obtain ⟨v, hv⟩ : ∃ v, V / 2 ^ j % 2 = v := ⟨_, rfl⟩
      have hv2 : v ≤ 1 := by rw [← hv]; omega
      have hdb := half_step V j
      rw [hv] at hdb
      have Hdb := Lib.hid hdb
      have Hv := Lib.hid hv
      have hbit := rbit_any v A n c ds j wr (HA.out.below hb) (by omega) (by omega) (by rw [HV.out]; exact Hv)
      have Hbit := Lib.hid hbit
      have b2 : decide ((0 : Int) ≤ (j : Int)) = true := by simp
      clear hbit hdb hv
      go_wp2_with fail
      refine Hbit.out.mono ?_
      rintro e w' ⟨rfl, rfl⟩
      go_wp2_with fail
      refine (rdouble_any A1 m1 c1 es v _ Hes.out Hbe.out hv2 (by omega)).mono ?_
      rintro e w2 ⟨A2, m2, c2, fs, rfl, hm2, hfs, hbf, hvf, hb2⟩
      have Hfs := Lib.hid hfs
      have Hbf := Lib.hid hbf
      have Hvf : Hid (D.val fs = V / 2 ^ j) := by rw [hvf, HE.out]; exact Hdb.out
      have hb3 := hb.trans (hb2.mono hb.size)
      clear hfs hbf hvf hb2
      go_wp2
      go_roundw
      case rel => exact ⟨j, m2, c2, A2, fs, by omega, by omega, by go_num, rfl, Or.inl (by omega), Hfs, Hbf, Hvf, hb3⟩
      case measure => simp [intOf]
    · have HQ2 : Hid (D.val es = Q) := by
        rw [HE.out, ← HQ.out]
        rcases Hj.out with h | h
        · rw [show j = 0 from by omega]; rfl
        · have h1 := Hlt.out
          rw [h, Nat.div_eq_of_lt h1, Nat.div_eq_of_lt (Nat.lt_of_lt_of_le h1 (Nat.pow_le_pow_right (by decide) (by omega)))]; rfl
      have b2 : decide (0 ≤ (j : Int) - 1) = false := by simp; omega
      go_wp2_with fail
      clear b2
      go_loop [9, 10] (fun r i => ∃ (k : Nat) (rb : Bool), k ≤ 0 ∧ k ≤ bl ∧ i = .int .i64 k ∧ r = .bool rb ∧ Hid (rb = decide (V % 2 ^ k ≠ 0))) (fun _ i => bl - (intOf i).toNat)
      case atStart => exact ⟨0, false, Nat.zero_le _, Nat.zero_le _, rfl, rfl, by simp [Hid, Nat.mod_one]⟩
      case round =>
        obtain ⟨k, rb, hk1, hk2, rfl, rfl, Hrb⟩ := hrel
        by_cases hc2 : k < 0 ∧ k < bl
        · obtain ⟨h1, h2⟩ := hc2
          exact absurd h1 (by omega)
        · have HR2 : Hid (rb = R) := by
            rw [Hrb.out, ← HR.out]
            by_cases e : k = 0
            · rw [e]; rfl
            · have h1 := Hlt.out
              have ek : k = bl := by omega
              rw [ek, Nat.mod_eq_of_lt h1, Nat.mod_eq_of_lt (Nat.lt_of_lt_of_le h1 (Nat.pow_le_pow_right (by decide) (by omega)))]; rfl
          have b3 : decide (k < 0) = false := by simp
          have hfin : DTells2 w Q 100000 (.bool R) (.returned (.tuple #[.slice A1 m1 c1, .bool rb])) wr := by
            rw [HR2.out]
            exact ⟨A1, m1, c1, es, rfl, by omega, Hes.out, Hbe.out, HQ2.out, hb⟩
          have Hfin := Lib.hid hfin
          clear hfin hc2
          go_wp2
          go_ret2
          exact Hfin.out

theorem rshr_any (A : Option Addr) (n c : Nat) (ds : List Nat) (i : Int) (w : World) (hA : Dig w A n c ds) (ba : D.Bare ds) (hn : n ≤ 1000) (hib : i ≤ 9223372036854775807) :
    Calls Tryd.prog 38 #[.slice A n c, .int .i64 i] w (DTells2 w (D.val ds / 2 ^ i.toNat) 100000 (.bool (decide (D.val ds % 2 ^ i.toNat ≠ 0)))) := by
  by_cases h : i < 0
  · have e : i.toNat = 0 := by omega
    rw [e]
    exact rshr_neg A n c ds i h w hA ba hn
  · obtain ⟨N, rfl⟩ := Int.eq_ofNat_of_zero_le (show 0 ≤ i by omega)
    rw [Int.toNat_natCast]
    exact rshr_pos A n c ds N (by omega) w hA ba hn

theorem dval_zeros (q : Nat) (ds : List Nat) : D.val (List.replicate q 0 ++ ds) = D.pw q * D.val ds := by
  rw [D.val_append, List.length_replicate]
  have : D.val (List.replicate q 0) = 0 := by
    induction q with
    | zero => rfl
    | succ q ih => rw [List.replicate_succ, D.val, ih]
  omega
/-- append(make([]uint32, q), a...). -/
theorem app_zeros (w : World) (A : Option Addr) (n c q : Nat) (ds : List Nat) (hA : Row .u32 w A n c ds) (hn : n ≤ 1000000) (hq : q ≤ 1000000) :
    ∃ A' c' w', (Builtin.append_ #[35, 35] 35 #[.slice (some ⟨w.heap.size, 0, none⟩) q q, .slice A n c]).run Tryd.prog (w.alloc (.cells (madeCells #[.int .u32 0] q) 62)) = .ok (.slice A' (q + n) c') w' ∧
      Own .u32 62 w' w.heap.size (.slice A' (q + n) c') (List.replicate q 0 ++ ds) ∧ Below w.heap.size w w' := by
  have hb : Below w.heap.size w (w.alloc (.cells (madeCells #[.int .u32 0] q) 62)) := (Below.refl _ _).alloc (Nat.le_refl _) _
  have hown : Own .u32 62 (w.alloc (.cells (madeCells #[.int .u32 0] q) 62)) w.heap.size (.slice (some ⟨w.heap.size, 0, none⟩) q q) (List.replicate q 0) := by
    refine ⟨by simp, Or.inr ⟨w.heap.size, q, madeCells #[.int .u32 0] q, by simp, Nat.le_refl _, heap_alloc_new w _, by simp, by unfold maxLen; omega, by rw [size_madeCells]; omega, ?_⟩⟩
    have hr := World.rowIs_made w (.int .u32 0) q 62
    apply List.ext_getElem?
    intro k
    by_cases hk : k < q
    · have hc := hr.cell hk
      rw [cell_of_row _ w.heap.size k (madeCells #[.int .u32 0] q) 62 (0, 0) (heap_alloc_new w _)] at hc
      rw [List.getElem?_take_of_lt (by simpa using hk), Array.getElem?_toList, hc, List.getElem?_map, List.getElem?_replicate, if_pos hk]
      rfl
    · rw [List.getElem?_eq_none (by rw [List.length_take, List.length_replicate]; omega), List.getElem?_eq_none (by simp; omega)]
  obtain ⟨v', w', hrun, ho, hb'⟩ := run_app (P := Tryd.prog) (T := 35) (ty := 35) Tryd.underlying35 info32 hown (hA.below hb) hb.size (by simp; omega) (by simp; omega)
  obtain ⟨A1, c1, rfl, hr⟩ := ho.row
  have el : (List.replicate q 0 ++ ds).length = q + n := by rw [List.length_append, List.length_replicate, hA.len]
  rw [el] at hrun ho
  exact ⟨A1, c1, w', hrun, ho, hb.trans hb'⟩

set_option maxHeartbeats 4000000 in
theorem rshl_any (A : Option Addr) (n c : Nat) (ds : List Nat) (N : Nat) (w : World) (hA : Dig w A n c ds) (ba : D.Bare ds) (hn : n ≤ 1000) (hN : N ≤ 4000) :
    Calls Tryd.prog 77 #[.slice A n c, .int .i64 (N : Int)] w (DTells w (D.val ds * 2 ^ N) 100000) := by
  cases n with
  | zero =>
    have hd : ds = [] := List.eq_nil_of_length_eq_zero hA.len
    subst hd
    have Hfin : Hid (DTells w (D.val [] * 2 ^ N) 100000 (.returned (.slice none 0 0)) w) := ⟨none, 0, 0, [], rfl, by omega, Dig.nil _ _ _, rfl, by simp [D.val], Below.refl _ _⟩
    clear hA ba
    go_enter Tryd.func77, Tryd.ntmps77
    go_wp2
    go_ret
    exact Hfin.out
  | succ n =>
    obtain ⟨q, hq⟩ : ∃ q, N / 16 = q := ⟨_, rfl⟩
    obtain ⟨r, hr⟩ : ∃ r, N % 16 = r := ⟨_, rfl⟩
    have e1 : (N : Int) / 16 = (q : Int) := by omega
    have e2 : (N : Int) % 16 = (r : Int) := by omega
    have hqb : q ≤ 250 := by omega
    have hrb : r < 16 := by omega
    have hwz : D.Words (List.replicate q 0 ++ ds) := D.Words.append (fun x hx => by rw [(List.mem_replicate.1 hx).2]; decide) hA.words
    have hlen : (List.replicate q 0 ++ ds).length = q + (n + 1) := by rw [List.length_append, List.length_replicate, hA.len]
    have hv0 := dval_zeros q ds
    have hb0 : D.Bare (List.replicate q 0 ++ ds) := dbare_of hwz hlen (Or.inr (by
      rw [hv0, show q + (n + 1) - 1 = q + n from by omega, D.pw_add]
      exact Nat.mul_le_mul_left _ (D.val_pos_of_tl (by rw [ba, hA.len]))))
    obtain ⟨A1, c1, w1, hrun, ho, hb1⟩ := app_zeros w A (n + 1) c q ds hA.1 (by omega) (by omega)
    have hd1 := ho.dig hlen hwz
    have hV : D.val ds * 2 ^ N = 2 ^ r * D.val (List.replicate q 0 ++ ds) := by
      rw [hv0, D.pw_two, ← Nat.mul_assoc, ← Nat.pow_add, show r + 16 * q = N from by omega, Nat.mul_comm]
    obtain ⟨T, hT⟩ : ∃ T, D.val ds * 2 ^ N = T := ⟨_, rfl⟩
    rw [hT] at hV ⊢
    have HV := Lib.hid hV
    have Hd1 := Lib.hid hd1
    have Hb0 := Lib.hid hb0
    have Hrun := Lib.hid hrun
    have hmk := run_make_row' (P := Tryd.prog) 35 62 (.int .u32 0) 4 Tryd.underlying35 info32 rfl .i64 .i64 q (by omega) (by omega)
    have b0 : (((n : Int) + 1) == 0) = false := beq_eq_false_iff_ne.2 (by omega)
    clear hA ba hwz hlen hv0 hb0 hrun ho hd1 hV hT hq hr
    generalize List.replicate q 0 ++ ds = zs at HV Hd1 Hb0
    go_enter Tryd.func77, Tryd.ntmps77
    go_wp2_with (at_builtin; refine wpList_app (s := .tmp 12) (x := .tmp 13) (by rfl) rfl rfl rfl Hrun.out ?_)
    clear hmk e1 b0
    go_loopw [5, 6] (fun v i wr => ∃ (k m2 c2 : Nat) (A2 : Option Addr) (es : List Nat), k ≤ r ∧ m2 ≤ q + (n + 1) + k ∧ i = .int .i64 k ∧ v = .slice A2 m2 c2 ∧ Hid (Dig wr A2 m2 c2 es) ∧ Hid (D.Bare es) ∧ Hid (2 ^ (r - k) * D.val es = T) ∧ Below w.heap.size w wr) (fun _ i _ => r - (intOf i).toNat)
    case atStart => exact ⟨0, q + (n + 1), c1, A1, zs, Nat.zero_le _, Nat.le_refl _, rfl, rfl, Hd1, Hb0, HV.out.symm, hb1⟩
    case round =>
      obtain ⟨k, m2, c2, A2, es, hk, hm2, rfl, rfl, Hes, Hbe, HE, hb⟩ := hrel
      by_cases hkr : k < r
      · go_wp2_with fail
        refine (rdouble_any A2 m2 c2 es 0 _ Hes.out Hbe.out (by omega) (by omega)).mono ?_
        rintro e w2 ⟨A3, m3, c3, fs, rfl, hm3, hfs, hbf, hvf, hb2⟩
        have Hfs := Lib.hid hfs
        have Hbf := Lib.hid hbf
        have HE2 : Hid (2 ^ (r - (k + 1)) * D.val fs = T) := by
          rw [hvf, ← HE.out, show r - k = r - (k + 1) + 1 from by omega, Nat.pow_succ, Nat.add_zero, Nat.mul_assoc]; rfl
        have hb3 := hb.trans (hb2.mono hb.size)
        clear hfs hbf hvf hb2
        go_wp2
        go_roundw
        case rel => exact ⟨k + 1, m3, c3, A3, fs, by omega, by omega, by go_num, rfl, Hfs, Hbf, HE2, hb3⟩
        case measure => simp [intOf]; omega
      · obtain rfl : k = r := by omega
        have Hfin : Hid (DTells w T 100000 (.returned (.slice A2 m2 c2)) wr) := ⟨A2, m2, c2, es, rfl, by omega, Hes.out, Hbe.out, by have := HE.out; rwa [Nat.sub_self, Nat.pow_zero, Nat.one_mul] at this, hb⟩
        go_wp2
        go_ret
        exact Hfin.out
end Go.Proofs.YtgacafdkhailmaaDoor
