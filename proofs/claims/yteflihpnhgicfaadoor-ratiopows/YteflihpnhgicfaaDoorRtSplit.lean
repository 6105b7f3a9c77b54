/- The walks of ratio.split and partial. -/
import Derived.Test.YteflihpnhgicfaaDoorK1
import Derived.BigQuiet
namespace Go.Proofs.YteflihpnhgicfaaDoor
open Go.RowKit

theorem Lim.drop {w : World} {b o n c : Nat} {xs : List Nat} (h : Lim w (some ⟨b, o, none⟩) n c xs) {l : Nat} (hn : 0 < n) : Lim w (some ⟨b, o + l, none⟩) (n - l) (c - l) (xs.drop l) := by
  obtain ⟨b', o', e, hb, hc⟩ := h.at_ hn
  obtain ⟨rfl, rfl⟩ : b = b' ∧ o = o' := by
    have := Option.some.inj e
    injection this with e1 e2
    exact ⟨e1, e2⟩
  refine ⟨by rw [List.length_drop, h.len], by have := h.le; omega, fun x hx => h.words x (List.mem_of_mem_drop hx), fun hn2 => ⟨b, o + l, rfl, hb, fun k hk => ?_⟩⟩
  have := hc (l + k) (by omega)
  rw [← Nat.add_assoc] at this
  rw [this, List.getD_eq_getElem?_getD, List.getD_eq_getElem?_getD, List.getElem?_drop]

/-- The two halves of a number. -/
def Splits (w : World) (xs : List Nat) (l : Nat) (e : Ending) (w' : World) : Prop :=
  ∃ A1 c1 A2 c2, e = .returned (.tuple #[.slice A1 l c1, .slice A2 (xs.length - l) c2]) ∧ Lim w' A1 l c1 (xs.take l) ∧ Lim w' A2 (xs.length - l) c2 (xs.drop l) ∧ Below w.heap.size w w'

set_option maxHeartbeats 400000 in
theorem split_any (A : Option Addr) (n c : Nat) (xs : List Nat) (f l : Nat) (w : World) (hA : Lim w A n c xs) (hn0 : 0 < n) (hn : n ≤ 1000000) (hl : l = min f n) :
    Calls Tryd.prog 75 #[.slice A n c, .int .i64 (f : Int)] w (Splits w xs l) := by
  have e1 : min (f : Int) (n : Int) = (l : Int) := by omega
  have hc := hA.le
  obtain ⟨b, o, hAe, hb, hcl⟩ := hA.at_ (by omega)
  subst hAe
  have hl2 : l ≤ n := by omega
  have hl3 : l ≤ c := by omega
  have hq1 := hA.take hl2
  have hq2 := hA.drop (l := l) hn0
  have H1 : Hid (¬ c = l → ∀ q, Splits w xs l (.returned (.tuple #[.slice (some ⟨b, o, none⟩) l c, .slice (some ⟨b, o + l, none⟩) (n - l) (c - l)])) (w.drewN q)) := fun _ q =>
    ⟨_, _, _, _, by rw [hA.len], hq1.drewN q, by rw [hA.len]; exact hq2.drewN q, below_drewN (Below.refl _ _) q⟩
  have H2 : Hid (c = l → ∀ q, Splits w xs l (.returned (.tuple #[.slice (some ⟨b, o, none⟩) l l, .slice (some ⟨b, o, none⟩) (n - l) 0])) (w.drewN q)) := fun h9 q => by
    subst h9
    have h8 : n - c = 0 := by omega
    have h7 : xs.drop c = [] := List.drop_eq_nil_of_le (by rw [hA.len]; omega)
    refine ⟨_, _, _, _, by rw [hA.len], hq1.drewN q, ?_, below_drewN (Below.refl _ _) q⟩
    rw [hA.len, h8, h7]
    exact Lim.nil _ _ _
  clear hcl hl hA hq1 hq2
  go_enter Tryd.func75, Tryd.ntmps75
  go_wp2_with fail
  go_quiet (fail)
  go_wp2_with fail
  · go_ret2
    exact H2.out (by assumption) _
  · go_ret2
    exact H1.out (by assumption) _

/-- append(make([]uint64, q), a...). -/
theorem app_noughts (w : World) (A : Option Addr) (n c q : Nat) (ds : List Nat) (hA : Row .u64 w A n c ds) (hn : n ≤ 1000000) (hq : q ≤ 1000000) :
    ∃ A' c' w', (Builtin.append_ #[22, 22] 22 #[.slice (some ⟨w.heap.size, 0, none⟩) q q, .slice A n c]).run Tryd.prog (w.alloc (.cells (madeCells #[.int .u64 0] q) 53)) = .ok (.slice A' (q + n) c') w' ∧
      Own .u64 53 w' w.heap.size (.slice A' (q + n) c') (List.replicate q 0 ++ ds) ∧ Below w.heap.size w w' := by
  have hb : Below w.heap.size w (w.alloc (.cells (madeCells #[.int .u64 0] q) 53)) := (Below.refl _ _).alloc (Nat.le_refl _) _
  have hown : Own .u64 53 (w.alloc (.cells (madeCells #[.int .u64 0] q) 53)) w.heap.size (.slice (some ⟨w.heap.size, 0, none⟩) q q) (List.replicate q 0) := by
    refine ⟨by simp, Or.inr ⟨w.heap.size, q, madeCells #[.int .u64 0] q, by simp, Nat.le_refl _, heap_alloc_new w _, by simp, by unfold maxLen; omega, by rw [size_madeCells]; omega, ?_⟩⟩
    have hr := World.rowIs_made w (.int .u64 0) q 53
    apply List.ext_getElem?
    intro k
    by_cases hk : k < q
    · have hc := hr.cell hk
      rw [cell_of_row _ w.heap.size k (madeCells #[.int .u64 0] q) 53 (0, 0) (heap_alloc_new w _)] at hc
      rw [List.getElem?_take_of_lt (by simpa using hk), Array.getElem?_toList, hc, List.getElem?_map, List.getElem?_replicate, if_pos hk]
      rfl
    · rw [List.getElem?_eq_none (by rw [List.length_take, List.length_replicate]; omega), List.getElem?_eq_none (by simp; omega)]
  obtain ⟨v', w', hrun, ho, hb'⟩ := run_app (P := Tryd.prog) (T := 22) (ty := 22) Tryd.underlying22 info64 hown (hA.below hb) hb.size (by simp; omega) (by simp; omega)
  obtain ⟨A1, c1, rfl, hr⟩ := ho.row
  have el : (List.replicate q 0 ++ ds).length = q + n := by rw [List.length_append, List.length_replicate, hA.len]
  rw [el] at hrun ho
  exact ⟨A1, c1, w', hrun, ho, hb.trans hb'⟩


theorem val_up (q : Nat) (zs : List Nat) : val (List.replicate q 0 ++ zs) = pw q * val zs := by
  rw [val_append, List.length_replicate, val_zeros, Nat.zero_add]
theorem Own.lim {w : World} {B : Nat} {A : Option Addr} {n c : Nat} {zs : List Nat} (h : Own .u64 53 w B (.slice A n c) zs) (hl : zs.length = n) (hw : Words zs) : Lim w A n c zs := by
  obtain ⟨A', c', e, hr⟩ := h.row
  injection e with e1 e2 e3
  subst e1; subst e3
  rw [hl] at hr
  exact hr.toLim hw

/-- A number alone, which may have leading noughts. -/
def TellsL (w : World) (V L : Nat) (e : Ending) (w' : World) : Prop :=
  ∃ A m c zs, e = .returned (.slice A m c) ∧ m ≤ L ∧ Lim w' A m c zs ∧ val zs = V ∧ Below w.heap.size w w'

set_option maxHeartbeats 1000000 in
theorem partial_any (A : Option Addr) (n c : Nat) (xs : List Nat) (B : Option Addr) (m d : Nat) (ys : List Nat) (up : Nat) (w : World) (hA : Lim w A n c xs) (hB : Lim w B m d ys) (hn : n ≤ 500) (hm : m ≤ 500) (hup : up ≤ 1000) :
    Calls Tryd.prog 77 #[.slice A n c, .slice B m d, .int .i64 (up : Int)] w (TellsL w (pw up * (val xs * val ys)) 2000) := by
  have hb1 := hA.blen_le
  have hb2 := hB.blen_le
  have H1 := Lib.hid (mul_any A n c xs B m d ys w hA hB (by omega) (by omega) (Or.inr (Or.inr (by omega))))
  have hmk := run_make_row' (P := Tryd.prog) 22 53 (.int .u64 0) 8 Tryd.underlying22 info64 rfl .i64 .i64 up (by omega) (by omega)
  clear hA hB hb1 hb2
  go_enter Tryd.func77, Tryd.ntmps77
  go_wp2_with fail
  refine H1.out.mono ?_
  rintro e w1 ⟨A1, m1, c1, zs, rfl, hm1, hl1, hbz, hv, hB1⟩
  obtain ⟨A2, c2, w2, hrun, ho, hB2⟩ := app_noughts w1 A1 m1 c1 up zs hl1.toRow (by omega) (by omega)
  have hw : Words (List.replicate up 0 ++ zs) := fun x hx => by
    rcases List.mem_append.1 hx with h | h
    · rw [(List.mem_replicate.1 h).2]; decide
    · exact hl1.words x h
  have hl2 := ho.lim (by rw [List.length_append, List.length_replicate, hl1.len]) hw
  have Hfin : Hid (TellsL w (pw up * (val xs * val ys)) 2000 (.returned (.slice A2 (up + m1) c2)) w2) :=
    ⟨A2, up + m1, c2, _, rfl, by omega, hl2, by rw [val_up, hv], hB1.trans (hB2.mono hB1.size)⟩
  have Hrun := Lib.hid hrun
  clear hrun ho hw hl2 hl1 hbz hv hB1 hB2 H1
  go_wp2_with (at_builtin; refine wpList_app (s := .tmp 16) (x := .tmp 17) (by rfl) rfl rfl rfl Hrun.out ?_)
  go_ret
  exact Hfin.out
end Go.Proofs.YteflihpnhgicfaaDoor
