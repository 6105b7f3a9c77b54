/- The walks of planimeterref01.Cmp and of nat.Bare. -/
import Derived.Test.YtimajgbkmblfmaaWRAdd
import Derived.Laws.CopyOwn
namespace Go.Proofs.Ytimajgbkmblfmaa
open Go.RowKit


theorem size64 : (Try.prog.info? 23).map (·.size) = some 1 := by kernel_rfl

set_option maxHeartbeats 1000000 in
/-- nat.Bare. -/
theorem bare_any (A : Option Addr) (n c : Nat) (xs : List Nat) (w : World) (hA : Lim w A n c xs) (hn : n ≤ 1000000) :
    Calls Try.prog 29 #[.slice A n c] w (Tells w (val xs) n) := by
  have hP := hA.trim
  have l1 := hA.tl_le
  have hbare := bare_take xs
  have hval := val_take_tl xs
  obtain ⟨la, hla⟩ : ∃ l, tl xs = l := ⟨_, rfl⟩
  rw [hla] at l1 hP hbare hval
  have Hla := Lib.hid hla
  clear hla
  generalize xs.take la = ps at hP hbare hval
  have hmk := run_make_row' (P := Try.prog) 22 23 (.int .u64 0) 8 Try.underlying22 info64 rfl .i64 .i64 la (by omega) (by omega)
  have Hval := Lib.hid hval
  have HP := Lib.hid hP
  clear hval hP
  obtain ⟨cs, hcs⟩ : ∃ cs, cs = ps.map (fun z => Value.int .u64 ((z : Nat) : Int)) := ⟨_, rfl⟩
  have hcl : cs.length = la := by rw [hcs, List.length_map, HP.out.len]
  have Hcs := Lib.hid hcs
  have Hcl := Lib.hid hcl
  have hone : ∀ v ∈ cs, v.oneCell' = true := by rw [hcs]; intro u hu; obtain ⟨z, _, rfl⟩ := List.mem_map.1 hu; rfl
  have Hone := Lib.hid hone
  have hpos : 0 < cs.length → (some (⟨w.heap.size, 0, none⟩ : Addr)) = some ⟨w.heap.size, 0, none⟩ ∧ ∃ ad, A = some ad ∧ ∀ j v, cs[j]? = some v → (w.alloc (.cells (madeCells #[.int .u64 0] la) 23)).cell? (ad.add j) = some v := fun h => by
    obtain ⟨b, o, rfl, hb, hc⟩ := (HP.out.alloc (.cells (madeCells #[.int .u64 0] la) 23)).at_ (by omega)
    refine ⟨rfl, ⟨b, o, none⟩, rfl, fun j v hv => ?_⟩
    have hj : j < la := by
      rcases Nat.lt_or_ge j la with h | h
      · exact h
      · rw [List.getElem?_eq_none (by omega)] at hv; cases hv
    rw [add_addr, hc j hj, ← hv, hcs, List.getElem?_map, List.getD_eq_getElem?_getD, List.getElem?_eq_getElem (by rw [HP.out.len]; exact hj)]
    rfl
  have Hpos := Lib.hid hpos
  clear hcs hcl hone hpos
  go_enter Try.func29, Try.ntmps29
  go_wp2_with fail
  refine (trim_to la A n c xs _ hA (by omega) Hla).mono ?_
  rintro e w' ⟨rfl, rfl⟩
  go_wp2_with (with_reducible refine wpList_copy_splice rfl (.tmp 9) (.tmp 10) 22 22 rfl 23 Try.underlying22 size64 _ _ _ _ _ _ rfl rfl w.heap.size 0 (madeCells #[.int .u64 0] la).toList 23 ?g1 cs ?g2 ?g3 ?g4 ?g5 w.heap.size w ?g6 (Nat.le_refl _) ?_)
  case g1 => rw [Array.toArray_toList]; exact heap_alloc_new w _
  case g2 => rw [Hcl.out]; exact (Nat.min_self la).symm
  case g3 => first | exact Hpos.out | exact fun h => (Hpos.out h).2
  case g4 => have e := Array.length_toList (xs := madeCells #[.int .u64 0] la); rw [size_madeCells] at e; rw [e, Hcl.out]; omega
  case g5 => exact Hone.out
  case g6 => exact (Below.refl _ _).alloc (Nat.le_refl _) _
  intro w' Hg hb
  have hl : Lim w' (some ⟨w.heap.size, 0, none⟩) la la ps := by
    refine ⟨HP.out.len, Nat.le_refl _, HP.out.words, fun h => ⟨w.heap.size, 0, rfl, ?_, fun k hk => ?_⟩⟩
    · rcases Nat.lt_or_ge w.heap.size w'.heap.size with h' | h'
      · exact h'
      · have := Hg.out; rw [Array.getElem?_eq_none h'] at this; cases this
    · have e : splice (madeCells #[.int .u64 0] la).toList 0 cs = cs := by
        unfold splice
        rw [List.take_zero, List.nil_append, List.drop_of_length_le (by rw [Array.length_toList, size_madeCells, Hcl.out]; omega), List.append_nil]
      have hg := Hg.out
      rw [e] at hg
      rw [Nat.zero_add, cell_of_row w' w.heap.size k cs.toArray 23 (0, 0) hg, Hcs.out, List.getElem?_toArray, List.getElem?_map, List.getD_eq_getElem?_getD, List.getElem?_eq_getElem (by rw [HP.out.len]; exact hk)]
      rfl
  have Hfin : Hid (Tells w (val xs) n (.returned (.slice (some ⟨w.heap.size, 0, none⟩) la la)) w') := ⟨_, _, _, ps, rfl, l1, hl, hbare, Hval.out, hb⟩
  clear hl Hg hmk
  go_wp2
  go_ret
  exact Hfin.out
end Go.Proofs.Ytimajgbkmblfmaa
