/- The walks of budget's Open, Left, Shut, Take, Give. -/
import Derived.Test.YtckakdhjnejgmaaProg
import Derived.Test.YtckakdhjnejgmaaChecked
import Derived.Test.YtckakdhjnejgmaaBgMem
namespace Go.Proofs.Ytckakdhjnejgmaa
open Go.Conc Go.RowKit

theorem open_l (b c most left : Nat) (op : Bool) (w : World) (h : Bud w b c most left op) :
    Calls Try.prog 14 #[.pointer (some ⟨b, 0, none⟩)] w fun e w' => e = .returned (.bool op) ∧ w = w' := by
  have c1 := h.c1
  go_enter Try.func14, Try.ntmps14
  go_wp2
  go_ret
  exact ⟨by simp, rfl⟩
theorem open_nil (w : World) :
    Calls Try.prog 14 #[.pointer none] w fun e w' => e = .returned (.bool false) ∧ w = w' := by
  go_enter Try.func14, Try.ntmps14
  go_wp2
  go_ret
  exact ⟨rfl, rfl⟩
theorem left_l (b c most left : Nat) (op : Bool) (w : World) (h : Bud w b c most left op) :
    Calls Try.prog 13 #[.pointer (some ⟨b, 0, none⟩)] w fun e w' => e = .returned (.int .i64 (left : Int)) ∧ w = w' := by
  have c0 := h.c0
  obtain ⟨_, _, _, buf, s, r, rfl, hc⟩ := h
  have hlen := fun ty => run_len_chan (P := Try.prog) 40 ty Try.underlying40 hc
  clear hc
  go_enter Try.func13, Try.ntmps13
  go_wp2
  go_ret
  exact ⟨rfl, rfl⟩
theorem left_nil (w : World) :
    Calls Try.prog 13 #[.pointer none] w fun e w' => e = .returned (.int .i64 0) ∧ w = w' := by
  go_enter Try.func13, Try.ntmps13
  go_wp2
  go_ret
  exact ⟨rfl, rfl⟩
theorem shut_l (b c most left : Nat) (op : Bool) (w : World) (h : Bud w b c most left op) :
    Calls Try.prog 12 #[.pointer (some ⟨b, 0, none⟩)] w fun e w' => e = .returned (.bool op) ∧ Bud w' b c most left false ∧ Ours b c w w' := by
  have c1 := h.c1
  have fz := h.fz 1
  have H := Lib.hid h
  have HO := Lib.hid (open_l b c most left op w h)
  clear h
  go_enter Try.func12, Try.ntmps12
  go_wp2_with fail
  refine HO.out.mono ?_
  rintro e w' ⟨rfl, rfl⟩
  cases op
  · go_wp2
    go_ret
    exact ⟨rfl, H.out, Ours.refl ..⟩
  · go_wp2
    go_ret
    exact ⟨rfl, H.out.shut, (Ours.refl _ _ _).setCell _ _⟩
theorem shut_nil (w : World) :
    Calls Try.prog 12 #[.pointer none] w fun e w' => e = .returned (.bool false) ∧ w = w' := by
  have HO := Lib.hid (open_nil w)
  go_enter Try.func12, Try.ntmps12
  go_wp2_with fail
  refine HO.out.mono ?_
  rintro e w' ⟨rfl, rfl⟩
  go_wp2
  go_ret
  exact ⟨rfl, rfl⟩
end Go.Proofs.Ytckakdhjnejgmaa
