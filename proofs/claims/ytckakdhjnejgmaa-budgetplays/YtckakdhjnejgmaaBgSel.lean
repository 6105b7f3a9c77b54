/- The walks of budget's Take and Give: their select. -/
import Derived.Test.YtckakdhjnejgmaaBgOps
namespace Go.Proofs.Ytckakdhjnejgmaa
open Go.Conc Go.RowKit

theorem hz43 (w : World) : (zeroValue 43).run Try.prog w = .ok (.agg #[]) w := by simp [go_sem]

theorem take_l (b c most left : Nat) (op : Bool) (w : World) (h : Bud w b c most left op) :
    Calls Try.prog 9 #[.pointer (some ⟨b, 0, none⟩)] w fun e w' => e = .returned (.bool (decide (taken 1 left op = 1))) ∧ Bud w' b c most (left - taken 1 left op) op ∧ Ours b c w w' := by
  have c0 := h.c0
  have H := Lib.hid h
  have HO := Lib.hid (open_l b c most left op w h)
  obtain ⟨_, _, hle, buf, s, r, hl, hc⟩ := h
  cases op
  · clear hc
    go_enter Try.func9, Try.ntmps9
    go_wp2_with fail
    refine HO.out.mono ?_
    rintro e w' ⟨rfl, rfl⟩
    go_wp2
    go_ret
    exact ⟨rfl, H.out, Ours.refl ..⟩
  · by_cases h0 : 0 < buf.size
    · have HS : Hid (Sel Try.prog #[rcase c (.agg #[])] false .select w _ _) := sel_recv (z := .agg #[]) false hc h0
      have HF : Hid (Bud (w.setChan c most (buf.extract 1 buf.size) false s (r + 1) false) b c most (left - taken 1 left true) true) := by
        have k := H.out.chan (buf.extract 1 buf.size) s (r + 1) (by simp; omega)
        have e1 : (buf.extract 1 buf.size).size = left - taken 1 left true := by simp [taken]; omega
        rw [e1] at k; exact k
      have e1 : taken 1 left true = 1 := by simp [taken]; omega
      have E := Lib.hid e1
      clear hc h0 hl hle e1
      go_enter Try.func9, Try.ntmps9
      refine wp_seq_k fun K h => ?_
      have HK := Lib.hid h
      clear h
      go_wp2
      refine HK.out _ _ ?_
      clear HK K
      refine wp_seq_k fun K h => ?_
      have HK := Lib.hid h
      clear h
      go_wp2_with fail
      refine HO.out.mono ?_
      rintro e w' ⟨rfl, rfl⟩
      go_wp2
      refine HK.out _ _ ?_
      clear HK K
      refine wp_seq_k fun K h => ?_
      have HK := Lib.hid h
      clear h
      go_wp2
      refine HK.out _ _ ?_
      clear HK K
      refine wp_seq_k fun K h => ?_
      refine wp_sel_recv HS.out (hz43 _) rfl ?_
      simp only [Act.put, List.setIfInBounds_toArray, List.set_cons_succ, List.set_cons_zero]
      go_wp2
      go_ret
      exact ⟨by simp [E.out], HF.out, (Ours.refl _ _ _).setChan ..⟩
    · have hb : buf.size = 0 := by omega
      have HS : Hid (Sel Try.prog #[rcase c (.agg #[])] false .select w _ _) := sel_recv_none (z := .agg #[]) hc hb
      have e1 : taken 1 left true = 0 := by simp [taken]; omega
      have E := Lib.hid e1
      clear hc h0 hl hle e1 hb
      go_enter Try.func9, Try.ntmps9
      refine wp_seq_k fun K h => ?_
      have HK := Lib.hid h
      clear h
      go_wp2
      refine HK.out _ _ ?_
      clear HK K
      refine wp_seq_k fun K h => ?_
      have HK := Lib.hid h
      clear h
      go_wp2_with fail
      refine HO.out.mono ?_
      rintro e w' ⟨rfl, rfl⟩
      go_wp2
      refine HK.out _ _ ?_
      clear HK K
      refine wp_seq_k fun K h => ?_
      have HK := Lib.hid h
      clear h
      go_wp2
      refine HK.out _ _ ?_
      clear HK K
      refine wp_seq_k fun K h => ?_
      refine wp_sel_recv HS.out (hz43 _) rfl ?_
      simp only [Act.put, List.setIfInBounds_toArray, List.set_cons_succ, List.set_cons_zero]
      go_wp2
      go_ret
      exact ⟨by simp [E.out], by rw [E.out]; exact H.out, Ours.refl ..⟩
theorem take_nil (w : World) :
    Calls Try.prog 9 #[.pointer none] w fun e w' => e = .returned (.bool false) ∧ w = w' := by
  have HO := Lib.hid (open_nil w)
  go_enter Try.func9, Try.ntmps9
  go_wp2_with fail
  refine HO.out.mono ?_
  rintro e w' ⟨rfl, rfl⟩
  go_wp2
  go_ret
  exact ⟨rfl, rfl⟩
theorem give_l (b c most left : Nat) (op : Bool) (w : World) (h : Bud w b c most left op) :
    Calls Try.prog 11 #[.pointer (some ⟨b, 0, none⟩)] w fun e w' => e = .returned (.bool (decide (left < most))) ∧ Bud w' b c most (given most left) op ∧ Ours b c w w' := by
  have c0 := h.c0
  have H := Lib.hid h
  obtain ⟨_, _, hle, buf, s, r, hl, hc⟩ := h
  by_cases h0 : buf.size < most
  · have HS : Hid (Sel Try.prog #[scase c (.agg #[]) (.agg #[])] false .select w _ _) := sel_send (v := .agg #[]) (z := .agg #[]) false hc h0
    have HF : Hid (Bud (w.setChan c most (buf.push (.agg #[])) false (s + 1) r false) b c most (given most left) op) := by
      have k := H.out.chan (buf.push (.agg #[])) (s + 1) r (by simp; omega)
      have e1 : (buf.push (.agg #[])).size = given most left := by unfold given; rw [if_pos (by omega)]; simp; omega
      rw [e1] at k; exact k
    have e1 : left < most := by omega
    have E := Lib.hid e1
    clear hc h0 hl hle e1
    go_enter Try.func11, Try.ntmps11
    refine wp_seq_k fun K h => ?_
    have HK := Lib.hid h
    clear h
    go_wp2
    refine HK.out _ _ ?_
    clear HK K
    refine wp_seq_k fun K h => ?_
    have HK := Lib.hid h
    clear h
    go_wp2
    refine HK.out _ _ ?_
    clear HK K
    refine wp_seq_k fun K h => ?_
    have HK := Lib.hid h
    clear h
    go_wp2
    refine HK.out _ _ ?_
    clear HK K
    refine wp_seq_k fun K h => ?_
    refine wp_sel_send HS.out (hz43 _) rfl rfl ?_
    simp only [Act.put, List.setIfInBounds_toArray, List.set_cons_succ, List.set_cons_zero]
    go_wp2
    go_ret
    exact ⟨by simp [E.out], HF.out, (Ours.refl _ _ _).setChan ..⟩
  · have HS : Hid (Sel Try.prog #[scase c (.agg #[]) (.agg #[])] false .select w _ _) := sel_send_none (v := .agg #[]) (z := .agg #[]) hc (by omega)
    have e1 : ¬ left < most := by omega
    have E := Lib.hid e1
    clear hc h0 hl hle e1
    go_enter Try.func11, Try.ntmps11
    refine wp_seq_k fun K h => ?_
    have HK := Lib.hid h
    clear h
    go_wp2
    refine HK.out _ _ ?_
    clear HK K
    refine wp_seq_k fun K h => ?_
    have HK := Lib.hid h
    clear h
    go_wp2
    refine HK.out _ _ ?_
    clear HK K
    refine wp_seq_k fun K h => ?_
    have HK := Lib.hid h
    clear h
    go_wp2
    refine HK.out _ _ ?_
    clear HK K
    refine wp_seq_k fun K h => ?_
    refine wp_sel_send HS.out (hz43 _) rfl rfl ?_
    simp only [Act.put, List.setIfInBounds_toArray, List.set_cons_succ, List.set_cons_zero]
    go_wp2
    go_ret
    exact ⟨by simp [E.out], by unfold given; rw [if_neg E.out]; exact H.out, Ours.refl ..⟩
theorem give_nil (w : World) :
    Calls Try.prog 11 #[.pointer none] w fun e w' => e = .returned (.bool false) ∧ w = w' := by
  go_enter Try.func11, Try.ntmps11
  go_wp2
  go_ret
  exact ⟨rfl, rfl⟩
end Go.Proofs.Ytckakdhjnejgmaa
