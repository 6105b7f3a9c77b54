/- The walk of planimeterlaw17.BudgetPlays (written by law_bplays.py). -/
import Derived.Test.YtckakdhjnejgmaaBgAlive
import Derived.Test.YtckakdhjnejgmaaBgActs
import Derived.Test.YtckakdhjnejgmaaBgDo
import Derived.BigQuiet
import Derived.Deep.RegionWith
import Derived.Deep.CutRange
namespace Go.Proofs.Ytckakdhjnejgmaa
open Go.Conc Go.RowKit

/-- The document's budget in its block. -/
def Doc (w : World) (d m l : Nat) (op : Bool) : Prop := w.heap[d]? = some (.cells #[.int .i64 (m : Int), .int .i64 (l : Int), .bool op] 29)
section
variable {w w' : World} {d m l : Nat} {op : Bool}
theorem Doc.lt (h : Doc w d m l op) : d < w.heap.size := by
  rcases Nat.lt_or_ge d w.heap.size with h' | h'
  · exact h'
  · rw [Doc, Array.getElem?_eq_none h'] at h; cases h
theorem Doc.c0 (h : Doc w d m l op) : w.cell? ⟨d, 0, none⟩ = some (.int .i64 (m : Int)) := by simp [World.cell?, show w.heap[d]? = _ from h]
theorem Doc.c1 (h : Doc w d m l op) : w.cell? ⟨d, 1, none⟩ = some (.int .i64 (l : Int)) := by simp [World.cell?, show w.heap[d]? = _ from h]
theorem Doc.c2 (h : Doc w d m l op) : w.cell? ⟨d, 2, none⟩ = some (.bool op) := by simp [World.cell?, show w.heap[d]? = _ from h]
theorem Doc.fz (h : Doc w d m l op) (o : Nat) : w.frozen? ⟨d, o, none⟩ = false := by simp [World.frozen?, show w.heap[d]? = _ from h]
theorem Doc.keep (h : Doc w d m l op) (hk : w'.heap[d]? = w.heap[d]?) : Doc w' d m l op := by rw [Doc, hk]; exact h
end

/-- The law's budget and the document's, the calls, and what was there. -/
structure Both (W w : World) (A : Option Addr) (n cp : Nat) (KN : (Nat → Int) × (Nat → Int)) (b c d m l : Nat) (op : Bool) (l2 : Nat) (op2 : Bool) : Prop where
  bud : Bud w b c m l op
  doc : Doc w d m l2 op2
  act : Acts w A n cp KN
  bel : Below W.heap.size W w
  k1 : W.heap.size ≤ b
  k2 : W.heap.size ≤ c
  k3 : W.heap.size ≤ d
  n1 : d ≠ b
  n2 : d ≠ c

theorem Both.after {W w w' : World} {A : Option Addr} {n cp : Nat} {KN : (Nat → Int) × (Nat → Int)} {b c d m l : Nat} {op : Bool} {l2 : Nat} {op2 : Bool} (h : Both W w A n cp KN b c d m l op l2 op2) (hB : Below w.heap.size w w') : Both W w' A n cp KN b c d m l op l2 op2 :=
  ⟨h.bud.below hB, h.doc.keep (hB.block d h.doc.lt), h.act.below hB, h.bel.trans (hB.mono h.bel.size), h.k1, h.k2, h.k3, h.n1, h.n2⟩
theorem Both.drew {W w : World} {A : Option Addr} {n cp : Nat} {KN : (Nat → Int) × (Nat → Int)} {b c d m l : Nat} {op : Bool} {l2 : Nat} {op2 : Bool} (h : Both W w A n cp KN b c d m l op l2 op2) : Both W w.drew A n cp KN b c d m l op l2 op2 :=
  h.after (Below.refl _ _).drew
theorem taken_one (l : Nat) (op : Bool) : taken 1 l op = 0 ∨ taken 1 l op = 1 := by
  unfold taken
  split <;> omega
theorem quiet_one {P : Program} {f : FuncId} {args : Array Value} {w : World} {n : Nat} {v : Value}
    (h : Calls P f args (w.drewN n) fun e w' => e = .returned v ∧ w.drewN n = w') : Calls P f args (w.drewN n) fun e w'' => e = .returned v ∧ ∃ m, w'' = w.drewN m :=
  h.mono fun _ _ ⟨he, hm⟩ => ⟨he, n, hm.symm⟩
theorem Both.drewN {W w : World} {A : Option Addr} {n cp : Nat} {KN : (Nat → Int) × (Nat → Int)} {b c d m l : Nat} {op : Bool} {l2 : Nat} {op2 : Bool} (h : Both W w A n cp KN b c d m l op l2 op2) (k : Nat) : Both W (w.drewN k) A n cp KN b c d m l op l2 op2 :=
  h.after ⟨rfl, rfl, rfl, Nat.le_refl _, fun _ _ => rfl⟩
theorem Acts.cells {w : World} {ba oa n cp : Nat} {KN : (Nat → Int) × (Nat → Int)} (h : Acts w (some ⟨ba, oa, none⟩) n cp KN) {i : Nat} (hi : i < n) :
    w.cell? ⟨ba, oa + i * 2, none⟩ = some (.int .i64 (KN.1 i)) ∧ w.cell? ⟨ba, oa + i * 2 + 1, none⟩ = some (.int .i64 (KN.2 i)) := by
  obtain ⟨b, o, e, _, hc⟩ := h.2 (by omega)
  simp only [Option.some.injEq, Addr.mk.injEq] at e
  obtain ⟨rfl, rfl, _⟩ := e
  exact hc i hi
theorem Both.put {W w : World} {A : Option Addr} {n cp : Nat} {KN : (Nat → Int) × (Nat → Int)} {b c d m l : Nat} {op : Bool} {l1 l2 : Nat} {op1 op2 : Bool} (h : Both W w A n cp KN b c d m l op l1 op1) (hW : Acts W A n cp KN) :
    Both W (((w.setCell ⟨d, 0, none⟩ (.int .i64 (m : Int))).setCell ⟨d, 1, none⟩ (.int .i64 (l2 : Int))).setCell ⟨d, 2, none⟩ (.bool op2)) A n cp KN b c d m l op l2 op2 := by
  have hb : ∀ k, k ≠ d → (((w.setCell ⟨d, 0, none⟩ (.int .i64 (m : Int))).setCell ⟨d, 1, none⟩ (.int .i64 (l2 : Int))).setCell ⟨d, 2, none⟩ (.bool op2)).heap[k]? = w.heap[k]? := fun k hk => by
    rw [Below.heap_setCell _ _ _ _ hk, Below.heap_setCell _ _ _ _ hk, Below.heap_setCell _ _ _ _ hk]
  have bel := ((h.bel.setCell (p := ⟨d, 0, none⟩) h.k3 (.int .i64 (m : Int))).setCell (p := ⟨d, 1, none⟩) h.k3 (.int .i64 (l2 : Int))).setCell (p := ⟨d, 2, none⟩) h.k3 (.bool op2)
  refine ⟨h.bud.keep (hb b h.n1.symm) (hb c h.n2.symm), ?_, hW.below bel, bel, h.k1, h.k2, h.k3, h.n1, h.n2⟩
  have hd := h.doc
  unfold Doc at hd ⊢
  simp [World.setCell, Array.getElem?_modify, hd]
theorem Both.next {W w w' : World} {A : Option Addr} {n cp : Nat} {KN : (Nat → Int) × (Nat → Int)} {b c d m l : Nat} {op : Bool} {l1 l2 : Nat} {op1 op2 : Bool} (h : Both W w A n cp KN b c d m l op l2 op2) (hW : Acts W A n cp KN) (h1 : Bud w' b c m l1 op1) (h2 : Ours b c w w') : Both W w' A n cp KN b c d m l1 op1 l2 op2 :=
  have bel := h2.below h.bel h.k1 h.k2
  ⟨h1, h.doc.keep (h2.2.2.2.2 d h.n1 h.n2), hW.below bel, bel, h.k1, h.k2, h.k3, h.n1, h.n2⟩

theorem bplays_out (most : Int) (A : Option Addr) (n cp : Nat) (W : World) (h : most < 0 ∨ 4096 < most) :
    Calls Try.prog 3 #[.int .i64 most, .slice A n cp] W fun e w' => e = .returned (.bool true) ∧ Below W.heap.size W w' := by
  have H0 := Lib.hid (bgalive_any W)
  go_enter Try.func3, Try.ntmps3
  go_wp2_with fail
  refine H0.out.mono ?_
  rintro e w1 ⟨rfl, kB⟩
  have KB := Lib.hid kB
  clear H0 kB
  by_cases hl : (200 : Int) < (n : Int)
  · have b1 : decide ((200 : Int) < (n : Int)) = true := decide_eq_true hl
    clear hl h
    go_wp2
    go_ret
    exact ⟨rfl, KB.out⟩
  have b1 : decide ((200 : Int) < (n : Int)) = false := decide_eq_false hl
  have H1 := Lib.hid (new_no most w1 h)
  by_cases h0 : most < 0
  · have b2 : decide (most < 0) = true := decide_eq_true h0
    clear hl h h0
    go_wp2_with fail
    refine H1.out.mono ?_
    rintro e w' ⟨rfl, rfl⟩
    go_wp2
    go_ret
    exact ⟨rfl, KB.out⟩
  · have b2 : decide (most < 0) = false := decide_eq_false h0
    have b3 : decide (4096 < most) = true := decide_eq_true (by omega)
    clear hl h h0
    go_wp2_with fail
    refine H1.out.mono ?_
    rintro e w' ⟨rfl, rfl⟩
    go_wp2
    go_ret
    exact ⟨rfl, KB.out⟩

set_option maxHeartbeats 1000000 in
theorem bplays_in (m : Nat) (A : Option Addr) (n cp : Nat) (KN : (Nat → Int) × (Nat → Int)) (W : World) (hm : m ≤ 4096) (hX : Acts W A n cp KN) (hn : n ≤ 9223372036854775807) :
    Calls Try.prog 3 #[.int .i64 (m : Int), .slice A n cp] W fun e w' => e = .returned (.bool true) ∧ Below W.heap.size W w' := by
  have HX := Lib.hid hX
  have H0 := Lib.hid (bgalive_any W)
  clear hX
  go_enter Try.func3, Try.ntmps3
  go_wp2_with fail
  refine H0.out.mono ?_
  rintro e w1 ⟨rfl, kB⟩
  have KB := Lib.hid kB
  clear H0 kB
  by_cases hl : 200 < n
  · have b1 : decide ((200 : Int) < (n : Int)) = true := decide_eq_true (by omega)
    clear hl
    go_wp2
    go_ret
    exact ⟨rfl, KB.out⟩
  have b1 : decide ((200 : Int) < (n : Int)) = false := decide_eq_false (by omega)
  have b2 : decide ((m : Int) < 0) = false := decide_eq_false (by omega)
  have b3 : decide (4096 < (m : Int)) = false := decide_eq_false (by omega)
  have H1 := Lib.hid (new_l m w1 hm)
  go_wp2_with fail
  refine H1.out.mono ?_
  rintro e w2 ⟨rfl, g1, k1, s1⟩
  have hs := KB.out.size
  have bel2 : Below W.heap.size W w2 := KB.out.trans (k1.mono hs)
  obtain ⟨w3, hw3⟩ : ∃ w3, w3 = w2.alloc (.cells #[.int .i64 (m : Int), .int .i64 (m : Int), .bool true] 29) := ⟨_, rfl⟩
  have bel3 : Below w2.heap.size w2 w3 := by rw [hw3]; exact (Below.refl _ _).alloc (Nat.le_refl _) _
  have HL : Hid (Both W w3 A n cp KN (w1.heap.size + 1) w1.heap.size w2.heap.size m m true m true) :=
    have belW := bel2.trans (bel3.mono bel2.size)
    ⟨g1.below bel3, by rw [Doc, hw3]; exact heap_alloc_new w2 _, HX.out.below belW, belW, by omega, hs, bel2.size, by omega, by omega⟩
  have W3 := Lib.hid hw3
  clear hw3 g1 k1 s1 hs bel2 bel3 H1
  go_wp2
  rw [← W3.out]
  obtain ⟨b, hb⟩ : ∃ b, b = w1.heap.size + 1 := ⟨_, rfl⟩
  obtain ⟨c, hc⟩ : ∃ c, c = w1.heap.size := ⟨_, rfl⟩
  obtain ⟨d, hd⟩ : ∃ d, d = w2.heap.size := ⟨_, rfl⟩
  rw [← hb, ← hc, ← hd] at HL
  rw [← hb, ← hd]
  clear hb hc hd W3 KB b1 b2 b3
  go_loopg [8] n (fun g s wr => ∃ (i l : Nat) (op : Bool), s = .int .i64 (i : Int) ∧ i ≤ n ∧ Hid (n - i = g) ∧ Hid (Both W wr A n cp KN b c d m l op l op))
  case atStart => exact ⟨0, m, true, rfl, Nat.zero_le _, rfl, HL⟩
  case round =>
    clear HL
    obtain ⟨i, l, op, rfl, hi, Hg, H⟩ := hrel
    by_cases hin : i < n
    · have b1 : decide ((i : Int) < (n : Int)) = true := decide_eq_true (by omega)
      obtain ⟨ba, oa, eA, _, hcl⟩ := H.out.act.2 (by omega)
      obtain ⟨c1, c2⟩ := hcl i hin
      obtain ⟨k, hk⟩ : ∃ k, k = KN.1 i := ⟨_, rfl⟩
      obtain ⟨N, hN⟩ : ∃ N, N = KN.2 i := ⟨_, rfl⟩
      rw [← hk] at c1
      rw [← hN] at c2
      have EK := Lib.hid hk
      have EN := Lib.hid hN
      clear hcl hk hN
      have HA : Hid (A = some ⟨ba, oa, none⟩) := eA
      subst eA
      have Hlt : Hid (n - (i + 1) < gk) := by show _ < _; rw [← Hg.out]; omega
      clear Hg
      have d0 := H.out.doc.c0
      have d1 := H.out.doc.c1
      have d2 := H.out.doc.c2
      have f0 := H.out.doc.fz 0
      obtain ⟨l2, hl2⟩ : ∃ l2, l2 = doL k N m l op := ⟨_, rfl⟩
      obtain ⟨op2, ho2⟩ : ∃ op2, op2 = doO k op := ⟨_, rfl⟩
      obtain ⟨r, hr⟩ : ∃ r, r = doR k N m l op := ⟨_, rfl⟩
      have HD := Lib.hid (do_any k N m l op wr.drew hm H.out.bud.le)
      rw [← hl2, ← ho2, ← hr] at HD
      have E2 := Lib.hid hl2
      have E3 := Lib.hid ho2
      have E4 := Lib.hid hr
      clear hl2 ho2 hr
      go_wp2_with fail
      go_cut [10] from 45 to 53 (fun s10 wx => s10 = .int .i64 (r : Int) ∧ Hid (Both W wx (some ⟨ba, oa, none⟩) n cp KN b c d m l op l2 op2))
      case first =>
        go_region_with (first | (go_at_call 8; refine HD.out.mono ?_; rintro e w5 ⟨rfl, hB⟩; have H5 := Lib.hid (H.out.drew.after hB); clear hB; have d0 := H5.out.doc.c0; have d1 := H5.out.doc.c1; have d2 := H5.out.doc.c2; have f0 := H5.out.doc.fz 0; have f1 := H5.out.doc.fz 1; have f2 := H5.out.doc.fz 2))
        all_goals (go_wp2_with fail)
        all_goals go_meet
        all_goals (exact ⟨rfl, H5.out.put HX.out⟩)
      case rest =>
        obtain ⟨rfl, HC⟩ := hcut
        obtain ⟨wd, hwd⟩ : ∃ wd, wd = wc := ⟨_, rfl⟩
        rw [← hwd] at HC
        rw [← hwd]
        clear hwd H HD c1 c2 d0 d1 d2 f0
        have c1 := (HC.out.act.cells hin).1
        have c2 := (HC.out.act.cells hin).2
        rw [← EK.out] at c1
        rw [← EN.out] at c2
        rename_i Kx hx
        refine hx _ _ ?_
        clear hx Kx
        refine wp_seq_k fun K h => ?_
        have HK := Lib.hid h
        clear h
        go_wp2
        refine HK.out _ _ ?_
        clear HK K
        refine wp_seq_k fun K h => ?_
        go_cut [9, 11] from 54 to 79 (fun s9 s11 wx => ∃ (v : Nat) (t : Bool), s9 = .int .i64 (v : Int) ∧ s11 = .bool t ∧ Hid ((if t then 1 else v) = r) ∧ Hid (Both W wx (some ⟨ba, oa, none⟩) n cp KN b c d m l2 op2 l2 op2))
        case first =>
          have e2 := E2.out
          have e3 := E3.out
          have e4 := E4.out
          unfold doL at e2
          unfold doO at e3
          unfold doR at e4
          by_cases k0 : k = 0
          · subst k0
            rw [if_pos rfl] at e2 e4
            rw [if_neg (by decide)] at e3
            subst e3
            obtain ⟨t, ht⟩ : ∃ t, t = decide (taken 1 l op2 = 1) := ⟨_, rfl⟩
            have hv : Hid ((if t then 1 else 0) = r) := by
              show _ = _
              rw [ht, e4]
              rcases taken_one l op2 with h | h <;> simp [h]
            have C0 := Lib.hid (take_v t l2 b c m l op2 wd HC.out.bud ht.symm e2.symm)
            clear ht e2 e4
            go_wp2_with fail
            refine C0.out.mono ?_
            rintro e w5 ⟨rfl, g5, o5⟩
            have HF := Lib.hid (HC.out.next HX.out g5 o5)
            clear C0 g5 o5 HC c1 c2
            go_wp2_with fail
            go_meet
            exact ⟨0, t, rfl, rfl, hv, HF⟩
          by_cases k1 : k = 1
          · subst k1
            rw [if_neg (by decide), if_pos rfl] at e2 e4
            rw [if_neg (by decide)] at e3
            subst e3
            have hv : Hid ((if false then 1 else r) = r) := rfl
            have C0 := Lib.hid (takeall_v r l2 b c m l op2 N wd HC.out.bud hm e4.symm (by rw [e2, e4]))
            clear e2 e4
            go_wp2_with fail
            refine C0.out.mono ?_
            rintro e w5 ⟨rfl, g5, o5⟩
            have HF := Lib.hid (HC.out.next HX.out g5 o5)
            clear C0 g5 o5 HC c1 c2
            go_wp2_with fail
            go_meet
            exact ⟨r, false, rfl, rfl, hv, HF⟩
          by_cases k2 : k = 2
          · subst k2
            rw [if_neg (by decide), if_neg (by decide), if_pos rfl] at e2 e4
            rw [if_neg (by decide)] at e3
            subst e3
            obtain ⟨t, ht⟩ : ∃ t, t = decide (l < m) := ⟨_, rfl⟩
            have hv : Hid ((if t then 1 else 0) = r) := by
              show _ = _
              rw [ht, e4]
              by_cases h : l < m <;> simp [h]
            have C0 := Lib.hid (give_v t l2 b c m l op2 wd HC.out.bud ht.symm e2.symm)
            clear ht e2 e4
            go_wp2_with fail
            refine C0.out.mono ?_
            rintro e w5 ⟨rfl, g5, o5⟩
            have HF := Lib.hid (HC.out.next HX.out g5 o5)
            clear C0 g5 o5 HC c1 c2
            go_wp2_with fail
            go_meet
            exact ⟨0, t, rfl, rfl, hv, HF⟩
          by_cases k3 : k = 3
          · subst k3
            rw [if_neg (by decide), if_neg (by decide), if_neg (by decide)] at e2
            rw [if_neg (by decide), if_neg (by decide), if_neg (by decide), if_pos rfl] at e4
            rw [if_pos rfl] at e3
            subst e3 e2
            have hv : Hid ((if op then 1 else 0) = r) := e4.symm
            have C0 := Lib.hid (shut_l b c m l2 op wd HC.out.bud)
            clear e4
            go_wp2_with fail
            refine C0.out.mono ?_
            rintro e w5 ⟨rfl, g5, o5⟩
            have HF := Lib.hid (HC.out.next HX.out g5 o5)
            clear C0 g5 o5 HC c1 c2
            go_wp2_with fail
            go_meet
            exact ⟨0, op, rfl, rfl, hv, HF⟩
          · rw [if_neg k0, if_neg k1, if_neg k2] at e2
            rw [if_neg k0, if_neg k1, if_neg k2, if_neg k3] at e4
            rw [if_neg k3] at e3
            subst e3 e2
            have hv : Hid ((if false then 1 else 0) = r) := e4.symm
            have q0 : (k == 0) = false := beq_eq_false_iff_ne.2 k0
            have q1 : (k == 1) = false := beq_eq_false_iff_ne.2 k1
            have q2 : (k == 2) = false := beq_eq_false_iff_ne.2 k2
            have q3 : (k == 3) = false := beq_eq_false_iff_ne.2 k3
            clear e4 k0 k1 k2 k3
            go_wp2_with fail
            go_meet
            exact ⟨0, false, rfl, rfl, hv, HC⟩
        case rest =>
          clear HC E2 E3 E4 c1 c2 EK EN
          obtain ⟨v, t, rfl, rfl, hv, HF⟩ := hcut
          cases t with
          | false =>
            obtain rfl : v = r := hv.out
            have H1 : Hid (∀ x, Calls Try.prog 13 #[.pointer (some ⟨b, 0, none⟩)] (wc.drewN x) fun e w' => e = .returned (.int .i64 (l2 : Int)) ∧ wc.drewN x = w') := fun x => left_l b c m l2 op2 _ (HF.out.bud.drewN x)
            have H2 : Hid (∀ x, Calls Try.prog 14 #[.pointer (some ⟨b, 0, none⟩)] (wc.drewN x) fun e w' => e = .returned (.bool op2) ∧ wc.drewN x = w') := fun x => open_l b c m l2 op2 _ (HF.out.bud.drewN x)
            have d1 := HF.out.doc.c1
            have d2 := HF.out.doc.c2
            go_wp2_with fail
            go_quiet (first | (go_at_call 13; exact quiet_one (H1.out _)) | (go_at_call 14; exact quiet_one (H2.out _)))
            have HN : Hid (∀ x, Both W (wc.drewN x) (some ⟨ba, oa, none⟩) n cp KN b c d m l2 op2 l2 op2) := fun x => HF.out.drewN x
            clear H1 H2 HF d1 d2
            go_wp2_with fail
            go_roundg (n - (i + 1))
            case rel => exact ⟨i + 1, l2, op2, by push_cast; rfl, by omega, rfl, HN.out _⟩
            case measure => exact Hlt.out
          | true =>
            obtain rfl : 1 = r := hv.out
            have H1 : Hid (∀ x, Calls Try.prog 13 #[.pointer (some ⟨b, 0, none⟩)] (wc.drewN x) fun e w' => e = .returned (.int .i64 (l2 : Int)) ∧ wc.drewN x = w') := fun x => left_l b c m l2 op2 _ (HF.out.bud.drewN x)
            have H2 : Hid (∀ x, Calls Try.prog 14 #[.pointer (some ⟨b, 0, none⟩)] (wc.drewN x) fun e w' => e = .returned (.bool op2) ∧ wc.drewN x = w') := fun x => open_l b c m l2 op2 _ (HF.out.bud.drewN x)
            have d1 := HF.out.doc.c1
            have d2 := HF.out.doc.c2
            go_wp2_with fail
            go_quiet (first | (go_at_call 13; exact quiet_one (H1.out _)) | (go_at_call 14; exact quiet_one (H2.out _)))
            have HN : Hid (∀ x, Both W (wc.drewN x) (some ⟨ba, oa, none⟩) n cp KN b c d m l2 op2 l2 op2) := fun x => HF.out.drewN x
            clear H1 H2 HF d1 d2
            go_wp2_with fail
            go_roundg (n - (i + 1))
            case rel => exact ⟨i + 1, l2, op2, by push_cast; rfl, by omega, rfl, HN.out _⟩
            case measure => exact Hlt.out
    · have b1 : decide ((i : Int) < (n : Int)) = false := decide_eq_false (by omega)
      have HF : Hid (Below W.heap.size W wr) := H.out.bel
      clear H Hg
      go_wp2
      go_ret
      exact ⟨rfl, HF.out⟩
theorem walk_budgetPlays (most : Int) (A : Option Addr) (n cp : Nat) (KN : (Nat → Int) × (Nat → Int)) (W : World) (_ : -9223372036854775808 ≤ most) (_ : most ≤ 9223372036854775807) (hX : Acts W A n cp KN) (hn : n ≤ 9223372036854775807) :
    Calls Try.prog 3 #[.int .i64 most, .slice A n cp] W fun e w' => e = .returned (.bool true) ∧ Below W.heap.size W w' := by
  by_cases h : most < 0 ∨ 4096 < most
  · exact bplays_out most A n cp W h
  · obtain ⟨m, rfl⟩ := Int.eq_ofNat_of_zero_le (show 0 ≤ most by omega)
    exact bplays_in m A n cp KN W (by omega) hX hn
end Go.Proofs.Ytckakdhjnejgmaa
