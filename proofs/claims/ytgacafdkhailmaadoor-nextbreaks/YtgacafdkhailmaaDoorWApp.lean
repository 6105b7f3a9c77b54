/- append on rows of numbers that the call itself made: the run of the builtin, whatever the source (nil, empty or not). -/
import Derived.Test.YtgacafdkhailmaaDoorMem
import Derived.Maps.AppendAt
import Derived.OwnWalk
namespace Go.Proofs.YtgacafdkhailmaaDoor
open Go.RowKit

/-- The slice value '.slice A n c' holds the numbers xs of one kind. -/
def Row (kd : IntKind) (w : World) (A : Option Addr) (n c : Nat) (xs : List Nat) : Prop :=
  xs.length = n ∧ n ≤ c ∧ (0 < n → ∃ b o, A = some ⟨b, o, none⟩ ∧ b < w.heap.size ∧ ∀ k, k < n → w.cell? ⟨b, o + k, none⟩ = some (.int kd ((xs.getD k 0 : Nat) : Int)))

theorem Lim.toRow {w : World} {A : Option Addr} {n c : Nat} {xs : List Nat} (h : Lim w A n c xs) : Row .u64 w A n c xs := ⟨h.1, h.2.1, h.2.2.2⟩
theorem Row.toLim {w : World} {A : Option Addr} {n c : Nat} {xs : List Nat} (h : Row .u64 w A n c xs) (hw : Words xs) : Lim w A n c xs := ⟨h.1, h.2.1, hw, h.2.2⟩

section
variable {kd : IntKind} {w w' : World} {A : Option Addr} {n c : Nat} {xs : List Nat}
theorem Row.len (h : Row kd w A n c xs) : xs.length = n := h.1
theorem Row.at_ (h : Row kd w A n c xs) (hn : 0 < n) : ∃ b o, A = some ⟨b, o, none⟩ ∧ b < w.heap.size ∧ ∀ k, k < n → w.cell? ⟨b, o + k, none⟩ = some (.int kd ((xs.getD k 0 : Nat) : Int)) := h.2.2 hn
theorem Row.keep (h : Row kd w A n c xs) (hs : w.heap.size ≤ w'.heap.size) (hk : ∀ p : Addr, p.block < w.heap.size → w'.cell? p = w.cell? p) : Row kd w' A n c xs :=
  ⟨h.1, h.2.1, fun hn => by
    obtain ⟨b, o, e, hb, hc⟩ := h.at_ hn
    exact ⟨b, o, e, Nat.lt_of_lt_of_le hb hs, fun k hk' => (hk ⟨b, o + k, none⟩ hb).trans (hc k hk')⟩⟩
theorem Row.below (h : Row kd w A n c xs) (hb : Below w.heap.size w w') : Row kd w' A n c xs := h.keep hb.size fun _ hp => hb.cell hp
theorem Row.nil (kd : IntKind) (w : World) (A : Option Addr) (c : Nat) : Row kd w A 0 c [] := ⟨rfl, Nat.zero_le _, fun h => absurd h (by omega)⟩
end

/-- The value v is nil, or a row of the call's own (blocks from B on) whose numbers are zs. -/
def Own (kd : IntKind) (t : TypeId) (w : World) (B : Nat) (v : Value) (zs : List Nat) : Prop := w.ownsRow B t 1 v zs.length (zs.map (fun z => Value.int kd ((z : Nat) : Int)))

section
variable {kd : IntKind} {t : TypeId} {w w' : World} {B : Nat} {v : Value} {zs : List Nat}
theorem Own.nil (kd : IntKind) (t : TypeId) (w : World) (B : Nat) : Own kd t w B (.slice none 0 0) [] := ⟨rfl, Or.inl ⟨rfl, rfl⟩⟩
/-- A row of the call's own as a slice that reads as a list. -/
theorem Own.row (h : Own kd t w B v zs) : ∃ A c, v = .slice A zs.length c ∧ Row kd w A zs.length c zs := by
  obtain ⟨hl, h | ⟨g, cap, cur, hv, hg, hb, hnc, hcm, hsz, htk⟩⟩ := h
  · obtain ⟨rfl, hn⟩ := h
    have : zs = [] := List.eq_nil_of_length_eq_zero hn
    subst this
    exact ⟨none, 0, rfl, Row.nil _ _ _ _⟩
  · refine ⟨_, cap, hv, rfl, hnc, fun hn => ⟨g, 0, rfl, ?_, fun k hk => ?_⟩⟩
    · rcases Nat.lt_or_ge g w.heap.size with h | h
      · exact h
      · rw [Array.getElem?_eq_none h] at hb; cases hb
    · have h1 : w.cell? ⟨g, 0 + k, none⟩ = cur[k]? := by rw [Nat.zero_add]; simp [World.cell?, hb]
      have h2 : (cur.toList.take (zs.length * 1))[k]? = some (.int kd ((zs.getD k 0 : Nat) : Int)) := by
        rw [htk, List.getElem?_map, List.getElem?_eq_getElem hk, List.getD_eq_getElem?_getD, List.getElem?_eq_getElem hk]; rfl
      rw [List.getElem?_take_of_lt (by omega)] at h2
      rw [h1, ← h2, Array.getElem?_toList]
theorem Own.lt (h : Own kd t w B v zs) (g : Nat) (hg : v.ownBlock = some g) : B ≤ g := by
  obtain ⟨hl, h | ⟨g', cap, cur, hv, hb, _⟩⟩ := h
  · obtain ⟨rfl, _⟩ := h; simp [Value.ownBlock] at hg
  · subst hv; simp [Value.ownBlock] at hg; omega
/-- What is owned stays so where nothing from B on has been written but new blocks. -/
theorem Own.keep (h : Own kd t w B v zs) (hb : Below w.heap.size w w') : Own kd t w' B v zs := by
  obtain ⟨hl, h | ⟨g, cap, cur, hv, hg, hh, r⟩⟩ := h
  · exact ⟨hl, Or.inl h⟩
  · refine ⟨hl, Or.inr ⟨g, cap, cur, hv, hg, ?_, r⟩⟩
    rw [hb.block g ?_]
    · exact hh
    · rcases Nat.lt_or_ge g w.heap.size with h | h
      · exact h
      · rw [Array.getElem?_eq_none h] at hh; cases hh
end

theorem add_addr (b o j : Nat) : (⟨b, o, none⟩ : Addr).add j = ⟨b, o + j, none⟩ := by
  unfold Addr.add
  split
  · rename_i h; subst h; rfl
  · rfl

/-- append(v, s...): the numbers of s behind those of v. -/
theorem run_app {P : Program} {kd : IntKind} {T ty t : TypeId} {bytes : Nat} (hT : P.underlying T = some (.slice t)) (hinfo : (P.info? t).map (fun i => (i.zero, i.size, i.bytes)) = some (some (.int kd 0), 1, bytes))
    {w : World} {B : Nat} {v : Value} {zs : List Nat} (hown : Own kd t w B v zs) {A : Option Addr} {m c : Nat} {xs : List Nat} (hr : Row kd w A m c xs) (hB : B ≤ w.heap.size) (hlen : (zs.length + m) * bytes ≤ 140737488355328) (hl2 : zs.length + m ≤ 1000000000000) :
    ∃ v' w', (Builtin.append_ #[T, T] ty #[v, .slice A m c]).run P w = .ok v' w' ∧ Own kd t w' B v' (zs ++ xs) ∧ Below B w w' := by
  obtain ⟨i, hi, hz0, hz1, hz2⟩ := info_parts hinfo
  rcases Nat.eq_zero_or_pos m with h0 | h0
  · subst h0
    have hx : xs = [] := List.eq_nil_of_length_eq_zero hr.len
    subst hx
    rcases A with _ | ad
    · refine ⟨v, w, ?_, by simpa using hown, Below.refl _ _⟩
      rcases hown.2 with ⟨rfl, hz⟩ | ⟨g, cap, cur, rfl, _, _, hnc, _⟩
      · simp [Builtin.append_, run_underlying hT, sizeOf, typeInfo, hi, Builtin.lenOf, Builtin.firstCells]
      · simp [Builtin.append_, run_underlying hT, sizeOf, typeInfo, hi, Builtin.lenOf, Builtin.firstCells, hnc, storeCells]
    · obtain ⟨v', w', hrun, ho, hg, _, _⟩ := run_append_own_at (P := P) w B T ty t i (.int kd 0) 1 bytes hT hi hz0 hz1 hz2 rfl (by decide) v _ _ hown ad 0 c [] rfl (by intro j u h; simp at h) (by simp) (by unfold maxLen; omega) hlen hB
      refine ⟨v', w', hrun, ?_, (Below.refl _ _).grown hg hB (fun g e => hown.lt g e)⟩
      simpa [Own] using ho
  · obtain ⟨b, o, rfl, hb, hc⟩ := hr.at_ h0
    obtain ⟨v', w', hrun, ho, hg, _, _⟩ := run_append_own_at (P := P) w B T ty t i (.int kd 0) 1 bytes hT hi hz0 hz1 hz2 rfl (by decide) v _ _ hown ⟨b, o, none⟩ m c (xs.map (fun z => Value.int kd ((z : Nat) : Int)))
      (by rw [List.length_map, hr.len, Nat.mul_one])
      (by
        intro j u hu
        rw [List.getElem?_map] at hu
        have hj : j < m := by
          rcases Nat.lt_or_ge j m with h | h
          · exact h
          · rw [List.getElem?_eq_none (by rw [hr.len]; exact h)] at hu; simp at hu
        rw [add_addr, hc j hj, ← hu, List.getD_eq_getElem?_getD, List.getElem?_eq_getElem (by rw [hr.len]; exact hj)]
        rfl)
      (by intro u hu; obtain ⟨z, _, rfl⟩ := List.mem_map.1 hu; rfl) (by unfold maxLen; omega) hlen hB
    refine ⟨v', w', hrun, ?_, (Below.refl _ _).grown hg hB (fun g e => hown.lt g e)⟩
    show w'.ownsRow B t 1 v' (zs ++ xs).length _
    rw [List.length_append, hr.len, List.map_append]
    exact ho

/-- The builtin append where the walk meets it, guarded or not, by its run. -/
theorem wpList_app {P : Program} {w w' : World} {ops : Array Oper} {rest : List Oper} {o : Oper} {a : Act} {Q : Exit → Act → World → Prop} {s x : Operand} {t : TypeId} {v1 v2 v' : Value}
    (hgd : Region.wanted o (yielded ops a.tmps) = true) (ho : o.op = .call { callee := .builtin .append, args := #[s, x], argTypes := #[t, t] }) (hs : a.eval s = v1) (hx : a.eval x = v2)
    (hrun : (Builtin.append_ #[t, t] o.type #[v1, v2]).run P w = .ok v' w') (h : wpList P ops Q rest (a.put o.dst v') w') : wpList P ops Q (o :: rest) a w := by
  refine wpList_step fun K hK => ?_
  rw [if_pos hgd]
  unfold Oper.wp execOp
  simp only [ho, resolve, invoke, builtin, Sem.run_bind, Sem.run_pure, Result.andThen_ok, List.map_toArray, List.map_cons, List.map_nil, hs, hx, hrun]
  exact hK _ _ h
end Go.Proofs.YtgacafdkhailmaaDoor
