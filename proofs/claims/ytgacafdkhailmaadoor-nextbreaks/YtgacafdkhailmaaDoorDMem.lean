/- Digits in memory; what ties digits to limbs. -/
import Derived.Test.YtgacafdkhailmaaDoorDigs
import Derived.Test.YtgacafdkhailmaaDoorWApp
import Derived.Test.YtgacafdkhailmaaDoorWAdd
namespace Go.Proofs.YtgacafdkhailmaaDoor
open Go.RowKit

theorem info32 : (Tryd.prog.info? 62).map (fun i => (i.zero, i.size, i.bytes)) = some (some (.int .u32 0), 1, 4) := by kernel_rfl

/-- The slice value '.slice A n c' holds the digits ds. -/
def Dig (w : World) (A : Option Addr) (n c : Nat) (ds : List Nat) : Prop := Row .u32 w A n c ds ∧ D.Words ds
section
variable {w w' : World} {A : Option Addr} {n c : Nat} {ds : List Nat}
theorem Dig.len (h : Dig w A n c ds) : ds.length = n := h.1.1
theorem Dig.le (h : Dig w A n c ds) : n ≤ c := h.1.2.1
theorem Dig.words (h : Dig w A n c ds) : D.Words ds := h.2
theorem Dig.at_ (h : Dig w A n c ds) (hn : 0 < n) : ∃ b o, A = some ⟨b, o, none⟩ ∧ b < w.heap.size ∧ ∀ k, k < n → w.cell? ⟨b, o + k, none⟩ = some (.int .u32 ((ds.getD k 0 : Nat) : Int)) := h.1.at_ hn
theorem Dig.below (h : Dig w A n c ds) (hb : Below w.heap.size w w') : Dig w' A n c ds := ⟨h.1.below hb, h.2⟩
theorem Dig.drewN (h : Dig w A n c ds) (k : Nat) : Dig (w.drewN k) A n c ds := h
theorem Dig.nil (w : World) (A : Option Addr) (c : Nat) : Dig w A 0 c [] := ⟨Row.nil _ _ _ _, D.Words.nil⟩
theorem Row.take {kd : IntKind} (h : Row kd w A n c ds) {m : Nat} (hm : m ≤ n) : Row kd w A m c (ds.take m) :=
  ⟨by rw [List.length_take, h.1]; omega, Nat.le_trans hm h.2.1, fun hn => by
    obtain ⟨b, o, e, hb, hc⟩ := h.at_ (by omega)
    refine ⟨b, o, e, hb, fun k hk => ?_⟩
    rw [hc k (by omega), List.getD_eq_getElem?_getD, List.getD_eq_getElem?_getD, List.getElem?_take_of_lt hk]⟩
theorem Dig.take (h : Dig w A n c ds) {m : Nat} (hm : m ≤ n) : Dig w A m c (ds.take m) := ⟨h.1.take hm, h.2.take m⟩
theorem Dig.tl_le (h : Dig w A n c ds) : D.tl ds ≤ n := by have := D.tl_le ds; rw [h.len] at this; exact this
end

/-- What a call tells that hands back digits: without leading noughts, of value V, at most L of them, nothing old has turned. -/
def DTells (w : World) (V L : Nat) (e : Ending) (w' : World) : Prop :=
  ∃ A m c ds, e = .returned (.slice A m c) ∧ m ≤ L ∧ Dig w' A m c ds ∧ D.Bare ds ∧ D.val ds = V ∧ Below w.heap.size w w'
theorem DTells.wider {w w' : World} {V L M : Nat} {e : Ending} (h : DTells w V L e w') (hM : L ≤ M) : DTells w V M e w' := by
  obtain ⟨A, m, c, zs, h1, h2, h3⟩ := h
  exact ⟨A, m, c, zs, h1, Nat.le_trans h2 hM, h3⟩

/-- append(out, d): one digit more, as the walk meets it. -/
theorem app_digit (w : World) (B : Nat) (A : Option Addr) (n c : Nat) (ds : List Nat) (d : Nat) (I : Int) (hI : I = (d : Int)) (hown : Own .u32 62 w B (.slice A n c) ds) (hl : ds.length = n) (hB : B ≤ w.heap.size) (hn : n ≤ 1000000000) :
    ∃ A' c' w', (Builtin.append_ #[35, 35] 35 #[.slice A n c, .slice (some ⟨w.heap.size, 0, none⟩) 1 1]).run Tryd.prog (w.alloc (.cells #[.int .u32 I] 62)) = .ok (.slice A' (n + 1) c') w' ∧
      Own .u32 62 w' B (.slice A' (n + 1) c') (ds ++ [d]) ∧ Below B w w' := by
  subst hI
  have hb2 : Below w.heap.size w (w.alloc (.cells #[.int .u32 (d : Int)] 62)) := (Below.refl _ _).alloc (Nat.le_refl _) _
  have hr : Row .u32 (w.alloc (.cells #[.int .u32 (d : Int)] 62)) (some ⟨w.heap.size, 0, none⟩) 1 1 [d] :=
    ⟨rfl, Nat.le_refl _, fun _ => ⟨w.heap.size, 0, rfl, by simp, fun k hk => by obtain rfl : k = 0 := (by omega); simp [World.cell?_alloc_new]⟩⟩
  obtain ⟨v', w', hrun, ho, hb'⟩ := run_app (P := Tryd.prog) (T := 35) (ty := 35) Tryd.underlying35 info32 (hown.keep hb2) hr (Nat.le_trans hB hb2.size) (by rw [hl]; omega) (by rw [hl]; omega)
  obtain ⟨A', c', rfl, _⟩ := ho.row
  have el : (ds ++ [d]).length = n + 1 := by simp [hl]
  rw [el] at hrun ho
  exact ⟨A', c', w', hrun, ho, (hb2.mono hB).trans hb'⟩
/-- append([]uint32{}, a...). -/
theorem app_copy (w : World) (A : Option Addr) (n c : Nat) (ds : List Nat) (hA : Row .u32 w A n c ds) (hn : n ≤ 1000000000) :
    ∃ A' c' w', (Builtin.append_ #[35, 35] 35 #[.slice (some ⟨w.heap.size, 0, none⟩) 0 0, .slice A n c]).run Tryd.prog (w.alloc (.cells #[] 62)) = .ok (.slice A' n c') w' ∧
      Own .u32 62 w' w.heap.size (.slice A' n c') ds ∧ Below w.heap.size w w' := by
  have hb : Below w.heap.size w (w.alloc (.cells #[] 62)) := (Below.refl _ _).alloc (Nat.le_refl _) _
  have hown : Own .u32 62 (w.alloc (.cells #[] 62)) w.heap.size (.slice (some ⟨w.heap.size, 0, none⟩) 0 0) [] :=
    ⟨rfl, Or.inr ⟨w.heap.size, 0, #[], rfl, Nat.le_refl _, heap_alloc_new w _, Nat.le_refl _, Nat.zero_le _, rfl, rfl⟩⟩
  obtain ⟨v', w', hrun, ho, hb'⟩ := run_app (P := Tryd.prog) (T := 35) (ty := 35) Tryd.underlying35 info32 hown (hA.below hb) hb.size (by simp; omega) (by simp; omega)
  rw [List.nil_append] at ho
  obtain ⟨A1, c1, rfl, hr⟩ := ho.row
  rw [hA.len] at hrun ho
  exact ⟨A1, c1, w', hrun, ho, hb.trans hb'⟩
/-- What the call owns, as digits. -/
theorem Own.dig {w : World} {B : Nat} {A : Option Addr} {n c : Nat} {ds : List Nat} (h : Own .u32 62 w B (.slice A n c) ds) (hl : ds.length = n) (hw : D.Words ds) : Dig w A n c ds := by
  obtain ⟨A', c', e, hr⟩ := h.row
  injection e with e1 e2 e3
  subst e1; subst e3
  rw [hl] at hr
  exact ⟨hr, hw⟩
end Go.Proofs.YtgacafdkhailmaaDoor
