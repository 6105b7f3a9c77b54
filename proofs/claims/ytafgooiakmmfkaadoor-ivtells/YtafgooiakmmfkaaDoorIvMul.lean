/- The walk of planimeterref15.Mul (written by law_imul.py). -/
import Derived.Test.YtafgooiakmmfkaaDoorK1
import Derived.Test.YtafgooiakmmfkaaDoorK2
namespace Go.Proofs.YtafgooiakmmfkaaDoor
open Go.RowKit

/-- The document's product. -/
def pN (g : Bool) (V : Nat) (e : Int) (k : Bool) (U : Nat) (f : Int) : Dy := if V = 0 ∨ U = 0 then ⟨false, 0, 0⟩ else ⟨g != k, V * U, e + f⟩
/-- Both numbers in their boxes, the result's, their digits. -/
def HoldM3 (w : World) (g : Bool) (A : Option Addr) (n c : Nat) (ds : List Nat) (e1 : Int) (k : Bool) (B : Option Addr) (m d : Nat) (es : List Nat) (e2 : Int) (u : World) : Prop :=
  Bd u w.heap.size 31 g A n c e1 ∧ Bd u (w.heap.size + 1) 31 k B m d e2 ∧ Bd u (w.heap.size + 1 + 1) 31 false none 0 0 0 ∧ Dig u A n c ds ∧ Dig u B m d es ∧ Below w.heap.size w u
section
variable {w u u' : World} {g : Bool} {A : Option Addr} {n c : Nat} {ds : List Nat} {e1 : Int} {k : Bool} {B : Option Addr} {m d : Nat} {es : List Nat} {e2 : Int}
theorem HoldM3.below (h : HoldM3 w g A n c ds e1 k B m d es e2 u) (hb : Below u.heap.size u u') : HoldM3 w g A n c ds e1 k B m d es e2 u' :=
  ⟨h.1.below hb, h.2.1.below hb, h.2.2.1.below hb, h.2.2.2.1.below hb, h.2.2.2.2.1.below hb, h.2.2.2.2.2.trans (hb.mono h.2.2.2.2.2.size)⟩
theorem HoldM3.start (hA : Dig w A n c ds) (hB : Dig w B m d es) : HoldM3 w g A n c ds e1 k B m d es e2 (((w.alloc (.cells #[.bool g, .slice A n c, .int .i64 e1] 31)).alloc (.cells #[.bool k, .slice B m d, .int .i64 e2] 31)).alloc (.cells #[.bool false, .slice none 0 0, .int .i64 0] 31)) := by
  have a1 := below1 w (.cells #[.bool g, .slice A n c, .int .i64 e1] 31)
  have a2 := below1 (w.alloc (.cells #[.bool g, .slice A n c, .int .i64 e1] 31)) (.cells #[.bool k, .slice B m d, .int .i64 e2] 31)
  have a3 := below1 ((w.alloc (.cells #[.bool g, .slice A n c, .int .i64 e1] 31)).alloc (.cells #[.bool k, .slice B m d, .int .i64 e2] 31)) (.cells #[.bool false, .slice none 0 0, .int .i64 0] 31)
  have b1 := Bd.new w 31 g A n c e1
  have b2 := Bd.new (w.alloc (.cells #[.bool g, .slice A n c, .int .i64 e1] 31)) 31 k B m d e2
  have b3 := Bd.new ((w.alloc (.cells #[.bool g, .slice A n c, .int .i64 e1] 31)).alloc (.cells #[.bool k, .slice B m d, .int .i64 e2] 31)) 31 false none 0 0 0
  rw [World.size_alloc] at b2 b3
  rw [World.size_alloc] at b3
  have a12 := a1.trans (a2.mono a1.size)
  exact ⟨(b1.below a2).below a3, b2.below a3, b3, ((hA.below a1).below a2).below a3, ((hB.below a1).below a2).below a3, a12.trans (a3.mono a12.size)⟩
theorem HoldM3.cells (h : HoldM3 w g A n c ds e1 k B m d es e2 u) : Six u w.heap.size g A n c e1 (w.heap.size + 1) k B m d e2 := h.1.six h.2.1
theorem HoldM3.kept (h : HoldM3 w g A n c ds e1 k B m d es e2 u) (g' : Bool) (A' : Option Addr) (n' c' : Nat) (e' : Int) : Six (World.put u (w.heap.size + 1 + 1) g' A' n' c' e') w.heap.size g A n c e1 (w.heap.size + 1) k B m d e2 :=
  (h.1.other (by omega) _ _ _ _ _).six (h.2.1.other (by omega) _ _ _ _ _)
theorem HoldM3.out (h : HoldM3 w g A n c ds e1 k B m d es e2 u) {o : Dy} {Lg : Nat} {A' : Option Addr} {n' c' : Nat} {zs : List Nat} (hl : Dig u A' n' c' zs) (hn : n' ≤ Lg) (hb : D.Bare zs) (hv : D.val zs = o.V) :
    NTold w o Lg (.returned (.agg #[.bool o.neg, .slice A' n' c', .int .i64 o.e])) (World.put u (w.heap.size + 1 + 1) o.neg A' n' c' o.e) :=
  ⟨A', n', c', zs, rfl, hn, h.2.2.1.dig hl _ _ _ _ _, hb, hv, below_put h.2.2.2.2.2 (by omega) _ _ _ _ _⟩
end
theorem dlen_nil {w : World} {A : Option Addr} {m c : Nat} {ds : List Nat} (h : Dig w A m c ds) (hb : D.Bare ds) : m = 0 ↔ D.val ds = 0 := by
  have h5 := h.len
  constructor
  · intro h0
    rw [h0] at h5
    rw [List.eq_nil_of_length_eq_zero h5]
    rfl
  · intro h0
    have h6 : D.tl ds = 0 := D.tl_zero_iff.2 h0
    rw [hb] at h6
    omega

set_option maxHeartbeats 1000000 in
set_option maxRecDepth 20000 in
theorem imul_z1 (g k : Bool) (A : Option Addr) (n c : Nat) (ds : List Nat) (e1 : Int) (B : Option Addr) (m d : Nat) (es : List Nat) (e2 : Int) (w : World) (hA : Dig w A n c ds) (hB : Dig w B m d es) (ba : D.Bare ds) (_bb : D.Bare es) (h0 : D.val ds = 0) :
    Calls Tryd.prog 48 #[.agg #[.bool g, .slice A n c, .int .i64 e1], .agg #[.bool k, .slice B m d, .int .i64 e2]] w (NTold w (pN g (D.val ds) e1 k (D.val es) e2) (n + m + 1)) := by
  have k0 := HoldM3.start (g := g) (e1 := e1) (k := k) (e2 := e2) hA hB
  have ho : pN g (D.val ds) e1 k (D.val es) e2 = ⟨false, 0, 0⟩ := by unfold pN; rw [if_pos (by omega)]
  have Hfin : Hid (NTold w (pN g (D.val ds) e1 k (D.val es) e2) (n + m + 1) (.returned (.agg #[.bool false, .slice none 0 0, .int .i64 0])) (((w.alloc (.cells #[.bool g, .slice A n c, .int .i64 e1] 31)).alloc (.cells #[.bool k, .slice B m d, .int .i64 e2] 31)).alloc (.cells #[.bool false, .slice none 0 0, .int .i64 0] 31))) := by
    rw [ho]
    exact ⟨none, 0, 0, [], rfl, Nat.zero_le _, Dig.nil _ _ _, rfl, rfl, k0.2.2.2.2.2⟩
  have e0 : n = 0 := (dlen_nil hA ba).2 h0
  subst e0
  have x1 := k0.1.c1
  have y1 := k0.2.1.c1
  have z0 := k0.2.2.1.c0
  have z1 := k0.2.2.1.c1
  have z2 := k0.2.2.1.c2
  have zf := k0.2.2.1.fz
  clear hA hB ba k0 ho h0
  go_enter Tryd.func48, Tryd.ntmps48
  go_wp2
  exact bodyPost_ret (v := .agg #[.bool false, .slice none 0 0, .int .i64 0]) (by simp [results, Tryd.results48, go_sem]) rfl Hfin.out

set_option maxHeartbeats 1000000 in
set_option maxRecDepth 20000 in
theorem imul_z2 (g k : Bool) (A : Option Addr) (n c : Nat) (ds : List Nat) (e1 : Int) (B : Option Addr) (m d : Nat) (es : List Nat) (e2 : Int) (w : World) (hA : Dig w A n c ds) (hB : Dig w B m d es) (ba : D.Bare ds) (bb : D.Bare es) (h1 : D.val ds ≠ 0) (h0 : D.val es = 0) :
    Calls Tryd.prog 48 #[.agg #[.bool g, .slice A n c, .int .i64 e1], .agg #[.bool k, .slice B m d, .int .i64 e2]] w (NTold w (pN g (D.val ds) e1 k (D.val es) e2) (n + m + 1)) := by
  have k0 := HoldM3.start (g := g) (e1 := e1) (k := k) (e2 := e2) hA hB
  have ho : pN g (D.val ds) e1 k (D.val es) e2 = ⟨false, 0, 0⟩ := by unfold pN; rw [if_pos (by omega)]
  have Hfin : Hid (NTold w (pN g (D.val ds) e1 k (D.val es) e2) (n + m + 1) (.returned (.agg #[.bool false, .slice none 0 0, .int .i64 0])) (((w.alloc (.cells #[.bool g, .slice A n c, .int .i64 e1] 31)).alloc (.cells #[.bool k, .slice B m d, .int .i64 e2] 31)).alloc (.cells #[.bool false, .slice none 0 0, .int .i64 0] 31))) := by
    rw [ho]
    exact ⟨none, 0, 0, [], rfl, Nat.zero_le _, Dig.nil _ _ _, rfl, rfl, k0.2.2.2.2.2⟩
  have e0 : n ≠ 0 := fun h => h1 ((dlen_nil hA ba).1 h)
  have e2' : m = 0 := (dlen_nil hB bb).2 h0
  subst e2'
  have c0 : ((n : Int) == 0) = false := beq_no (by omega)
  have c0n : (n == 0) = false := by simpa using e0
  have x1 := k0.1.c1
  have y1 := k0.2.1.c1
  have z0 := k0.2.2.1.c0
  have z1 := k0.2.2.1.c1
  have z2 := k0.2.2.1.c2
  have zf := k0.2.2.1.fz
  clear hA hB ba bb k0 ho h0 h1 e0
  go_enter Tryd.func48, Tryd.ntmps48
  go_wp2
  exact bodyPost_ret (v := .agg #[.bool false, .slice none 0 0, .int .i64 0]) (by simp [results, Tryd.results48, go_sem]) rfl Hfin.out

set_option maxHeartbeats 2000000 in
set_option maxRecDepth 20000 in
theorem imul_ff (A : Option Addr) (n c : Nat) (ds : List Nat) (e1 : Int) (B : Option Addr) (m d : Nat) (es : List Nat) (e2 : Int) (w : World) (hA : Dig w A n c ds) (hB : Dig w B m d es) (ba : D.Bare ds) (bb : D.Bare es) (h1 : D.val ds ≠ 0) (h2 : D.val es ≠ 0) (hn : n ≤ 1000) (hm : m ≤ 1000) (he1 : -100000 ≤ e1) (he2 : e1 ≤ 100000) (hf1 : -100000 ≤ e2) (hf2 : e2 ≤ 100000) :
    Calls Tryd.prog 48 #[.agg #[.bool false, .slice A n c, .int .i64 e1], .agg #[.bool false, .slice B m d, .int .i64 e2]] w (NTold w (pN false (D.val ds) e1 false (D.val es) e2) (n + m + 1)) := by
  have k0 := HoldM3.start (g := false) (e1 := e1) (k := false) (e2 := e2) hA hB
  have K0 := Lib.hid (k0.below (below_drew _))
  have HC : Hid (∀ u, HoldM3 w false A n c ds e1 false B m d es e2 u → Calls Tryd.prog 73 #[.slice A n c, .slice B m d] u (DTells u (D.val ds * D.val es) (n + m + 1))) := fun u hu => rmul_any A n c ds B m d es u hu.2.2.2.1 hu.2.2.2.2.1 (by omega) (by omega)
  have e0 : n ≠ 0 := fun h => h1 ((dlen_nil hA ba).1 h)
  have e0' : m ≠ 0 := fun h => h2 ((dlen_nil hB bb).1 h)
  have c0 : ((n : Int) == 0) = false := beq_no (by omega)
  have c1 : ((m : Int) == 0) = false := beq_no (by omega)
  have c0n : (n == 0) = false := by simpa using e0
  have c1n : (m == 0) = false := by simpa using e0'
  obtain ⟨t, ht⟩ : ∃ t : Int, e1 + e2 = t := ⟨_, rfl⟩
  have wt : IntKind.i64.wrap (e1 + e2) = t := by rw [ht, IntKind.wrap_i64]; omega
  have HO : Hid (pN false (D.val ds) e1 false (D.val es) e2 = ⟨false, D.val ds * D.val es, t⟩) := by
    show _ = _
    unfold pN
    rw [if_neg (by omega), ht]
    rfl
  have x1 := k0.1.c1
  have y1 := k0.2.1.c1
  clear hA hB ba bb k0 h1 h2 e0 e0' ht
  go_enter Tryd.func48, Tryd.ntmps48
  go_wp2_with fail
  clear x1 y1
  go_region_held3 (fun u => u.cell? ⟨w.heap.size, 0, none⟩ = some (.bool false) ∧ u.cell? ⟨w.heap.size, 1, none⟩ = some (.slice A n c) ∧ u.cell? ⟨w.heap.size, 2, none⟩ = some (.int .i64 e1) ∧ u.cell? ⟨w.heap.size + 1, 0, none⟩ = some (.bool false) ∧ u.cell? ⟨w.heap.size + 1, 1, none⟩ = some (.slice B m d) ∧ u.cell? ⟨w.heap.size + 1, 2, none⟩ = some (.int .i64 e2)) (first | (with_reducible exact K0.out.cells) | (with_reducible exact kp.out))
    (first
      | (go_at_call 73; (with_reducible refine (HC.out _ K0.out).mono ?_); rintro e w3 ⟨A3, m3, c3, us, rfl, hm3, hl3, hb3, hv3, hB3⟩; replace K0 := Lib.hid (K0.out.below hB3); clear hB3; have y0 := K0.out.2.2.1.c0; have y1 := K0.out.2.2.1.c1; have y2 := K0.out.2.2.1.c2; have yf := K0.out.2.2.1.fz; have kp := Lib.hid (HoldM3.kept K0.out false A3 m3 c3 t)))
  all_goals (
    have hq := K0.out.out (o := ⟨false, D.val ds * D.val es, t⟩) (Lg := n + m + 1) hl3 hm3 hb3 hv3
    rw [← HO.out] at hq
    have hz := K0.out.2.2.1.put false A3 m3 c3 t
    have z0 := hz.c0
    have z1 := hz.c1
    have z2 := hz.c2
    have Hfin : Hid (NTold w (pN false (D.val ds) e1 false (D.val es) e2) (n + m + 1) (.returned (.agg #[.bool false, .slice A3 m3 c3, .int .i64 t])) (World.put w3 (w.heap.size + 1 + 1) false A3 m3 c3 t)) := by
      rw [HO.out] at hq ⊢
      exact hq
    clear HC HO hl3 hb3 hv3 K0 kp hq hz
    go_wp2
    exact bodyPost_ret (v := .agg #[.bool false, .slice A3 m3 c3, .int .i64 t]) (by simp [results, Tryd.results48, go_sem, z0, z1, z2]) rfl Hfin.out)

set_option maxHeartbeats 2000000 in
set_option maxRecDepth 20000 in
theorem imul_ft (A : Option Addr) (n c : Nat) (ds : List Nat) (e1 : Int) (B : Option Addr) (m d : Nat) (es : List Nat) (e2 : Int) (w : World) (hA : Dig w A n c ds) (hB : Dig w B m d es) (ba : D.Bare ds) (bb : D.Bare es) (h1 : D.val ds ≠ 0) (h2 : D.val es ≠ 0) (hn : n ≤ 1000) (hm : m ≤ 1000) (he1 : -100000 ≤ e1) (he2 : e1 ≤ 100000) (hf1 : -100000 ≤ e2) (hf2 : e2 ≤ 100000) :
    Calls Tryd.prog 48 #[.agg #[.bool false, .slice A n c, .int .i64 e1], .agg #[.bool true, .slice B m d, .int .i64 e2]] w (NTold w (pN false (D.val ds) e1 true (D.val es) e2) (n + m + 1)) := by
  have k0 := HoldM3.start (g := false) (e1 := e1) (k := true) (e2 := e2) hA hB
  have K0 := Lib.hid (k0.below (below_drew _))
  have HC : Hid (∀ u, HoldM3 w false A n c ds e1 true B m d es e2 u → Calls Tryd.prog 73 #[.slice A n c, .slice B m d] u (DTells u (D.val ds * D.val es) (n + m + 1))) := fun u hu => rmul_any A n c ds B m d es u hu.2.2.2.1 hu.2.2.2.2.1 (by omega) (by omega)
  have e0 : n ≠ 0 := fun h => h1 ((dlen_nil hA ba).1 h)
  have e0' : m ≠ 0 := fun h => h2 ((dlen_nil hB bb).1 h)
  have c0 : ((n : Int) == 0) = false := beq_no (by omega)
  have c1 : ((m : Int) == 0) = false := beq_no (by omega)
  have c0n : (n == 0) = false := by simpa using e0
  have c1n : (m == 0) = false := by simpa using e0'
  obtain ⟨t, ht⟩ : ∃ t : Int, e1 + e2 = t := ⟨_, rfl⟩
  have wt : IntKind.i64.wrap (e1 + e2) = t := by rw [ht, IntKind.wrap_i64]; omega
  have HO : Hid (pN false (D.val ds) e1 true (D.val es) e2 = ⟨true, D.val ds * D.val es, t⟩) := by
    show _ = _
    unfold pN
    rw [if_neg (by omega), ht]
    rfl
  have x1 := k0.1.c1
  have y1 := k0.2.1.c1
  clear hA hB ba bb k0 h1 h2 e0 e0' ht
  go_enter Tryd.func48, Tryd.ntmps48
  go_wp2_with fail
  clear x1 y1
  go_region_held3 (fun u => u.cell? ⟨w.heap.size, 0, none⟩ = some (.bool false) ∧ u.cell? ⟨w.heap.size, 1, none⟩ = some (.slice A n c) ∧ u.cell? ⟨w.heap.size, 2, none⟩ = some (.int .i64 e1) ∧ u.cell? ⟨w.heap.size + 1, 0, none⟩ = some (.bool true) ∧ u.cell? ⟨w.heap.size + 1, 1, none⟩ = some (.slice B m d) ∧ u.cell? ⟨w.heap.size + 1, 2, none⟩ = some (.int .i64 e2)) (first | (with_reducible exact K0.out.cells) | (with_reducible exact kp.out))
    (first
      | (go_at_call 73; (with_reducible refine (HC.out _ K0.out).mono ?_); rintro e w3 ⟨A3, m3, c3, us, rfl, hm3, hl3, hb3, hv3, hB3⟩; replace K0 := Lib.hid (K0.out.below hB3); clear hB3; have y0 := K0.out.2.2.1.c0; have y1 := K0.out.2.2.1.c1; have y2 := K0.out.2.2.1.c2; have yf := K0.out.2.2.1.fz; have kp := Lib.hid (HoldM3.kept K0.out true A3 m3 c3 t)))
  all_goals (
    have hq := K0.out.out (o := ⟨true, D.val ds * D.val es, t⟩) (Lg := n + m + 1) hl3 hm3 hb3 hv3
    rw [← HO.out] at hq
    have hz := K0.out.2.2.1.put true A3 m3 c3 t
    have z0 := hz.c0
    have z1 := hz.c1
    have z2 := hz.c2
    have Hfin : Hid (NTold w (pN false (D.val ds) e1 true (D.val es) e2) (n + m + 1) (.returned (.agg #[.bool true, .slice A3 m3 c3, .int .i64 t])) (World.put w3 (w.heap.size + 1 + 1) true A3 m3 c3 t)) := by
      rw [HO.out] at hq ⊢
      exact hq
    clear HC HO hl3 hb3 hv3 K0 kp hq hz
    go_wp2
    exact bodyPost_ret (v := .agg #[.bool true, .slice A3 m3 c3, .int .i64 t]) (by simp [results, Tryd.results48, go_sem, z0, z1, z2]) rfl Hfin.out)

set_option maxHeartbeats 2000000 in
set_option maxRecDepth 20000 in
theorem imul_tf (A : Option Addr) (n c : Nat) (ds : List Nat) (e1 : Int) (B : Option Addr) (m d : Nat) (es : List Nat) (e2 : Int) (w : World) (hA : Dig w A n c ds) (hB : Dig w B m d es) (ba : D.Bare ds) (bb : D.Bare es) (h1 : D.val ds ≠ 0) (h2 : D.val es ≠ 0) (hn : n ≤ 1000) (hm : m ≤ 1000) (he1 : -100000 ≤ e1) (he2 : e1 ≤ 100000) (hf1 : -100000 ≤ e2) (hf2 : e2 ≤ 100000) :
    Calls Tryd.prog 48 #[.agg #[.bool true, .slice A n c, .int .i64 e1], .agg #[.bool false, .slice B m d, .int .i64 e2]] w (NTold w (pN true (D.val ds) e1 false (D.val es) e2) (n + m + 1)) := by
  have k0 := HoldM3.start (g := true) (e1 := e1) (k := false) (e2 := e2) hA hB
  have K0 := Lib.hid (k0.below (below_drew _))
  have HC : Hid (∀ u, HoldM3 w true A n c ds e1 false B m d es e2 u → Calls Tryd.prog 73 #[.slice A n c, .slice B m d] u (DTells u (D.val ds * D.val es) (n + m + 1))) := fun u hu => rmul_any A n c ds B m d es u hu.2.2.2.1 hu.2.2.2.2.1 (by omega) (by omega)
  have e0 : n ≠ 0 := fun h => h1 ((dlen_nil hA ba).1 h)
  have e0' : m ≠ 0 := fun h => h2 ((dlen_nil hB bb).1 h)
  have c0 : ((n : Int) == 0) = false := beq_no (by omega)
  have c1 : ((m : Int) == 0) = false := beq_no (by omega)
  have c0n : (n == 0) = false := by simpa using e0
  have c1n : (m == 0) = false := by simpa using e0'
  obtain ⟨t, ht⟩ : ∃ t : Int, e1 + e2 = t := ⟨_, rfl⟩
  have wt : IntKind.i64.wrap (e1 + e2) = t := by rw [ht, IntKind.wrap_i64]; omega
  have HO : Hid (pN true (D.val ds) e1 false (D.val es) e2 = ⟨true, D.val ds * D.val es, t⟩) := by
    show _ = _
    unfold pN
    rw [if_neg (by omega), ht]
    rfl
  have x1 := k0.1.c1
  have y1 := k0.2.1.c1
  clear hA hB ba bb k0 h1 h2 e0 e0' ht
  go_enter Tryd.func48, Tryd.ntmps48
  go_wp2_with fail
  clear x1 y1
  go_region_held3 (fun u => u.cell? ⟨w.heap.size, 0, none⟩ = some (.bool true) ∧ u.cell? ⟨w.heap.size, 1, none⟩ = some (.slice A n c) ∧ u.cell? ⟨w.heap.size, 2, none⟩ = some (.int .i64 e1) ∧ u.cell? ⟨w.heap.size + 1, 0, none⟩ = some (.bool false) ∧ u.cell? ⟨w.heap.size + 1, 1, none⟩ = some (.slice B m d) ∧ u.cell? ⟨w.heap.size + 1, 2, none⟩ = some (.int .i64 e2)) (first | (with_reducible exact K0.out.cells) | (with_reducible exact kp.out))
    (first
      | (go_at_call 73; (with_reducible refine (HC.out _ K0.out).mono ?_); rintro e w3 ⟨A3, m3, c3, us, rfl, hm3, hl3, hb3, hv3, hB3⟩; replace K0 := Lib.hid (K0.out.below hB3); clear hB3; have y0 := K0.out.2.2.1.c0; have y1 := K0.out.2.2.1.c1; have y2 := K0.out.2.2.1.c2; have yf := K0.out.2.2.1.fz; have kp := Lib.hid (HoldM3.kept K0.out true A3 m3 c3 t)))
  all_goals (
    have hq := K0.out.out (o := ⟨true, D.val ds * D.val es, t⟩) (Lg := n + m + 1) hl3 hm3 hb3 hv3
    rw [← HO.out] at hq
    have hz := K0.out.2.2.1.put true A3 m3 c3 t
    have z0 := hz.c0
    have z1 := hz.c1
    have z2 := hz.c2
    have Hfin : Hid (NTold w (pN true (D.val ds) e1 false (D.val es) e2) (n + m + 1) (.returned (.agg #[.bool true, .slice A3 m3 c3, .int .i64 t])) (World.put w3 (w.heap.size + 1 + 1) true A3 m3 c3 t)) := by
      rw [HO.out] at hq ⊢
      exact hq
    clear HC HO hl3 hb3 hv3 K0 kp hq hz
    go_wp2
    exact bodyPost_ret (v := .agg #[.bool true, .slice A3 m3 c3, .int .i64 t]) (by simp [results, Tryd.results48, go_sem, z0, z1, z2]) rfl Hfin.out)

set_option maxHeartbeats 2000000 in
set_option maxRecDepth 20000 in
theorem imul_tt (A : Option Addr) (n c : Nat) (ds : List Nat) (e1 : Int) (B : Option Addr) (m d : Nat) (es : List Nat) (e2 : Int) (w : World) (hA : Dig w A n c ds) (hB : Dig w B m d es) (ba : D.Bare ds) (bb : D.Bare es) (h1 : D.val ds ≠ 0) (h2 : D.val es ≠ 0) (hn : n ≤ 1000) (hm : m ≤ 1000) (he1 : -100000 ≤ e1) (he2 : e1 ≤ 100000) (hf1 : -100000 ≤ e2) (hf2 : e2 ≤ 100000) :
    Calls Tryd.prog 48 #[.agg #[.bool true, .slice A n c, .int .i64 e1], .agg #[.bool true, .slice B m d, .int .i64 e2]] w (NTold w (pN true (D.val ds) e1 true (D.val es) e2) (n + m + 1)) := by
  have k0 := HoldM3.start (g := true) (e1 := e1) (k := true) (e2 := e2) hA hB
  have K0 := Lib.hid (k0.below (below_drew _))
  have HC : Hid (∀ u, HoldM3 w true A n c ds e1 true B m d es e2 u → Calls Tryd.prog 73 #[.slice A n c, .slice B m d] u (DTells u (D.val ds * D.val es) (n + m + 1))) := fun u hu => rmul_any A n c ds B m d es u hu.2.2.2.1 hu.2.2.2.2.1 (by omega) (by omega)
  have e0 : n ≠ 0 := fun h => h1 ((dlen_nil hA ba).1 h)
  have e0' : m ≠ 0 := fun h => h2 ((dlen_nil hB bb).1 h)
  have c0 : ((n : Int) == 0) = false := beq_no (by omega)
  have c1 : ((m : Int) == 0) = false := beq_no (by omega)
  have c0n : (n == 0) = false := by simpa using e0
  have c1n : (m == 0) = false := by simpa using e0'
  obtain ⟨t, ht⟩ : ∃ t : Int, e1 + e2 = t := ⟨_, rfl⟩
  have wt : IntKind.i64.wrap (e1 + e2) = t := by rw [ht, IntKind.wrap_i64]; omega
  have HO : Hid (pN true (D.val ds) e1 true (D.val es) e2 = ⟨false, D.val ds * D.val es, t⟩) := by
    show _ = _
    unfold pN
    rw [if_neg (by omega), ht]
    rfl
  have x1 := k0.1.c1
  have y1 := k0.2.1.c1
  clear hA hB ba bb k0 h1 h2 e0 e0' ht
  go_enter Tryd.func48, Tryd.ntmps48
  go_wp2_with fail
  clear x1 y1
  go_region_held3 (fun u => u.cell? ⟨w.heap.size, 0, none⟩ = some (.bool true) ∧ u.cell? ⟨w.heap.size, 1, none⟩ = some (.slice A n c) ∧ u.cell? ⟨w.heap.size, 2, none⟩ = some (.int .i64 e1) ∧ u.cell? ⟨w.heap.size + 1, 0, none⟩ = some (.bool true) ∧ u.cell? ⟨w.heap.size + 1, 1, none⟩ = some (.slice B m d) ∧ u.cell? ⟨w.heap.size + 1, 2, none⟩ = some (.int .i64 e2)) (first | (with_reducible exact K0.out.cells) | (with_reducible exact kp.out))
    (first
      | (go_at_call 73; (with_reducible refine (HC.out _ K0.out).mono ?_); rintro e w3 ⟨A3, m3, c3, us, rfl, hm3, hl3, hb3, hv3, hB3⟩; replace K0 := Lib.hid (K0.out.below hB3); clear hB3; have y0 := K0.out.2.2.1.c0; have y1 := K0.out.2.2.1.c1; have y2 := K0.out.2.2.1.c2; have yf := K0.out.2.2.1.fz; have kp := Lib.hid (HoldM3.kept K0.out false A3 m3 c3 t)))
  all_goals (
    have hq := K0.out.out (o := ⟨false, D.val ds * D.val es, t⟩) (Lg := n + m + 1) hl3 hm3 hb3 hv3
    rw [← HO.out] at hq
    have hz := K0.out.2.2.1.put false A3 m3 c3 t
    have z0 := hz.c0
    have z1 := hz.c1
    have z2 := hz.c2
    have Hfin : Hid (NTold w (pN true (D.val ds) e1 true (D.val es) e2) (n + m + 1) (.returned (.agg #[.bool false, .slice A3 m3 c3, .int .i64 t])) (World.put w3 (w.heap.size + 1 + 1) false A3 m3 c3 t)) := by
      rw [HO.out] at hq ⊢
      exact hq
    clear HC HO hl3 hb3 hv3 K0 kp hq hz
    go_wp2
    exact bodyPost_ret (v := .agg #[.bool false, .slice A3 m3 c3, .int .i64 t]) (by simp [results, Tryd.results48, go_sem, z0, z1, z2]) rfl Hfin.out)

theorem imul_l (g k : Bool) (A : Option Addr) (n c : Nat) (ds : List Nat) (e1 : Int) (B : Option Addr) (m d : Nat) (es : List Nat) (e2 : Int) (w : World) (hA : Dig w A n c ds) (hB : Dig w B m d es) (ba : D.Bare ds) (bb : D.Bare es) (hn : n ≤ 1000) (hm : m ≤ 1000) (he1 : -100000 ≤ e1) (he2 : e1 ≤ 100000) (hf1 : -100000 ≤ e2) (hf2 : e2 ≤ 100000) :
    Calls Tryd.prog 48 #[.agg #[.bool g, .slice A n c, .int .i64 e1], .agg #[.bool k, .slice B m d, .int .i64 e2]] w (NTold w (pN g (D.val ds) e1 k (D.val es) e2) (n + m + 1)) := by
  by_cases h1 : D.val ds = 0
  · exact imul_z1 g k A n c ds e1 B m d es e2 w hA hB ba bb h1
  · by_cases h2 : D.val es = 0
    · exact imul_z2 g k A n c ds e1 B m d es e2 w hA hB ba bb h1 h2
    · cases g <;> cases k
      · exact imul_ff A n c ds e1 B m d es e2 w hA hB ba bb h1 h2 hn hm he1 he2 hf1 hf2
      · exact imul_ft A n c ds e1 B m d es e2 w hA hB ba bb h1 h2 hn hm he1 he2 hf1 hf2
      · exact imul_tf A n c ds e1 B m d es e2 w hA hB ba bb h1 h2 hn hm he1 he2 hf1 hf2
      · exact imul_tt A n c ds e1 B m d es e2 w hA hB ba bb h1 h2 hn hm he1 he2 hf1 hf2
end Go.Proofs.YtafgooiakmmfkaaDoor
