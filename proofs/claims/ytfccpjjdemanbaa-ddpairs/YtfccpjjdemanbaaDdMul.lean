/- The document's product: planimeterref09.Mul. -/
import Derived.Test.YtfccpjjdemanbaaDdVal
import Derived.Test.YtfccpjjdemanbaaJ1
namespace Go.Proofs.Ytfccpjjdemanbaa
open Go.RowKit

set_option maxHeartbeats 1000000 in
theorem rmul9_ff (A : Option Addr) (n c : Nat) (ds : List Nat) (e1 : Int) (B : Option Addr) (m d : Nat) (es : List Nat) (e2 : Int) (w : World) (hA : Dig w A n c ds) (hB : Dig w B m d es) (hn : n ≤ 1000) (hm : m ≤ 1000)
    (E : Int) (P : Nat) (h1 : -1073741824 ≤ E) (h2 : E ≤ 1073741824) (hE : e1 + e2 = E) (hP : D.val ds * D.val es = P) :
    Calls Try.prog 20 #[.agg #[.bool false, .slice A n c, .int .i64 e1], .agg #[.bool false, .slice B m d, .int .i64 e2]] w (NTold w ⟨false, P, E⟩ (n + m + 1)) := by
  have h0 : HS3 w w.heap.size false A n c ds e1 (w.heap.size + 1) false B m d es e2 (w.heap.size + 1 + 1) _ := HN.start3 w false A n c ds e1 false B m d es e2 hA hB
  have F0 := Lib.hid (h0.below (below_drew _))
  have K0 := Lib.hid F0.out.cells
  have D1 := Lib.hid F0.out.1.2.2.1
  have D2 := Lib.hid F0.out.1.2.2.2.1
  have HM : Hid (∀ u, Dig u A n c ds → Dig u B m d es → Calls Try.prog 39 #[.slice A n c, .slice B m d] u (DTells u P (n + m + 1))) := fun u d1 d2 => by
    have := rmul_any A n c ds B m d es u d1 d2 (by omega) (by omega)
    rw [hP] at this
    exact this
  have hw : IntKind.i64.wrap E = E := by rw [IntKind.wrap_i64]; omega
  clear hA hB h0 hn hm h1 h2 hP
  go_enter Try.func20, Try.ntmps20
  go_wp2_with fail
  go_region_held3 (fun w' => w'.cell? ⟨w.heap.size, 0, none⟩ = some (.bool false) ∧ w'.cell? ⟨w.heap.size, 1, none⟩ = some (.slice A n c) ∧ w'.cell? ⟨w.heap.size, 2, none⟩ = some (.int .i64 e1) ∧ w'.cell? ⟨w.heap.size + 1, 0, none⟩ = some (.bool false) ∧ w'.cell? ⟨w.heap.size + 1, 1, none⟩ = some (.slice B m d) ∧ w'.cell? ⟨w.heap.size + 1, 2, none⟩ = some (.int .i64 e2))
    (first | (with_reducible exact ⟨K0.out.1, K0.out.2.1, K0.out.2.2.1, K0.out.2.2.2.1, K0.out.2.2.2.2.1, K0.out.2.2.2.2.2.1⟩) | (with_reducible exact K1.out) | (with_reducible exact K2.out))
    ((go_at_call 39; (with_reducible refine (HM.out _ D1.out D2.out).mono ?_); rintro e w1 ⟨A1, m1, c1, rs, rfl, hm1, hl1, hd1, hv1, hB1⟩; have F1 := F0.out.below hB1; have C1 := F1.cells; have K1 := Lib.hid (And.intro C1.1 (And.intro C1.2.1 (And.intro C1.2.2.1 (And.intro C1.2.2.2.1 (And.intro C1.2.2.2.2.1 C1.2.2.2.2.2.1))))); have o1 := F1.1.1.other (b' := w.heap.size + 1 + 1) (by omega) false A1 m1 c1 E; have o2 := F1.1.2.1.other (b' := w.heap.size + 1 + 1) (by omega) false A1 m1 c1 E; have K2 := Lib.hid (And.intro o1.c0 (And.intro o1.c1 (And.intro o1.c2 (And.intro o2.c0 (And.intro o2.c1 o2.c2))))); have u0 := F1.2.c0; have u1 := F1.2.c1; have u2 := F1.2.c2; have uf := F1.2.fz; have Hfin : Hid (NTold w ⟨false, P, E⟩ (n + m + 1) (.returned (.agg #[.bool false, .slice A1 m1 c1, .int .i64 E])) (World.put w1 (w.heap.size + 1 + 1) false A1 m1 c1 E)) := ⟨A1, m1, c1, rs, rfl, hm1, F1.2.dig hl1 _ _ _ _ _, hd1, hv1, below_put F1.1.2.2.2.2 (by omega) _ _ _ _ _⟩; clear hl1 hd1 hv1 hB1 F1 C1 o1 o2))
  all_goals (
    go_wp2_with fail
    exact bodyPost_ret (v := .agg #[.bool false, .slice A1 m1 c1, .int .i64 E]) (by simp [results, Try.results20, go_sem, u0, u1, u2]) rfl Hfin.out)

set_option maxHeartbeats 1000000 in
theorem rmul9_ft (A : Option Addr) (n c : Nat) (ds : List Nat) (e1 : Int) (B : Option Addr) (m d : Nat) (es : List Nat) (e2 : Int) (w : World) (hA : Dig w A n c ds) (hB : Dig w B m d es) (hn : n ≤ 1000) (hm : m ≤ 1000)
    (E : Int) (P : Nat) (h1 : -1073741824 ≤ E) (h2 : E ≤ 1073741824) (hE : e1 + e2 = E) (hP : D.val ds * D.val es = P) :
    Calls Try.prog 20 #[.agg #[.bool false, .slice A n c, .int .i64 e1], .agg #[.bool true, .slice B m d, .int .i64 e2]] w (NTold w ⟨true, P, E⟩ (n + m + 1)) := by
  have h0 : HS3 w w.heap.size false A n c ds e1 (w.heap.size + 1) true B m d es e2 (w.heap.size + 1 + 1) _ := HN.start3 w false A n c ds e1 true B m d es e2 hA hB
  have F0 := Lib.hid (h0.below (below_drew _))
  have K0 := Lib.hid F0.out.cells
  have D1 := Lib.hid F0.out.1.2.2.1
  have D2 := Lib.hid F0.out.1.2.2.2.1
  have HM : Hid (∀ u, Dig u A n c ds → Dig u B m d es → Calls Try.prog 39 #[.slice A n c, .slice B m d] u (DTells u P (n + m + 1))) := fun u d1 d2 => by
    have := rmul_any A n c ds B m d es u d1 d2 (by omega) (by omega)
    rw [hP] at this
    exact this
  have hw : IntKind.i64.wrap E = E := by rw [IntKind.wrap_i64]; omega
  clear hA hB h0 hn hm h1 h2 hP
  go_enter Try.func20, Try.ntmps20
  go_wp2_with fail
  go_region_held3 (fun w' => w'.cell? ⟨w.heap.size, 0, none⟩ = some (.bool false) ∧ w'.cell? ⟨w.heap.size, 1, none⟩ = some (.slice A n c) ∧ w'.cell? ⟨w.heap.size, 2, none⟩ = some (.int .i64 e1) ∧ w'.cell? ⟨w.heap.size + 1, 0, none⟩ = some (.bool true) ∧ w'.cell? ⟨w.heap.size + 1, 1, none⟩ = some (.slice B m d) ∧ w'.cell? ⟨w.heap.size + 1, 2, none⟩ = some (.int .i64 e2))
    (first | (with_reducible exact ⟨K0.out.1, K0.out.2.1, K0.out.2.2.1, K0.out.2.2.2.1, K0.out.2.2.2.2.1, K0.out.2.2.2.2.2.1⟩) | (with_reducible exact K1.out) | (with_reducible exact K2.out))
    ((go_at_call 39; (with_reducible refine (HM.out _ D1.out D2.out).mono ?_); rintro e w1 ⟨A1, m1, c1, rs, rfl, hm1, hl1, hd1, hv1, hB1⟩; have F1 := F0.out.below hB1; have C1 := F1.cells; have K1 := Lib.hid (And.intro C1.1 (And.intro C1.2.1 (And.intro C1.2.2.1 (And.intro C1.2.2.2.1 (And.intro C1.2.2.2.2.1 C1.2.2.2.2.2.1))))); have o1 := F1.1.1.other (b' := w.heap.size + 1 + 1) (by omega) true A1 m1 c1 E; have o2 := F1.1.2.1.other (b' := w.heap.size + 1 + 1) (by omega) true A1 m1 c1 E; have K2 := Lib.hid (And.intro o1.c0 (And.intro o1.c1 (And.intro o1.c2 (And.intro o2.c0 (And.intro o2.c1 o2.c2))))); have u0 := F1.2.c0; have u1 := F1.2.c1; have u2 := F1.2.c2; have uf := F1.2.fz; have Hfin : Hid (NTold w ⟨true, P, E⟩ (n + m + 1) (.returned (.agg #[.bool true, .slice A1 m1 c1, .int .i64 E])) (World.put w1 (w.heap.size + 1 + 1) true A1 m1 c1 E)) := ⟨A1, m1, c1, rs, rfl, hm1, F1.2.dig hl1 _ _ _ _ _, hd1, hv1, below_put F1.1.2.2.2.2 (by omega) _ _ _ _ _⟩; clear hl1 hd1 hv1 hB1 F1 C1 o1 o2))
  all_goals (
    go_wp2_with fail
    exact bodyPost_ret (v := .agg #[.bool true, .slice A1 m1 c1, .int .i64 E]) (by simp [results, Try.results20, go_sem, u0, u1, u2]) rfl Hfin.out)

set_option maxHeartbeats 1000000 in
theorem rmul9_tf (A : Option Addr) (n c : Nat) (ds : List Nat) (e1 : Int) (B : Option Addr) (m d : Nat) (es : List Nat) (e2 : Int) (w : World) (hA : Dig w A n c ds) (hB : Dig w B m d es) (hn : n ≤ 1000) (hm : m ≤ 1000)
    (E : Int) (P : Nat) (h1 : -1073741824 ≤ E) (h2 : E ≤ 1073741824) (hE : e1 + e2 = E) (hP : D.val ds * D.val es = P) :
    Calls Try.prog 20 #[.agg #[.bool true, .slice A n c, .int .i64 e1], .agg #[.bool false, .slice B m d, .int .i64 e2]] w (NTold w ⟨true, P, E⟩ (n + m + 1)) := by
  have h0 : HS3 w w.heap.size true A n c ds e1 (w.heap.size + 1) false B m d es e2 (w.heap.size + 1 + 1) _ := HN.start3 w true A n c ds e1 false B m d es e2 hA hB
  have F0 := Lib.hid (h0.below (below_drew _))
  have K0 := Lib.hid F0.out.cells
  have D1 := Lib.hid F0.out.1.2.2.1
  have D2 := Lib.hid F0.out.1.2.2.2.1
  have HM : Hid (∀ u, Dig u A n c ds → Dig u B m d es → Calls Try.prog 39 #[.slice A n c, .slice B m d] u (DTells u P (n + m + 1))) := fun u d1 d2 => by
    have := rmul_any A n c ds B m d es u d1 d2 (by omega) (by omega)
    rw [hP] at this
    exact this
  have hw : IntKind.i64.wrap E = E := by rw [IntKind.wrap_i64]; omega
  clear hA hB h0 hn hm h1 h2 hP
  go_enter Try.func20, Try.ntmps20
  go_wp2_with fail
  go_region_held3 (fun w' => w'.cell? ⟨w.heap.size, 0, none⟩ = some (.bool true) ∧ w'.cell? ⟨w.heap.size, 1, none⟩ = some (.slice A n c) ∧ w'.cell? ⟨w.heap.size, 2, none⟩ = some (.int .i64 e1) ∧ w'.cell? ⟨w.heap.size + 1, 0, none⟩ = some (.bool false) ∧ w'.cell? ⟨w.heap.size + 1, 1, none⟩ = some (.slice B m d) ∧ w'.cell? ⟨w.heap.size + 1, 2, none⟩ = some (.int .i64 e2))
    (first | (with_reducible exact ⟨K0.out.1, K0.out.2.1, K0.out.2.2.1, K0.out.2.2.2.1, K0.out.2.2.2.2.1, K0.out.2.2.2.2.2.1⟩) | (with_reducible exact K1.out) | (with_reducible exact K2.out))
    ((go_at_call 39; (with_reducible refine (HM.out _ D1.out D2.out).mono ?_); rintro e w1 ⟨A1, m1, c1, rs, rfl, hm1, hl1, hd1, hv1, hB1⟩; have F1 := F0.out.below hB1; have C1 := F1.cells; have K1 := Lib.hid (And.intro C1.1 (And.intro C1.2.1 (And.intro C1.2.2.1 (And.intro C1.2.2.2.1 (And.intro C1.2.2.2.2.1 C1.2.2.2.2.2.1))))); have o1 := F1.1.1.other (b' := w.heap.size + 1 + 1) (by omega) true A1 m1 c1 E; have o2 := F1.1.2.1.other (b' := w.heap.size + 1 + 1) (by omega) true A1 m1 c1 E; have K2 := Lib.hid (And.intro o1.c0 (And.intro o1.c1 (And.intro o1.c2 (And.intro o2.c0 (And.intro o2.c1 o2.c2))))); have u0 := F1.2.c0; have u1 := F1.2.c1; have u2 := F1.2.c2; have uf := F1.2.fz; have Hfin : Hid (NTold w ⟨true, P, E⟩ (n + m + 1) (.returned (.agg #[.bool true, .slice A1 m1 c1, .int .i64 E])) (World.put w1 (w.heap.size + 1 + 1) true A1 m1 c1 E)) := ⟨A1, m1, c1, rs, rfl, hm1, F1.2.dig hl1 _ _ _ _ _, hd1, hv1, below_put F1.1.2.2.2.2 (by omega) _ _ _ _ _⟩; clear hl1 hd1 hv1 hB1 F1 C1 o1 o2))
  all_goals (
    go_wp2_with fail
    exact bodyPost_ret (v := .agg #[.bool true, .slice A1 m1 c1, .int .i64 E]) (by simp [results, Try.results20, go_sem, u0, u1, u2]) rfl Hfin.out)

set_option maxHeartbeats 1000000 in
theorem rmul9_tt (A : Option Addr) (n c : Nat) (ds : List Nat) (e1 : Int) (B : Option Addr) (m d : Nat) (es : List Nat) (e2 : Int) (w : World) (hA : Dig w A n c ds) (hB : Dig w B m d es) (hn : n ≤ 1000) (hm : m ≤ 1000)
    (E : Int) (P : Nat) (h1 : -1073741824 ≤ E) (h2 : E ≤ 1073741824) (hE : e1 + e2 = E) (hP : D.val ds * D.val es = P) :
    Calls Try.prog 20 #[.agg #[.bool true, .slice A n c, .int .i64 e1], .agg #[.bool true, .slice B m d, .int .i64 e2]] w (NTold w ⟨false, P, E⟩ (n + m + 1)) := by
  have h0 : HS3 w w.heap.size true A n c ds e1 (w.heap.size + 1) true B m d es e2 (w.heap.size + 1 + 1) _ := HN.start3 w true A n c ds e1 true B m d es e2 hA hB
  have F0 := Lib.hid (h0.below (below_drew _))
  have K0 := Lib.hid F0.out.cells
  have D1 := Lib.hid F0.out.1.2.2.1
  have D2 := Lib.hid F0.out.1.2.2.2.1
  have HM : Hid (∀ u, Dig u A n c ds → Dig u B m d es → Calls Try.prog 39 #[.slice A n c, .slice B m d] u (DTells u P (n + m + 1))) := fun u d1 d2 => by
    have := rmul_any A n c ds B m d es u d1 d2 (by omega) (by omega)
    rw [hP] at this
    exact this
  have hw : IntKind.i64.wrap E = E := by rw [IntKind.wrap_i64]; omega
  clear hA hB h0 hn hm h1 h2 hP
  go_enter Try.func20, Try.ntmps20
  go_wp2_with fail
  go_region_held3 (fun w' => w'.cell? ⟨w.heap.size, 0, none⟩ = some (.bool true) ∧ w'.cell? ⟨w.heap.size, 1, none⟩ = some (.slice A n c) ∧ w'.cell? ⟨w.heap.size, 2, none⟩ = some (.int .i64 e1) ∧ w'.cell? ⟨w.heap.size + 1, 0, none⟩ = some (.bool true) ∧ w'.cell? ⟨w.heap.size + 1, 1, none⟩ = some (.slice B m d) ∧ w'.cell? ⟨w.heap.size + 1, 2, none⟩ = some (.int .i64 e2))
    (first | (with_reducible exact ⟨K0.out.1, K0.out.2.1, K0.out.2.2.1, K0.out.2.2.2.1, K0.out.2.2.2.2.1, K0.out.2.2.2.2.2.1⟩) | (with_reducible exact K1.out) | (with_reducible exact K2.out))
    ((go_at_call 39; (with_reducible refine (HM.out _ D1.out D2.out).mono ?_); rintro e w1 ⟨A1, m1, c1, rs, rfl, hm1, hl1, hd1, hv1, hB1⟩; have F1 := F0.out.below hB1; have C1 := F1.cells; have K1 := Lib.hid (And.intro C1.1 (And.intro C1.2.1 (And.intro C1.2.2.1 (And.intro C1.2.2.2.1 (And.intro C1.2.2.2.2.1 C1.2.2.2.2.2.1))))); have o1 := F1.1.1.other (b' := w.heap.size + 1 + 1) (by omega) false A1 m1 c1 E; have o2 := F1.1.2.1.other (b' := w.heap.size + 1 + 1) (by omega) false A1 m1 c1 E; have K2 := Lib.hid (And.intro o1.c0 (And.intro o1.c1 (And.intro o1.c2 (And.intro o2.c0 (And.intro o2.c1 o2.c2))))); have u0 := F1.2.c0; have u1 := F1.2.c1; have u2 := F1.2.c2; have uf := F1.2.fz; have Hfin : Hid (NTold w ⟨false, P, E⟩ (n + m + 1) (.returned (.agg #[.bool false, .slice A1 m1 c1, .int .i64 E])) (World.put w1 (w.heap.size + 1 + 1) false A1 m1 c1 E)) := ⟨A1, m1, c1, rs, rfl, hm1, F1.2.dig hl1 _ _ _ _ _, hd1, hv1, below_put F1.1.2.2.2.2 (by omega) _ _ _ _ _⟩; clear hl1 hd1 hv1 hB1 F1 C1 o1 o2))
  all_goals (
    go_wp2_with fail
    exact bodyPost_ret (v := .agg #[.bool false, .slice A1 m1 c1, .int .i64 E]) (by simp [results, Try.results20, go_sem, u0, u1, u2]) rfl Hfin.out)

/-- Of any two. -/
theorem rmul9 (g : Bool) (A : Option Addr) (n c : Nat) (ds : List Nat) (e1 : Int) (k : Bool) (B : Option Addr) (m d : Nat) (es : List Nat) (e2 : Int) (w : World) (hA : Dig w A n c ds) (hB : Dig w B m d es) (hn : n ≤ 1000) (hm : m ≤ 1000) (h1 : -1073741824 ≤ e1 + e2) (h2 : e1 + e2 ≤ 1073741824) :
    Calls Try.prog 20 #[.agg #[.bool g, .slice A n c, .int .i64 e1], .agg #[.bool k, .slice B m d, .int .i64 e2]] w (NTold w ⟨g ^^ k, D.val ds * D.val es, e1 + e2⟩ (n + m + 1)) := by
  cases g <;> cases k
  · exact rmul9_ff A n c ds e1 B m d es e2 w hA hB hn hm _ _ h1 h2 rfl rfl
  · exact rmul9_ft A n c ds e1 B m d es e2 w hA hB hn hm _ _ h1 h2 rfl rfl
  · exact rmul9_tf A n c ds e1 B m d es e2 w hA hB hn hm _ _ h1 h2 rfl rfl
  · exact rmul9_tt A n c ds e1 B m d es e2 w hA hB hn hm _ _ h1 h2 rfl rfl
end Go.Proofs.Ytfccpjjdemanbaa
