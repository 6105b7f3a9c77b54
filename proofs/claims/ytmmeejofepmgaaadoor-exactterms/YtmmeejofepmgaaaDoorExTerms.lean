/- The walk of the law ExactTerms (written by law_eterms.py). -/
import Derived.Test.YtmmeejofepmgaaaDoorExTermM
import Derived.BigQuiet
namespace Go.Proofs.YtmmeejofepmgaaaDoor
open Go.RowKit

/-- An exponent of the program in a block of its own. -/
def Qe (w : World) (b : Nat) (M K : Int) : Prop := w.heap[b]? = some (.cells #[.int .i64 M, .int .i64 K] 32)
section
variable {w w' : World} {b : Nat} {M K : Int}
theorem Qe.lt (h : Qe w b M K) : b < w.heap.size := by
  rcases Nat.lt_or_ge b w.heap.size with h' | h'
  · exact h'
  · rw [Qe, Array.getElem?_eq_none h'] at h; cases h
theorem Qe.new (w : World) (M K : Int) : Qe (w.alloc (.cells #[.int .i64 M, .int .i64 K] 32)) w.heap.size M K := by
  show (w.heap.push _)[w.heap.size]? = _
  simp
theorem Qe.below (h : Qe w b M K) (hb : Below w.heap.size w w') : Qe w' b M K := by
  rw [Qe, hb.block b h.lt]; exact h
theorem Qe.c0 (h : Qe w b M K) : w.cell? ⟨b, 0, none⟩ = some (.int .i64 M) := by simp [World.cell?, show w.heap[b]? = _ from h]
theorem Qe.c1 (h : Qe w b M K) : w.cell? ⟨b, 1, none⟩ = some (.int .i64 K) := by simp [World.cell?, show w.heap[b]? = _ from h]
end
/-- While the law is walked: the exponent that came in, the document's number, the exponent told. -/
def HoldF (w : World) (M0 K0 : Int) (pn : Nat) (g1 : Bool) (A1 : Option Addr) (m1 c1 : Nat) (E1 : Int) (V1 : Nat) (es1 : List Nat) (pq : Nat) (M K : Int) (u : World) : Prop :=
  Qb u (w.heap.size + 1) M0 K0 ∧ Bd u pn 30 g1 A1 m1 c1 E1 ∧ Qe u pq M K ∧ Mg u V1 A1 m1 c1 es1 ∧ Below w.heap.size w u
section
variable {w : World} {M0 K0 : Int} {pn : Nat} {g1 : Bool} {A1 : Option Addr} {m1 c1 : Nat} {E1 : Int} {V1 : Nat} {es1 : List Nat} {pq : Nat} {M K : Int} {u u' : World}
theorem HoldF.below (q : HoldF w M0 K0 pn g1 A1 m1 c1 E1 V1 es1 pq M K u) (hb : Below u.heap.size u u') : HoldF w M0 K0 pn g1 A1 m1 c1 E1 V1 es1 pq M K u' := by
  obtain ⟨h1, h2, h3, h4, h5⟩ := q
  exact ⟨h1.below hb, h2.below hb, h3.below hb, h4.below hb, h5.trans (hb.mono h5.size)⟩
theorem HoldF.mg (q : HoldF w M0 K0 pn g1 A1 m1 c1 E1 V1 es1 pq M K u) : Mg u V1 A1 m1 c1 es1 := q.2.2.2.1
theorem HoldF.p0 (q : HoldF w M0 K0 pn g1 A1 m1 c1 E1 V1 es1 pq M K u) : u.cell? ⟨pq, 0, none⟩ = some (.int .i64 M) := q.2.2.1.c0
theorem HoldF.old (q : HoldF w M0 K0 pn g1 A1 m1 c1 E1 V1 es1 pq M K u) : Below w.heap.size w u := q.2.2.2.2
end

theorem u64_id {S : Nat} (h : S < 4611686018427387904) : IntKind.u64.wrap (S : Int) = (S : Int) := by
  simp [IntKind.wrap, IntKind.bits, IntKind.signed]
  omega
section
variable {w : World} {b t : Nat} {g : Bool} {A : Option Addr} {n c : Nat} {e : Int}
theorem exp_heap (w : World) (b : Nat) (v : Value) (k : Nat) (hk : k ≠ b) : (w.setCell ⟨b, 2, none⟩ v).heap[k]? = w.heap[k]? := Below.heap_setCell _ _ _ _ hk
theorem exp_size (w : World) (b : Nat) (v : Value) : (w.setCell ⟨b, 2, none⟩ v).heap.size = w.heap.size := by simp [World.setCell]
theorem Bd.exp_ (h : Bd w b t g A n c e) (e' : Int) : Bd (w.setCell ⟨b, 2, none⟩ (.int .i64 e')) b t g A n c e' := by
  unfold Bd at h ⊢
  simp [World.setCell, Array.getElem?_modify, h]
theorem Bd.exp_other (h : Bd w b t g A n c e) {b' : Nat} (hb : b ≠ b') (v : Value) : Bd (w.setCell ⟨b', 2, none⟩ v) b t g A n c e := by
  unfold Bd; rw [exp_heap _ _ _ _ hb]; exact h
theorem Qb.exp_other {M K : Int} (h : Qb w b M K) {b' : Nat} (hb : b ≠ b') (v : Value) : Qb (w.setCell ⟨b', 2, none⟩ v) b M K := by
  unfold Qb; rw [exp_heap _ _ _ _ hb]; exact h
theorem Qe.exp_other {M K : Int} (h : Qe w b M K) {b' : Nat} (hb : b ≠ b') (v : Value) : Qe (w.setCell ⟨b', 2, none⟩ v) b M K := by
  unfold Qe; rw [exp_heap _ _ _ _ hb]; exact h
theorem Bd.exp_dig (h : Bd w b t g A n c e) {A1 : Option Addr} {n1 c1 : Nat} {ds : List Nat} (hA : Dig w A1 n1 c1 ds) (v : Value) : Dig (w.setCell ⟨b, 2, none⟩ v) A1 n1 c1 ds :=
  ⟨⟨hA.1.1, hA.1.2.1, fun hn => by
    obtain ⟨k, o, ek, hk, hc⟩ := hA.at_ hn
    have hne : k ≠ b := by
      rintro rfl
      have := h.not (hc 0 hn)
      cases this
    exact ⟨k, o, ek, by rw [exp_size]; exact hk, fun j hj => by rw [World.cell?_of_block (w := w) (exp_heap w b v k hne)]; exact hc j hj⟩⟩, hA.2⟩
end
/-- .. and what is reckoned back, in a block q. -/
def RelF (w : World) (M0 K0 : Int) (pn : Nat) (g1 : Bool) (A1 : Option Addr) (m1 c1 : Nat) (E1 : Int) (V1 : Nat) (es1 : List Nat) (pq : Nat) (M K : Int) (q : Nat) (k : Bool) (B : Option Addr) (m d : Nat) (S : Nat) (fs : List Nat) (e : Int) (u : World) : Prop :=
  HoldF w M0 K0 pn g1 A1 m1 c1 E1 V1 es1 pq M K u ∧ Bd u q 30 k B m d e ∧ Mg u S B m d fs ∧ w.heap.size + 1 < q ∧ pn < q ∧ pq < q
section
variable {w : World} {M0 K0 : Int} {pn : Nat} {g1 : Bool} {A1 : Option Addr} {m1 c1 : Nat} {E1 : Int} {V1 : Nat} {es1 : List Nat} {pq : Nat} {M K : Int} {q : Nat} {k : Bool} {B : Option Addr} {m d : Nat} {S : Nat} {fs : List Nat} {e : Int} {u u' : World}
theorem RelF.below (h : RelF w M0 K0 pn g1 A1 m1 c1 E1 V1 es1 pq M K q k B m d S fs e u) (hb : Below u.heap.size u u') : RelF w M0 K0 pn g1 A1 m1 c1 E1 V1 es1 pq M K q k B m d S fs e u' := ⟨h.1.below hb, h.2.1.below hb, h.2.2.1.below hb, h.2.2.2⟩
theorem RelF.exp_ (h : RelF w M0 K0 pn g1 A1 m1 c1 E1 V1 es1 pq M K q k B m d S fs e u) (e' : Int) : RelF w M0 K0 pn g1 A1 m1 c1 E1 V1 es1 pq M K q k B m d S fs e' (u.setCell ⟨q, 2, none⟩ (.int .i64 e')) := by
  obtain ⟨⟨h1, h2, h3, h4, h5⟩, h6, h7, h8, h9, h10⟩ := h
  exact ⟨⟨h1.exp_other (by omega) _, h2.exp_other (by omega) _, h3.exp_other (by omega) _, ⟨h6.exp_dig h4.1 _, h4.2⟩, h5.setCell (p := ⟨q, 2, none⟩) (by show w.heap.size ≤ q; omega) _⟩, h6.exp_ _, ⟨h6.exp_dig h7.1 _, h7.2⟩, h8, h9, h10⟩
/-- The number came last, or its block came ahead. -/
theorem RelF.last {u0 : World} (h0 : HoldF w M0 K0 pn g1 A1 m1 c1 E1 V1 es1 pq M K u0) (hh : HoldV u0 [] u) (hm : Mg u S B m d fs) : RelF w M0 K0 pn g1 A1 m1 c1 E1 V1 es1 pq M K u.heap.size k B m d S fs e (u.alloc (.cells #[.bool k, .slice B m d, .int .i64 e] 30)) := by
  have h := h0.below hh.old
  exact ⟨h.below (below1 _ _), Bd.new u _ _ _ _ _ _, hm.below (below1 _ _), h.1.lt, h.2.1.lt, h.2.2.1.lt⟩
theorem RelF.ahead {u0 : World} (h0 : HoldF w M0 K0 pn g1 A1 m1 c1 E1 V1 es1 pq M K u0) (hh : HoldV u0 [q] u) (hm : Mg u S B m d fs) : RelF w M0 K0 pn g1 A1 m1 c1 E1 V1 es1 pq M K q k B m d S fs e (World.put u q k B m d e) := by
  have hq := hh.first
  have hs := (hh.2.1 q (List.mem_cons.2 (Or.inl rfl))).2
  have l1 := h0.1.lt
  have l2 := h0.2.1.lt
  have l3 := h0.2.2.1.lt
  obtain ⟨q1, q2, q3, q4, q5⟩ := h0.below hh.old
  refine ⟨⟨?_, q2.other (by omega) _ _ _ _ _, ?_, q4.put hq _ _ _ _ _, below_put q5 (by omega) _ _ _ _ _⟩, hq.put _ _ _ _ _, hm.put hq _ _ _ _ _, by omega, by omega, by omega⟩
  · unfold Qb; rw [put_heap _ _ _ _ _ _ _ _ (by omega)]; exact q1
  · unfold Qe; rw [put_heap _ _ _ _ _ _ _ _ (by omega)]; exact q3
end

set_option maxHeartbeats 1000000 in
set_option maxRecDepth 20000 in
theorem eterms_long (HPow : PowerMeets) (g : Bool) (A : Option Addr) (n c : Nat) (e0 M0 K0 : Int) (w : World) (hT : Tab w) (hl : 20 < n) :
    Calls Tryd.prog 3 #[.agg #[.bool g, .slice A n c, .int .i64 e0], .agg #[.int .i64 M0, .int .i64 K0]] w fun e w' => e = .returned (.bool true) ∧ Below w.heap.size w w' := by
  have a1 : Below w.heap.size w ((w.alloc (.cells #[.bool g, .slice A n c, .int .i64 e0] 24)).alloc (.cells #[.int .i64 M0, .int .i64 K0] 26)) := ((Below.refl _ _).alloc (Nat.le_refl _) _).alloc (by simp) _
  have H1 := Lib.hid (ealive_any HPow _ (hT.below a1))
  have Hb := Lib.hid ((Bd.new w 24 g A n c e0).alloc (.cells #[.int .i64 M0, .int .i64 K0] 26))
  have HS := Lib.hid a1
  have b1 : decide ((20 : Int) < (n : Int)) = true := decide_eq_true (by omega)
  clear a1 hT hl
  go_enter Tryd.func3, Tryd.ntmps3
  go_wp2_with fail
  refine H1.out.mono ?_
  rintro e w1 ⟨rfl, hB1⟩
  have x1 := (Hb.out.below hB1).c1
  have Hfin := Lib.hid (HS.out.trans (hB1.mono HS.out.size))
  clear hB1 H1 HS Hb
  go_wp2
  go_ret
  exact ⟨rfl, Hfin.out⟩

set_option maxHeartbeats 2500000 in
set_option maxRecDepth 20000 in
theorem eterms_short (HPow : PowerMeets) (HOf : OfMeets) (HLow : LowMeets) (g : Bool) (A : Option Addr) (n c : Nat) (xs : List Nat) (e0 M0 K0 : Int) (w : World) (hT : Tab w) (hA : Lim w A n c xs) (hn : n ≤ 20) (hi1 : -9223372036854775808 ≤ M0) (hi2 : M0 ≤ 9223372036854775807) (hj1 : -9223372036854775808 ≤ K0) (hj2 : K0 ≤ 9223372036854775807) :
    Calls Tryd.prog 3 #[.agg #[.bool g, .slice A n c, .int .i64 e0], .agg #[.int .i64 M0, .int .i64 K0]] w fun e w' => e = .returned (.bool true) ∧ Below w.heap.size w w' := by
  have a1 : Below w.heap.size w ((w.alloc (.cells #[.bool g, .slice A n c, .int .i64 e0] 24)).alloc (.cells #[.int .i64 M0, .int .i64 K0] 26)) := ((Below.refl _ _).alloc (Nat.le_refl _) _).alloc (by simp) _
  have H1 := Lib.hid (ealive_any HPow _ (hT.below a1))
  have bq := Qb.new (w.alloc (.cells #[.bool g, .slice A n c, .int .i64 e0] 24)) M0 K0
  rw [World.size_alloc] at bq
  have hbl := hA.blen_le
  obtain ⟨⟨g1, V1, E1⟩, hd⟩ : ∃ d, nO g (val xs) e0 = d := ⟨_, rfl⟩
  have hmk := mk_if11 hd
  have hod := nO_odd g (val xs) e0
  rw [hd] at hod
  simp only at hmk
  have heb : -4294967296 ≤ E1 ∧ E1 ≤ 4294967296 := by
    by_cases h0 : val xs = 0
    · rw [h0, nO_zero] at hd
      injection hd with _ _ h3
      subst h3
      decide
    · rw [nO_pos _ _ h0] at hd
      injection hd with _ _ h3
      have h1 := held_bd e0
      have h2 := low_le_blen (val xs)
      omega
  have hvb : blen V1 ≤ 1280 := by
    by_cases h0 : val xs = 0
    · rw [h0, nO_zero] at hd
      injection hd with _ h2 _
      subst h2
      decide
    · rw [nO_pos _ _ h0] at hd
      injection hd with _ h2 _
      rw [← h2]
      have := blen_mono (Nat.div_le_self (val xs) (2 ^ low (val xs)))
      omega
  have HB0 : Hid (Bd ((w.alloc (.cells #[.bool g, .slice A n c, .int .i64 e0] 24)).alloc (.cells #[.int .i64 M0, .int .i64 K0] 26)) w.heap.size 24 g A n c e0 ∧ Qb ((w.alloc (.cells #[.bool g, .slice A n c, .int .i64 e0] 24)).alloc (.cells #[.int .i64 M0, .int .i64 K0] 26)) (w.heap.size + 1) M0 K0 ∧ Lim ((w.alloc (.cells #[.bool g, .slice A n c, .int .i64 e0] 24)).alloc (.cells #[.int .i64 M0, .int .i64 K0] 26)) A n c xs ∧ Tab ((w.alloc (.cells #[.bool g, .slice A n c, .int .i64 e0] 24)).alloc (.cells #[.int .i64 M0, .int .i64 K0] 26)) ∧ Below w.heap.size w ((w.alloc (.cells #[.bool g, .slice A n c, .int .i64 e0] 24)).alloc (.cells #[.int .i64 M0, .int .i64 K0] 26))) := ⟨(Bd.new w _ _ _ _ _ _).alloc _, bq, hA.below a1, hT.below a1, a1⟩
  have HOf1 : Hid (∀ u, Lim u A n c xs → Calls Tryd.prog 7 #[.agg #[.bool g, .slice A n c, .int .i64 e0]] u (NTold u ⟨g1, V1, E1⟩ 80)) := fun u hu => by
    have h := rof_any g A n c xs e0 u hu (by omega)
    rw [hd] at h
    exact h.mono fun _ _ ⟨A1, m1, c1, ds1, q1, q2, q3⟩ => ⟨A1, m1, c1, ds1, q1, by omega, q3⟩
  have HOf2 : Hid (∀ u, Lim u A n c xs → Tab u → Calls Tryd.prog 8 #[.agg #[.bool g, .slice A n c, .int .i64 e0]] u fun e w' => ∃ M K b, e = .returned (.tuple #[.agg #[.int .i64 M, .int .i64 K], .bool b]) ∧ Below u.heap.size u w' ∧ OfIs (if -1073741824 ≤ E1 ∧ E1 ≤ 1073741824 then some ⟨g1, V1, E1⟩ else none) M K b) := fun u h1 h2 => by
    have h := HOf g A n c xs e0 u h1 (by omega) h2
    rw [hmk] at h
    exact h
  have HL := Lib.hid HLow
  have HOd := Lib.hid (And.intro hod (And.intro heb hvb))
  have b1 : decide ((20 : Int) < (n : Int)) = false := decide_eq_false (by omega)
  clear a1 hT hA hd hmk bq HPow HOf HLow hod heb hvb hbl
  go_enter Tryd.func3, Tryd.ntmps3
  go_wp2_with fail
  refine H1.out.mono ?_
  rintro e w1 ⟨rfl, hB1⟩
  obtain ⟨d1, d2, d3, d4, d5⟩ := HB0.out
  replace HB0 : Hid (Bd w1 w.heap.size 24 g A n c e0 ∧ Qb w1 (w.heap.size + 1) M0 K0 ∧ Lim w1 A n c xs ∧ Tab w1 ∧ Below w.heap.size w w1) := ⟨d1.below hB1, d2.below hB1, d3.below hB1, d4.below hB1, d5.trans (hB1.mono d5.size)⟩
  have x0 := HB0.out.1.c0
  have x1 := HB0.out.1.c1
  have x2 := HB0.out.1.c2
  clear hB1 H1 d1 d2 d3 d4 d5
  go_wp2_with fail
  refine (HOf1.out _ HB0.out.2.2.1).mono ?_
  rintro e w2 ⟨A1, m1, c1, es1, rfl, hm1, hl1, hb1, hv1, hB2⟩
  have k2 := hB2.trans ((below1 w2 (.cells #[.bool g1, .slice A1 m1 c1, .int .i64 E1] 30)).mono hB2.size)
  obtain ⟨d1, d2, d3, d4, d5⟩ := HB0.out
  replace HB0 : Hid (Bd (w2.alloc (.cells #[.bool g1, .slice A1 m1 c1, .int .i64 E1] 30)) w.heap.size 24 g A n c e0 ∧ Qb (w2.alloc (.cells #[.bool g1, .slice A1 m1 c1, .int .i64 E1] 30)) (w.heap.size + 1) M0 K0 ∧ Lim (w2.alloc (.cells #[.bool g1, .slice A1 m1 c1, .int .i64 E1] 30)) A n c xs ∧ Tab (w2.alloc (.cells #[.bool g1, .slice A1 m1 c1, .int .i64 E1] 30)) ∧ Below w.heap.size w (w2.alloc (.cells #[.bool g1, .slice A1 m1 c1, .int .i64 E1] 30))) := ⟨d1.below k2, d2.below k2, d3.below k2, d4.below k2, d5.trans (k2.mono d5.size)⟩
  have HN : Hid (Bd (w2.alloc (.cells #[.bool g1, .slice A1 m1 c1, .int .i64 E1] 30)) w2.heap.size 30 g1 A1 m1 c1 E1 ∧ Mg (w2.alloc (.cells #[.bool g1, .slice A1 m1 c1, .int .i64 E1] 30)) V1 A1 m1 c1 es1) := ⟨Bd.new w2 _ _ _ _ _ _, hl1.alloc _, hb1, hv1⟩
  clear hB2 hl1 hb1 hv1 k2 d1 d2 d3 d4 d5 x0 x1 x2 HOf1
  have x0 := HB0.out.1.c0
  have x1 := HB0.out.1.c1
  have x2 := HB0.out.1.c2
  go_wp2_with fail
  refine (HOf2.out _ HB0.out.2.2.1 HB0.out.2.2.2.1).mono ?_
  rintro e w3 ⟨M, K, ok, rfl, hB3, hof⟩
  have k3 := hB3.trans ((below1 w3 (.cells #[.int .i64 M, .int .i64 K] 32)).mono hB3.size)
  obtain ⟨d1, d2, d3, d4, d5⟩ := HB0.out
  have H0 : Hid (HoldF w M0 K0 w2.heap.size g1 A1 m1 c1 E1 V1 es1 w3.heap.size M K (w3.alloc (.cells #[.int .i64 M, .int .i64 K] 32))) := ⟨d2.below k3, HN.out.1.below k3, Qe.new w3 _ _, HN.out.2.below k3, d5.trans (k3.mono d5.size)⟩
  obtain ⟨f1, hf1⟩ : ∃ f, decide (-1073741824 ≤ E1 ∧ E1 ≤ 1073741824) = f := ⟨_, rfl⟩
  have HFi : Hid (∀ u, Calls Tryd.prog 9 #[.agg #[.bool g1, .slice A1 m1 c1, .int .i64 E1]] u fun e w' => e = .returned (.bool f1) ∧ Below u.heap.size u w') := fun u => fits_b f1 g1 A1 m1 c1 E1 u hf1
  rw [show (if -1073741824 ≤ E1 ∧ E1 ≤ 1073741824 then some (⟨g1, V1, E1⟩ : Dy) else none) = if f1 = true then some ⟨g1, V1, E1⟩ else none by rw [← hf1]; simp] at hof
  obtain ⟨tp, htp⟩ : ∃ t, rtop V1 E1 = t := ⟨_, rfl⟩
  obtain ⟨B1, hB1⟩ : ∃ b, blen V1 = b := ⟨_, rfl⟩
  have HTp : Hid (∀ u, HoldF w M0 K0 w2.heap.size g1 A1 m1 c1 E1 V1 es1 w3.heap.size M K u → Calls Tryd.prog 10 #[.agg #[.bool g1, .slice A1 m1 c1, .int .i64 E1]] u fun e w' => e = .returned (.int .i64 tp) ∧ Below u.heap.size u w') := fun u hu => rtop_l tp g1 A1 m1 c1 es1 E1 u hu.mg.1 hu.mg.2.1 (by omega) HOd.out.2.1.1 HOd.out.2.1.2 (by show _ = _; rw [hu.mg.2.2]; exact htp)
  have HBt : Hid (∀ u, HoldF w M0 K0 w2.heap.size g1 A1 m1 c1 E1 V1 es1 w3.heap.size M K u → Calls Tryd.prog 11 #[.slice A1 m1 c1] u fun e w' => e = .returned (.int .i64 (B1 : Int)) ∧ u = w') := fun u hu => by
    have h := rbits_any A1 m1 c1 es1 u hu.mg.1 hu.mg.2.1 (by omega)
    rw [hu.mg.2.2, hB1] at h
    exact h
  have hz1 : m1 = 0 ↔ V1 = 0 := by rw [← H0.out.mg.2.2]; exact dnil_iff H0.out.mg.1 H0.out.mg.2.1
  obtain ⟨may, hmay⟩ : ∃ b, mayB f1 V1 E1 = b := ⟨_, rfl⟩
  have hok : ok = may ∧ (may = false → M = 0 ∧ K = 0) := by
    cases f1 with
    | false =>
      have : may = false := by rw [← hmay]; rfl
      exact ⟨by rw [this]; exact hof.2.2, fun _ => ⟨hof.1, hof.2.1⟩⟩
    | true =>
      simp only [if_true] at hof
      rw [may_is HOd.out.1] at hmay
      unfold OfIs at hof
      simp only at hof
      cases may with
      | true => rw [if_pos hmay] at hof; exact ⟨hof.1, fun h => absurd h (by decide)⟩
      | false =>
        rw [if_neg (by rw [hmay]; decide)] at hof
        exact ⟨hof.2.2, fun _ => ⟨hof.1, hof.2.1⟩⟩
  obtain ⟨rfl, hzero⟩ := hok
  have HOi : Hid (OfIs (if f1 = true then some ⟨g1, V1, E1⟩ else none) M K ok) := hof
  have Hmay := Lib.hid (And.intro hmay (And.intro htp (And.intro hB1 (And.intro hz1 hf1))))
  have Hzero := Lib.hid hzero
  clear hB3 k3 d1 d2 d3 d4 d5 x0 x1 x2 HB0 HN HOf2 hof hmay htp hB1 hz1 hf1 hzero
  go_upto_region 7 with fail
  go_cut [8] from 15 (fun s8 wx => s8 = .bool ok ∧ Hid (HoldF w M0 K0 w2.heap.size g1 A1 m1 c1 E1 V1 es1 w3.heap.size M K wx))
  case first =>
    as_aux_lemma =>
    have x0 := H0.out.2.1.c0
    have x1 := H0.out.2.1.c1
    have x2 := H0.out.2.1.c2
    obtain ⟨hmay, htp, hB1, hz1, _⟩ := Hmay.out
    go_wp2_with fail
    refine (HFi.out _).mono ?_
    rintro e w4 ⟨rfl, hB⟩
    replace H0 := Lib.hid (H0.out.below hB)
    clear hB x0 x1 x2
    have x0 := H0.out.2.1.c0
    have x1 := H0.out.2.1.c1
    have x2 := H0.out.2.1.c2
    cases f1 with
    | false =>
      obtain rfl : false = ok := hmay
      clear htp hB1 hz1 HTp HBt HOi Hmay Hzero
      go_wp2_with fail
      go_meet
      exact ⟨rfl, H0⟩
    | true =>
      unfold mayB at hmay
      rw [Bool.true_and] at hmay
      by_cases q1 : -62 ≤ E1
      case neg =>
        have c1 : decide (-62 ≤ E1) = false := decide_eq_false q1
        rw [c1, Bool.false_and] at hmay
        obtain rfl : false = ok := hmay
        clear htp hB1 hz1 HTp HBt HOi Hmay Hzero q1
        go_wp2_with fail
        go_meet
        exact ⟨rfl, H0⟩
      case pos =>
        have c1 : decide (-62 ≤ E1) = true := decide_eq_true q1
        rw [c1, Bool.true_and] at hmay
        by_cases q2 : V1 = 0
        case pos =>
          rw [decide_eq_true q2, Bool.true_or] at hmay
          obtain rfl : true = ok := hmay
          obtain rfl : m1 = 0 := hz1.2 q2
          clear htp hB1 hz1 HTp HBt HOi Hmay Hzero q1 q2
          go_wp2_with fail
          go_meet
          exact ⟨rfl, H0⟩
        case neg =>
          rw [decide_eq_false q2, Bool.false_or, htp, hB1] at hmay
          have c2 : ((m1 : Int) == 0) = false := beq_eq_false_iff_ne.2 (fun h => q2 (hz1.1 (by omega)))
          clear htp hB1 hz1 HOi Hmay Hzero q1 q2
          go_wp2_with fail
          refine (HTp.out _ H0.out).mono ?_
          rintro e w5 ⟨rfl, hB⟩
          replace H0 := Lib.hid (H0.out.below hB)
          clear hB x0 x1 x2 HTp
          have x1 := H0.out.2.1.c1
          by_cases q3 : tp < 62
          case neg =>
            have c3 : decide (tp < 62) = false := decide_eq_false q3
            rw [c3, Bool.false_and] at hmay
            obtain rfl : false = ok := hmay
            clear HBt q3
            go_wp2_with fail
            go_meet
            exact ⟨rfl, H0⟩
          case pos =>
            have c3 : decide (tp < 62) = true := decide_eq_true q3
            rw [c3, Bool.true_and] at hmay
            go_wp2_with fail
            refine (HBt.out _ H0.out).mono ?_
            rintro e w' ⟨rfl, rfl⟩
            by_cases q4 : B1 ≤ 62
            · have c4 : decide ((B1 : Int) ≤ 62) = true := decide_eq_true (by omega)
              rw [decide_eq_true q4] at hmay
              obtain rfl : true = ok := hmay
              clear HBt q3 q4
              go_wp2_with fail
              go_meet
              exact ⟨rfl, H0⟩
            · have c4 : decide ((B1 : Int) ≤ 62) = false := decide_eq_false (by omega)
              rw [decide_eq_false q4] at hmay
              obtain rfl : false = ok := hmay
              clear HBt q3 q4
              go_wp2_with fail
              go_meet
              exact ⟨rfl, H0⟩
  case rest =>
  as_aux_lemma =>
  obtain ⟨wA, rfl⟩ : ∃ wA, wA = wc := ⟨_, rfl⟩
  obtain ⟨rfl, HA⟩ := hcut
  clear H0 HFi HTp HBt
  have p0 := HA.out.2.2.1.c0
  have p1 := HA.out.2.2.1.c1
  have bok : (ok == ok) = true := by simp
  go_upto_region 8 with fail
  go_cut [63] from 15 (fun s63 wx => s63 = .bool false ∧ Hid (HoldF w M0 K0 w2.heap.size g1 A1 m1 c1 E1 V1 es1 w3.heap.size M K wx))
  case first =>
    as_aux_lemma =>
    cases ok with
    | false =>
      obtain ⟨rfl, rfl⟩ := Hzero.out rfl
      clear Hzero HOi Hmay HOd
      go_wp2_with fail
      go_meet
      exact ⟨rfl, HA⟩
    | true =>
      clear Hzero HOi Hmay HOd
      go_wp2_with fail
      go_meet
      exact ⟨rfl, HA⟩
  case rest =>
  as_aux_lemma =>
  obtain ⟨wB, rfl⟩ : ∃ wB, wB = wc := ⟨_, rfl⟩
  clear HA p0 p1
  obtain ⟨rfl, HA⟩ := hcut
  clear Hzero bok
  have p0 := HA.out.2.2.1.c0
  have p1 := HA.out.2.2.1.c1
  go_upto_if 64 with fail
  go_cut [9, 10, 11] from 15 (fun s9 s10 s11 wx => Hid (HoldF w M0 K0 w2.heap.size g1 A1 m1 c1 E1 V1 es1 w3.heap.size M K wx))
  case first =>
    as_aux_lemma =>
    cases ok with
    | false =>
      clear HOi Hmay HOd
      go_wp2_with fail
      go_meet
      exact HA
    | true =>
      have hof := HOi.out
      have hE1 := Hmay.out.2.2.2.2
      cases f1 with
      | false => exact absurd hof.2.2 (by decide)
      | true =>
      have hE : -1073741824 ≤ E1 ∧ E1 ≤ 1073741824 := of_decide_eq_true hE1
      rw [if_pos rfl] at hof
      unfold OfIs at hof
      simp only at hof
      have hbb : (ofS ⟨g1, V1, E1⟩).2.2 = true := by
        by_cases h : (ofS ⟨g1, V1, E1⟩).2.2 = true
        · exact h
        · rw [if_neg h] at hof
          exact absurd hof.2.2 (by decide)
      have hw := of_worth HOd.out.1 hbb
      rw [if_pos hbb] at hof
      obtain ⟨-, hM, hK⟩ := hof
      clear hbb
      generalize (ofS ⟨g1, V1, E1⟩).1 = S at hw hM
      generalize (ofS ⟨g1, V1, E1⟩).2.1 = s at hw hK
      obtain ⟨hS, hs, hdw, hodd, hz⟩ := hw
      have hp : (2 : Nat) ^ s ≤ 2 ^ 62 := Nat.pow_le_pow_right (by decide) hs
      have hp0 : 1 ≤ (2 : Nat) ^ s := Nat.two_pow_pos s
      obtain ⟨P, hP⟩ : ∃ P : Nat, 2 ^ s = P := ⟨_, rfl⟩
      rw [hP] at hp hp0
      have hKP : K = (P : Int) := by rw [hK, ← hP]; exact (Int.natCast_pow 2 s).symm
      subst hKP
      have hp1 : P ≤ 4611686018427387904 := Nat.le_trans hp (by decide)
      have hMg : decide (M < 0) = g1 ∧ -4611686018427387904 < M ∧ M < 4611686018427387904 := by
        cases g1 with
        | true =>
          simp only [if_true] at hM
          have : S ≠ 0 := fun h => absurd (hz h).1 (by decide)
          exact ⟨decide_eq_true (by omega), by omega, by omega⟩
        | false =>
          rw [if_neg (by decide)] at hM
          exact ⟨decide_eq_false (by omega), by omega, by omega⟩
      obtain ⟨hMg, hMb1, hMb2⟩ := hMg
      have hMo : s ≠ 0 → M.tmod 2 ≠ 0 := fun h h2 => by
        have h3 := hodd h
        have h4 : (2 : Int) ∣ M := Int.dvd_of_tmod_eq_zero h2
        rw [hM] at h4
        cases g1 with
        | true => simp only [if_true] at h4; omega
        | false => rw [if_neg (by decide)] at h4; omega
      have HW : Hid ((if g1 = true then -(S : Int) else (S : Int)) = M ∧ dw g1 S (-(s : Int)) = dw g1 V1 E1 ∧ (s ≠ 0 → M.tmod 2 ≠ 0) ∧ 2 ^ s = P) := ⟨hM.symm, hdw, hMo, hP⟩
      have bk : decide ((P : Int) < 1) = false := decide_eq_false (by omega)
      clear hE1 HOi Hmay HOd hM hdw hMo hP hodd hz hp hK HL
      go_upto_if 70 with fail
      go_cut [9] from 15 (fun s9 wx => s9 = .int .u64 (S : Int) ∧ Hid (HoldF w M0 K0 w2.heap.size g1 A1 m1 c1 E1 V1 es1 w3.heap.size M (P : Int) wx))
      case first =>
        as_aux_lemma =>
        have hM := HW.out.1
        cases g1 with
        | true =>
          rw [if_pos rfl] at hM
          have hMn : M < 0 := of_decide_eq_true hMg
          have hMS : -M = (S : Int) := by omega
          clear hM
          go_wp2_with fail
          go_meet
          exact ⟨by go_num, HA⟩
        | false =>
          rw [if_neg (by decide)] at hM
          subst hM
          go_wp2_with fail
          go_meet
          exact ⟨by rw [u64_id hS], HA⟩
      case rest =>
      as_aux_lemma =>
      obtain ⟨wG, rfl⟩ : ∃ wG, wG = wc := ⟨_, rfl⟩
      obtain ⟨rfl, HG0⟩ := hcut
      clear HA p0 p1
      have p0 := HG0.out.2.2.1.c0
      have p1 := HG0.out.2.2.1.c1
      have HNum := Lib.hid (fun u => num_any S (by omega) u)
      have cur := Lib.hid ((HoldV.start wG).below (below_drew _))
      have F1 := Lib.hid ((HoldV.start wG).one.below (below_drew _))
      go_upto_region 14 with fail
      go_cut [10] from 15 (fun s10 wx => ∃ (q m d : Nat) (B : Option Addr) (fs : List Nat), s10 = .pointer (some ⟨q, 0, none⟩) ∧ m ≤ 4 ∧ Hid (RelF w M0 K0 w2.heap.size g1 A1 m1 c1 E1 V1 es1 w3.heap.size M (P : Int) q g1 B m d S fs 0 wx))
      case first =>
        as_aux_lemma =>
        go_region_held3 (fun u => u.cell? ⟨w3.heap.size, 0, none⟩ = some (.int .i64 M))
          (first | (with_reducible exact (HG0.out.below cur.out.old).p0) | (with_reducible exact (HG0.out.below F1.out.old).p0) | (with_reducible exact (HG0.out.below (cur.out.a1 _)).p0) | (with_reducible exact (HG0.out.below (cur.out.at1 _ _ _ _ _)).p0))
          (first
            | (go_at_call 12; (with_reducible refine (HNum.out _).mono ?_); rintro e u1 ⟨B, m, d, fs, rfl, hm, hl, hb, hv, hB⟩; (first | (with_reducible (replace cur := Lib.hid (cur.out.below hB))) | (with_reducible (replace cur := Lib.hid (cur.out.one.below hB))) | (with_reducible (replace cur := Lib.hid (F1.out.below hB)))); have L4 : Hid (Mg u1 S B m d fs) := ⟨hl, hb, hv⟩; clear hl hb hv hB; (first | (have kx := cur.out.first; have x0 := kx.c0; have x1 := kx.c1; have x2 := kx.c2; have xf := kx.fz; have xl := kx.lt; clear kx) | skip)))
        all_goals (go_wp2_with fail)
        all_goals go_meet
        all_goals (refine ⟨_, m, d, B, fs, rfl, hm, ?_⟩)
        all_goals (first
          | (have t := RelF.last (k := g1) (e := 0) HG0.out cur.out L4.out; (with_reducible exact Lib.hid t))
          | (have t := RelF.ahead (k := g1) (e := 0) HG0.out cur.out L4.out; (with_reducible exact Lib.hid t)))
      case rest =>
      as_aux_lemma =>
      obtain ⟨wH, rfl⟩ : ∃ wH, wH = wc := ⟨_, rfl⟩
      obtain ⟨q, m, d, B, fs, rfl, hm, HR⟩ := hcut
      clear HG0 HNum cur F1 p0 p1
      have p1 := HR.out.1.2.2.1.c1
      have HP2 := Lib.hid HW.out.2.2.2
      go_wp2_with fail
      go_loopw [11] (fun k wr => ∃ j r : Nat, k = .int .i64 ((2 ^ j : Nat) : Int) ∧ j + r = s ∧ Hid (RelF w M0 K0 w2.heap.size g1 A1 m1 c1 E1 V1 es1 w3.heap.size M (P : Int) q g1 B m d S fs (-(r : Int)) wr)) (fun k _ => (intOf k).toNat)
      case atStart => exact ⟨s, 0, by rw [HP2.out], by omega, HR⟩
      case round =>
        obtain ⟨wR, rfl⟩ : ∃ wR, wR = wr := ⟨_, rfl⟩
        clear p1 HR
        obtain ⟨j, r, rfl, hjr, HR⟩ := hrel
        have y2 := HR.out.2.1.c2
        by_cases hj : j = 0
        · obtain rfl : r = s := by omega
          subst hj
          have HC : Hid (∀ u, RelF w M0 K0 w2.heap.size g1 A1 m1 c1 E1 V1 es1 w3.heap.size M (P : Int) q g1 B m d S fs (-(r : Int)) u → Calls Tryd.prog 13 #[.agg #[.bool g1, .slice B m d, .int .i64 (-(r : Int))], .agg #[.bool g1, .slice A1 m1 c1, .int .i64 E1]] u fun e w' => e = .returned (.int .i64 0) ∧ Below u.heap.size u w') := fun u hu => gcmp_any 0 g1 B m d fs _ g1 A1 m1 c1 es1 E1 u hu.2.2.1.1 hu.1.mg.1 hu.2.2.1.2.1 hu.1.mg.2.1 (by omega) (by omega) (by omega) (by omega) hE.1 hE.2 (by show _ = _; rw [hu.2.2.1.2.2, hu.1.mg.2.2]; exact cmpI_eq HW.out.2.1)
          have y0 := HR.out.2.1.c0
          have y1 := HR.out.2.1.c1
          have p1 := HR.out.1.2.2.1.c1
          have x0 := HR.out.1.2.1.c0
          have x1 := HR.out.1.2.1.c1
          have x2 := HR.out.1.2.1.c2
          rw [show ((2 ^ 0 : Nat) : Int) = 1 from rfl]
          clear HP2
          go_wp2_with fail
          refine (HC.out _ HR.out).mono ?_
          rintro e w9 ⟨rfl, hB9⟩
          replace HR := Lib.hid (HR.out.below hB9)
          clear HC hB9 x0 x1 x2 y0 y1 y2 p1
          have p0 := HR.out.1.2.2.1.c0
          have p1 := HR.out.1.2.2.1.c1
          by_cases hr : r = 0
          · have hP1 : P = 1 := by rw [← HW.out.2.2.2, hr]
            have bP : decide ((1 : Int) < (P : Int)) = false := decide_eq_false (by omega)
            clear hP1 hr HW
            go_wp2_with fail
            go_meet
            exact Lib.hid HR.out.1
          · have hP1 : 2 ≤ P := by
              rw [← HW.out.2.2.2]
              have h1 : (2 : Nat) ^ 1 ≤ 2 ^ r := Nat.pow_le_pow_right (by decide) (by omega)
              omega
            have bP : decide ((1 : Int) < (P : Int)) = true := decide_eq_true (by omega)
            have bM : (M.tmod 2 == 0) = false := beq_eq_false_iff_ne.2 (HW.out.2.2.1 hr)
            clear hr HW
            go_wp2_with fail
            go_meet
            exact Lib.hid HR.out.1
        · obtain ⟨i, rfl⟩ : ∃ i, j = i + 1 := ⟨j - 1, by omega⟩
          have hT2 : (2 : Nat) ^ (i + 1) = 2 ^ i * 2 := Nat.pow_succ _ _
          have hT3 : (2 : Nat) ^ (i + 1) ≤ 2 ^ 62 := Nat.pow_le_pow_right (by decide) (by omega)
          have hT4 : 1 ≤ (2 : Nat) ^ i := Nat.two_pow_pos i
          obtain ⟨T, hT⟩ : ∃ T : Nat, 2 ^ i = T := ⟨_, rfl⟩
          rw [hT2, hT] at hT3
          rw [hT2, hT]
          rw [hT] at hT4
          have hT5 : T * 2 ≤ 4611686018427387904 := Nat.le_trans hT3 (by decide)
          have HRn := HR.out.exp_ (-((r + 1 : Nat) : Int))
          rw [show -((r + 1 : Nat) : Int) = -(r : Int) - 1 by omega] at HRn
          have HRn := Lib.hid HRn
          have HT := Lib.hid hT
          have yf := HR.out.2.1.fz 2
          have bT : decide ((1 : Int) < (T : Int) * 2) = true := decide_eq_true (by omega)
          clear hT2 hT hT3
          go_wp2
          go_roundw
          case rel => exact ⟨i, r + 1, by rw [HT.out], by omega, by rw [show -((r + 1 : Nat) : Int) = -(r : Int) - 1 by omega]; exact HRn⟩
          case measure => simp [intOf]; omega
  case rest =>
  as_aux_lemma =>
  obtain ⟨wT, rfl⟩ : ∃ wT, wT = wc := ⟨_, rfl⟩
  clear HA p0 p1 HOi Hmay HOd
  have HA := hcut
  clear hcut
  have HLo := Lib.hid (HL.out M0 K0 wT hi1 hi2 hj1 hj2)
  have q0 := HA.out.1.c0
  have q1 := HA.out.1.c1
  go_wp2_with fail
  refine HLo.out.mono ?_
  rintro e w8 ⟨LM, LK, r8, rfl, hB8, hli⟩
  have k8 := hB8.trans ((below1 w8 (.cells #[.int .i64 LM, .int .i64 LK] 32)).mono hB8.size)
  have HLi := Lib.hid hli
  have HD : Hid (Qb (w8.alloc (.cells #[.int .i64 LM, .int .i64 LK] 32)) (w.heap.size + 1) M0 K0 ∧ Qe (w8.alloc (.cells #[.int .i64 LM, .int .i64 LK] 32)) w8.heap.size LM LK ∧ Below w.heap.size w (w8.alloc (.cells #[.int .i64 LM, .int .i64 LK] 32))) := ⟨HA.out.1.below k8, Qe.new w8 _ _, HA.out.old.trans (k8.mono HA.out.old.size)⟩
  clear hB8 k8 hli HLo HA q0 q1 HL
  have q0 := HD.out.1.c0
  have q1 := HD.out.1.c1
  have l0 := HD.out.2.1.c0
  have l1 := HD.out.2.1.c1
  have Hfin := Lib.hid HD.out.2.2
  clear HD
  by_cases hK : K0 < 1
  case pos =>
    have bK : decide (K0 < 1) = true := decide_eq_true hK
    obtain ⟨rfl, rfl, rfl⟩ : LM = 0 ∧ LK = 0 ∧ r8 = 1 := by
      rcases HLi.out with ⟨_, h1, h2, h3⟩ | ⟨h1, _⟩
      · exact ⟨h1, h2, h3⟩
      · omega
    clear HLi hK
    go_wp2
    go_ret
    exact ⟨rfl, Hfin.out⟩
  case neg =>
    have bK : decide (K0 < 1) = false := decide_eq_false hK
    obtain ⟨rfl, qq, hq1, hM, hKK, hL1, hg⟩ : r8 = 0 ∧ ∃ q : Nat, 1 ≤ q ∧ M0 = LM * q ∧ K0 = LK * q ∧ 1 ≤ LK ∧ Nat.gcd LM.natAbs LK.natAbs = 1 := by
      rcases HLi.out with ⟨h1, _⟩ | ⟨_, h2, h3⟩
      · omega
      · exact ⟨h2, h3⟩
    have hqp : (0 : Int) < (qq : Int) := by omega
    have e1 : K0.tmod LK = 0 := by rw [hKK]; exact Int.mul_tmod_right _ _
    have e2 : K0.tdiv LK = (qq : Int) := by rw [hKK]; exact Int.mul_tdiv_cancel_left _ (by omega)
    have e3 : M0.tmod (qq : Int) = 0 := by rw [hM]; exact Int.mul_tmod_left _ _
    have e4 : M0.tdiv (qq : Int) = LM := by rw [hM]; exact Int.mul_tdiv_cancel _ (by omega)
    have n1 : LK ≠ 0 := by omega
    have n2 : (qq : Int) ≠ 0 := by omega
    have bL : decide (LK < 1) = false := decide_eq_false (by omega)
    have bE : (LM == LM) = true := by simp
    have HG := Lib.hid hg
    have hqb : (qq : Int) ≤ K0 := by
      rw [hKK]
      have h9 := Int.mul_le_mul_of_nonneg_right hL1 (Int.le_of_lt hqp)
      rw [Int.one_mul] at h9
      exact h9
    have LMb : -9223372036854775808 ≤ LM ∧ LM ≤ 9223372036854775807 := by
      have h5 : LM.natAbs * qq = M0.natAbs := by rw [hM, Int.natAbs_mul, Int.natAbs_natCast]
      have h6 : LM.natAbs ≤ LM.natAbs * qq := Nat.le_mul_of_pos_right _ (by omega)
      rcases Int.lt_or_le LM 0 with h7 | h7
      · omega
      · have h8 : 0 ≤ M0 := by rw [hM]; exact Int.mul_nonneg h7 (by omega)
        omega
    have LKb : LK ≤ 9223372036854775807 := by
      have h6 : LK * 1 ≤ LK * (qq : Int) := Int.mul_le_mul_of_nonneg_left (by omega) (by omega)
      omega
    obtain ⟨LMb1, LMb2⟩ := LMb
    have hK1 : 1 ≤ K0 := by omega
    clear HLi hK hg hM hKK
    go_wp2_with fail
    go_quiet (fail)
    obtain ⟨wZ, hwZ⟩ : ∃ wZ, wZ = (w8.alloc (.cells #[.int .i64 LM, .int .i64 LK] 32)).drewN nq := ⟨_, rfl⟩
    have l0' : wZ.cell? ⟨w8.heap.size, 0, none⟩ = some (.int .i64 LM) := by rw [hwZ]; exact l0
    have l1' : wZ.cell? ⟨w8.heap.size, 1, none⟩ = some (.int .i64 LK) := by rw [hwZ]; exact l1
    have Hfin2 : Hid (Below w.heap.size w wZ) := by rw [hwZ]; exact below_drewN Hfin.out nq
    rw [← hwZ]
    clear hwZ l0 l1 q0 q1 Hfin bE bL e1 e2 e3 e4 bK
    go_wp2
    go_loop [14] (fun t => ∃ j : Nat, t = .int .i64 (j : Int) ∧ 2 ≤ j ∧ j ≤ 200) (fun t => 200 - (intOf t).toNat)
    case atStart => exact ⟨2, rfl, by omega, by omega⟩
    case round =>
      obtain ⟨j, rfl, hj2, hj3⟩ := hrel
      have nj : (j : Int) ≠ 0 := by omega
      by_cases hj : j < 200
      · have hjc : decide ((j : Int) < 200) = true := decide_eq_true (by omega)
        have hno := none_both HG.out hj2
        by_cases hm : LM.tmod (j : Int) = 0
        · have hk : LK % (j : Int) ≠ 0 := fun h => hno ⟨Int.dvd_of_tmod_eq_zero hm, Int.dvd_of_emod_eq_zero h⟩
          have c2 : (LK % (j : Int) == 0) = false := beq_eq_false_iff_ne.2 hk
          clear hno hk
          go_wp2
          go_round
          case rel => exact ⟨j + 1, by go_num, by omega, by omega⟩
          case measure => simp [intOf]; omega
        · have c1 : (LM.tmod (j : Int) == 0) = false := beq_eq_false_iff_ne.2 hm
          clear hno hm
          go_wp2
          go_round
          case rel => exact ⟨j + 1, by go_num, by omega, by omega⟩
          case measure => simp [intOf]; omega
      · obtain rfl : j = 200 := by omega
        clear hj hj2 hj3 nj
        by_cases hm : LM = 0
        · subst hm
          have hk : LK = 1 := by
            have h := HG.out
            simp only [Int.natAbs_zero, Nat.gcd_zero_left] at h
            omega
          subst hk
          clear HG
          go_wp2
          go_ret
          exact ⟨rfl, Hfin2.out⟩
        · have c1 : (LM == 0) = false := beq_eq_false_iff_ne.2 hm
          clear HG
          go_wp2
          go_ret
          exact ⟨rfl, Hfin2.out⟩

theorem walk_exactTerms' (HPow : PowerMeets) (HOf : OfMeets) (HLow : LowMeets) (g : Bool) (A : Option Addr) (n c : Nat) (xs : List Nat) (e0 M0 K0 : Int) (w : World) (hT : Tab w) (hA : Lim w A n c xs) (hi1 : -9223372036854775808 ≤ M0) (hi2 : M0 ≤ 9223372036854775807) (hj1 : -9223372036854775808 ≤ K0) (hj2 : K0 ≤ 9223372036854775807) :
    Calls Tryd.prog 3 #[.agg #[.bool g, .slice A n c, .int .i64 e0], .agg #[.int .i64 M0, .int .i64 K0]] w fun e w' => e = .returned (.bool true) ∧ Below w.heap.size w w' := by
  by_cases h : 20 < n
  · exact eterms_long HPow g A n c e0 M0 K0 w hT h
  · exact eterms_short HPow HOf HLow g A n c xs e0 M0 K0 w hT hA (by omega) hi1 hi2 hj1 hj2
end Go.Proofs.YtmmeejofepmgaaaDoor
