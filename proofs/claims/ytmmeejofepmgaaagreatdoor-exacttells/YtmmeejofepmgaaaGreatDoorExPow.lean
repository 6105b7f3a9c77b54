/- The walks of exact.breakpoint and exact.Power. -/
import Derived.Test.YtmmeejofepmgaaaGreatDoorExNum
import Derived.Test.YtmmeejofepmgaaaGreatDoorK4
import Derived.Test.YtmmeejofepmgaaaGreatDoorExLaw
namespace Go.Proofs.YtmmeejofepmgaaaGreatDoor
open Go.RowKit

theorem num_uniq {V : Nat} {M K : Int} {U U' : Nat} (hK : 1 ≤ K) (h : NumIs V M K U) (h' : NumIs V M K U') : U = U' := by
  obtain ⟨r, h1, h2⟩ := h
  obtain ⟨s, k1, k2⟩ := h'
  have e : r = s := (Nat.pow_left_inj (show K.toNat ≠ 0 by omega)).1 (by rw [← h1, ← k1])
  subst e
  rcases h2 with ⟨q1, q2⟩ | ⟨q1, q2, q3⟩
  · rcases k2 with ⟨_, p2⟩ | ⟨p1, _⟩
    · rw [q2, p2]
    · omega
  · rcases k2 with ⟨p1, _⟩ | ⟨_, _, p3⟩
    · omega
    · rw [q3, p3]
/-- What breakpoint tells. -/
def BrkIs (V : Nat) (E M K : Int) (g : Bool) (U : Nat) (f : Int) (b : Bool) : Prop :=
  (b = true ∧ ExIs V E M K.toNat ⟨g, U, f⟩) ∨ (b = false ∧ g = false ∧ U = 0 ∧ f = 0 ∧ ∀ d', ¬ ExIs V E M K.toNat d')
def BrkTold (w : World) (V : Nat) (E M K : Int) (e : Ending) (w' : World) : Prop :=
  ∃ g A m c zs f b, e = .returned (.tuple #[.agg #[.bool g, .slice A m c, .int .i64 f], .bool b]) ∧ m ≤ 1024 ∧ Lim w' A m c zs ∧ Bare zs ∧ Below w.heap.size w w' ∧ BrkIs V E M K g (val zs) f b
theorem brk_parts {V : Nat} {E M K : Int} {d : Dy} (hV : V % 2 = 1) (hK : 1 ≤ K) (hg : Nat.gcd M.natAbs K.toNat = 1) (h : ExIs V E M K.toNat d) : d.neg = false ∧ K ∣ E ∧ d.e = M * (E / K) ∧ NumIs V M K d.V ∧ -1075 ≤ d.e ∧ d.e ≤ 1024 ∧ blen d.V ≤ 54 ∧ brkO (some ⟨false, d.V, d.e⟩) = true := by
  obtain ⟨h1, h2, h3, h4, h5, h6⟩ := h
  obtain ⟨q1, q2, q3⟩ := (exn_parts hV h2 hK hg).1 h6
  have h7 : brkO (some ⟨false, d.V, d.e⟩) = true := by
    rw [← h5]
    obtain ⟨dg, dV, dE⟩ := d
    simp only at h1
    rw [h1]
  obtain ⟨f1, f2, f3⟩ := brk_facts h2 h7
  exact ⟨h1, q1, q2, q3, f1, f2, f3, h7⟩

/-- x and q in their boxes, the result's block. -/
def HoldQ1 (w : World) (p : Nat) (A : Option Addr) (n c : Nat) (xs : List Nat) (E M K : Int) (u : World) : Prop :=
  Bd u p 32 false A n c E ∧ Qx u (p + 1) M K ∧ Bd u (p + 2) 32 false none 0 0 0 ∧ Lim u A n c xs ∧ Tab u ∧ Below w.heap.size w u
section
variable {w : World} {p : Nat} {A : Option Addr} {n c : Nat} {xs : List Nat} {E M K : Int} {u u' : World}
theorem HoldQ1.below (h : HoldQ1 w p A n c xs E M K u) (hb : Below u.heap.size u u') : HoldQ1 w p A n c xs E M K u' :=
  ⟨h.1.below hb, h.2.1.below hb, h.2.2.1.below hb, h.2.2.2.1.below hb, h.2.2.2.2.1.below hb, h.2.2.2.2.2.trans (hb.mono h.2.2.2.2.2.size)⟩
theorem HoldQ1.start (w : World) (A : Option Addr) (n c : Nat) (xs : List Nat) (E M K : Int) (hA : Lim w A n c xs) (hT : Tab w) :
    HoldQ1 w w.heap.size A n c xs E M K (((w.alloc (.cells #[.bool false, .slice A n c, .int .i64 E] 32)).alloc (.cells #[.int .i64 M, .int .i64 K] 36)).alloc (.cells #[.bool false, .slice none 0 0, .int .i64 0] 32)) := by
  have a1 := below1 w (.cells #[.bool false, .slice A n c, .int .i64 E] 32)
  have a2 := a1.trans ((below1 (w.alloc (.cells #[.bool false, .slice A n c, .int .i64 E] 32)) (.cells #[.int .i64 M, .int .i64 K] 36)).mono a1.size)
  have a3 := a2.trans ((below1 ((w.alloc (.cells #[.bool false, .slice A n c, .int .i64 E] 32)).alloc (.cells #[.int .i64 M, .int .i64 K] 36)) (.cells #[.bool false, .slice none 0 0, .int .i64 0] 32)).mono a2.size)
  have b1 := Bd.new w 32 false A n c E
  have b2 := Qx.new (w.alloc (.cells #[.bool false, .slice A n c, .int .i64 E] 32)) M K
  rw [World.size_alloc] at b2
  have b3 := Bd.new ((w.alloc (.cells #[.bool false, .slice A n c, .int .i64 E] 32)).alloc (.cells #[.int .i64 M, .int .i64 K] 36)) 32 false none 0 0 0
  rw [World.size_alloc, World.size_alloc] at b3
  exact ⟨(b1.alloc _).alloc _, b2.alloc _, b3, hA.below a3, hT.below a3, a3⟩
end

/-- A result's block that takes what was found. -/
theorem brk_out {w w' : World} {b t : Nat} {V : Nat} {E M K : Int} {g : Bool} {A : Option Addr} {m c : Nat} {zs : List Nat} {f : Int} {bb : Bool} {g0 : Bool} {A0 : Option Addr} {n0 c0 : Nat} {e0 : Int} (hB : Bd w' b t g0 A0 n0 c0 e0) (hb : w.heap.size ≤ b) (hS : Below w.heap.size w w') (hl : Lim w' A m c zs) (hm : m ≤ 1024) (hbz : Bare zs) (hi : BrkIs V E M K g (val zs) f bb) :
    BrkTold w V E M K (.returned (.tuple #[.agg #[.bool g, .slice A m c, .int .i64 f], .bool bb])) (World.put w' b g A m c f) :=
  ⟨g, A, m, c, zs, f, bb, rfl, hm, hB.lim hl _ _ _ _ _, hbz, below_put hS hb _ _ _ _ _, hi⟩

set_option maxHeartbeats 2000000 in
theorem ebrk_l (A : Option Addr) (n c : Nat) (xs : List Nat) (E M K : Int) (w : World) (hA : Lim w A n c xs) (hn : n ≤ 100) (hT : Tab w) (ho : val xs % 2 = 1) (hE1 : -1073741824 ≤ E) (hE2 : E ≤ 1073741824) (hM1 : -9223372036854775808 ≤ M) (hM2 : M ≤ 9223372036854775807) (hK1 : 1 ≤ K) (hK2 : K ≤ 9223372036854775807) (hg : Nat.gcd M.natAbs K.toNat = 1) :
    Calls Tryz.prog 23 #[.agg #[.bool false, .slice A n c, .int .i64 E], .agg #[.int .i64 M, .int .i64 K]] w (BrkTold w (val xs) E M K) := by
  have h0 := HoldQ1.start w A n c xs E M K hA hT
  have K0 := Lib.hid h0
  have H1 : Hid (∀ u, Calls Tryz.prog 44 #[.int .i64 E, .agg #[.int .i64 M, .int .i64 K]] u fun e w' => ∃ f b, e = .returned (.tuple #[.int .i64 f, .bool b]) ∧ Below u.heap.size u w' ∧ ExpIs E M K f b) := fun u => eexp_l E M K u hE1 hE2 hM1 hM2 hK1 hK2
  have H2 : Hid (∀ u, HoldQ1 w w.heap.size A n c xs E M K u → Calls Tryz.prog 45 #[.slice A n c, .agg #[.int .i64 M, .int .i64 K]] u (NumTold u (val xs) M K)) := fun u hu => enum_l A n c xs M K u hu.2.2.2.1 hn hu.2.2.2.2.1 ho hM1 hM2 hK1 hK2 hg
  have HP : Hid (∀ d, ExIs (val xs) E M K.toNat d → d.neg = false ∧ K ∣ E ∧ d.e = M * (E / K) ∧ NumIs (val xs) M K d.V ∧ -1075 ≤ d.e ∧ d.e ≤ 1024 ∧ blen d.V ≤ 54 ∧ brkO (some ⟨false, d.V, d.e⟩) = true) := fun d hd => brk_parts ho hK1 hg hd
  have HQ : Hid (∀ U f, U % 2 = 1 → (ratC (val xs) E M U f K.toNat = 0 ↔ K ∣ E ∧ f = M * (E / K) ∧ NumIs (val xs) M K U)) := fun U f hU => exn_parts ho hU hK1 hg
  have HK := Lib.hid hK1
  clear h0 hA hT ho hE1 hE2 hM1 hM2 hK1 hK2 hg hn
  go_enter Tryz.func23, Tryz.ntmps23
  go_wp2_with fail
  refine (H1.out _).mono ?_
  rintro e w1 ⟨f, b1, rfl, hB1, hx⟩
  replace K0 := Lib.hid (K0.out.below hB1)
  have HX := Lib.hid hx
  have y0 := K0.out.2.2.1.c0
  have y1 := K0.out.2.2.1.c1
  have y2 := K0.out.2.2.1.c2
  have yf := K0.out.2.2.1.fz
  clear hx hB1 H1
  cases b1 with
  | false =>
    have Hfin : Hid (BrkTold w (val xs) E M K (.returned (.tuple #[.agg #[.bool false, .slice none 0 0, .int .i64 0], .bool false])) (World.put w1 (w.heap.size + 2) false none 0 0 0)) :=
      brk_out K0.out.2.2.1 (by omega) K0.out.2.2.2.2.2 (Lim.nil _ _ _) (by decide) rfl (Or.inr ⟨rfl, rfl, rfl, rfl, fun d hd => by
        obtain ⟨_, q1, q2, _, q3, q4, _⟩ := HP.out d hd
        rcases HX.out with ⟨h, _⟩ | ⟨_, h⟩
        · cases h
        · exact h ⟨q1, by rw [← q2]; exact q3, by rw [← q2]; exact q4⟩⟩)
    clear HX HP HQ HK K0 H2
    go_wp2
    exact bodyPost_ret (v := .tuple #[.agg #[.bool false, .slice none 0 0, .int .i64 0], .bool false]) (by simp [results, Tryz.results23, go_sem, y0, y1, y2]) rfl Hfin.out
  | true =>
    have x1 := K0.out.1.c1
    have x3 := K0.out.2.1.c0
    have x4 := K0.out.2.1.c1
    go_wp2_with fail
    refine (H2.out _ K0.out).mono ?_
    rintro e w2 ⟨A2, m2, c2, zs, b2, rfl, hm2, hl2, hB2, hx2⟩
    clear y0 y1 y2 yf x1 x3 x4
    replace K0 := Lib.hid (K0.out.below hB2)
    have HX2 := Lib.hid hx2
    have y0 := K0.out.2.2.1.c0
    have y1 := K0.out.2.2.1.c1
    have y2 := K0.out.2.2.1.c2
    have yf := K0.out.2.2.1.fz
    clear hx2 hB2 H2
    cases b2 with
    | false =>
      have Hfin : Hid (BrkTold w (val xs) E M K (.returned (.tuple #[.agg #[.bool false, .slice none 0 0, .int .i64 0], .bool false])) (World.put w2 (w.heap.size + 2) false none 0 0 0)) :=
        brk_out K0.out.2.2.1 (by omega) K0.out.2.2.2.2.2 (Lim.nil _ _ _) (by decide) rfl (Or.inr ⟨rfl, rfl, rfl, rfl, fun d hd => by
          obtain ⟨_, _, _, q1, _, _, q2, _⟩ := HP.out d hd
          rcases HX2.out with ⟨h, _⟩ | ⟨_, h⟩
          · cases h
          · have := h _ q1; omega⟩)
      clear HX HX2 HP HQ HK K0 hl2
      go_wp2
      exact bodyPost_ret (v := .tuple #[.agg #[.bool false, .slice none 0 0, .int .i64 0], .bool false]) (by simp [results, Tryz.results23, go_sem, y0, y1, y2]) rfl Hfin.out
    | true =>
      have hx1 : K ∣ E ∧ f = M * (E / K) ∧ -1075 ≤ f ∧ f ≤ 1024 := by
        rcases HX.out with ⟨_, h⟩ | ⟨h, _⟩
        · exact h
        · cases h
      have hx2 : val zs % 2 = 1 ∧ NumIs (val xs) M K (val zs) := by
        rcases HX2.out with ⟨_, h⟩ | ⟨h, _⟩
        · exact h
        · cases h
      have hmk := mk_odd_self (d := ⟨false, val zs, f⟩) (Or.inl ⟨val zs / 2, by have := hx2.1; show val zs = _; omega⟩) (by have := hx1.2.2.1; show -1073741824 ≤ f; omega) (by have := hx1.2.2.2; show f ≤ 1073741824; omega)
      have h3 := make_any false A2 m2 c2 zs f w2 hl2 (by omega) K0.out.2.2.2.2.1
      rw [hmk] at h3
      have H3 := Lib.hid h3
      clear h3 HX HX2 hl2 y0 y1 y2 yf
      replace hx1 := Lib.hid hx1
      replace hx2 := Lib.hid hx2
      replace hmk := Lib.hid hmk
      go_wp2_with fail
      refine H3.out.mono ?_
      rintro e w3 ⟨g3, A3, m3, c3, us, E3, r3, rfl, hm3, hl3, hb3, his3, hB3⟩
      obtain ⟨rfl, hg3, hv3, hE3⟩ := his3
      simp only at hg3 hv3 hE3
      obtain rfl : false = g3 := hg3.symm
      obtain rfl : f = E3 := hE3.symm
      have a4 := below1 w3 (.cells #[.bool false, .slice A3 m3 c3, .int .i64 f] 32)
      have hd := Bd.new w3 32 false A3 m3 c3 f
      replace K0 := Lib.hid ((K0.out.below hB3).below a4)
      have HL := Lib.hid (hl3.below a4)
      have HD := Lib.hid hd
      have HV := Lib.hid hv3
      have HBz := Lib.hid hb3
      obtain ⟨v, hv⟩ : ∃ v, brkO (some ⟨false, val zs, f⟩) = v := ⟨_, rfl⟩
      have H4 := Lib.hid (break_l v false A3 m3 c3 us f _ HL.out (by omega) K0.out.2.2.2.2.1 (by show brkO (mk false (val us) f) = v; rw [hv3, hmk.out]; exact hv))
      replace hv := Lib.hid hv
      clear hl3 hb3 hv3 hB3 a4 hd H3
      cases v with
      | false =>
        go_wp2_with fail
        refine H4.out.mono ?_
        rintro e w5 ⟨rfl, hB5⟩
        replace K0 := Lib.hid (K0.out.below hB5)
        have y0 := K0.out.2.2.1.c0
        have y1 := K0.out.2.2.1.c1
        have y2 := K0.out.2.2.1.c2
        have yf := K0.out.2.2.1.fz
        have Hfin : Hid (BrkTold w (val xs) E M K (.returned (.tuple #[.agg #[.bool false, .slice none 0 0, .int .i64 0], .bool false])) (World.put w5 (w.heap.size + 2) false none 0 0 0)) :=
          brk_out K0.out.2.2.1 (by omega) K0.out.2.2.2.2.2 (Lim.nil _ _ _) (by decide) rfl (Or.inr ⟨rfl, rfl, rfl, rfl, fun d hd => by
            obtain ⟨_, _, q2, q3, _, _, _, q4⟩ := HP.out d hd
            rw [num_uniq HK.out q3 hx2.out.2, q2, ← hx1.out.2.1, hv.out] at q4
            cases q4⟩)
        clear HP HQ HK K0 hB5 H4 HL HD HV HBz hx1 hx2 hmk hv
        go_wp2
        exact bodyPost_ret (v := .tuple #[.agg #[.bool false, .slice none 0 0, .int .i64 0], .bool false]) (by simp [results, Tryz.results23, go_sem, y0, y1, y2]) rfl Hfin.out
      | true =>
        go_wp2_with fail
        refine H4.out.mono ?_
        rintro e w5 ⟨rfl, hB5⟩
        replace K0 := Lib.hid (K0.out.below hB5)
        replace HD := Lib.hid (HD.out.below hB5)
        have y0 := K0.out.2.2.1.c0
        have y1 := K0.out.2.2.1.c1
        have y2 := K0.out.2.2.1.c2
        have yf := K0.out.2.2.1.fz
        have z0 := HD.out.c0
        have z1 := HD.out.c1
        have z2 := HD.out.c2
        have Hp := Lib.hid (K0.out.2.2.1.put false A3 m3 c3 f)
        have p0 := Hp.out.c0
        have p1 := Hp.out.c1
        have p2 := Hp.out.c2
        have Hfin : Hid (BrkTold w (val xs) E M K (.returned (.tuple #[.agg #[.bool false, .slice A3 m3 c3, .int .i64 f], .bool true])) (World.put w5 (w.heap.size + 2) false A3 m3 c3 f)) :=
          brk_out K0.out.2.2.1 (by omega) K0.out.2.2.2.2.2 (HL.out.below hB5) (by omega) HBz.out (Or.inl ⟨rfl, rfl, by show val us % 2 = 1; rw [HV.out]; exact hx2.out.1, by have := hx1.out.2.2.1; show -1073741824 ≤ f; omega, by have := hx1.out.2.2.2; show f ≤ 1073741824; omega, by rw [HV.out]; exact hv.out, by
            show ratC _ _ _ (val us) f _ = 0
            rw [HV.out]
            exact (HQ.out _ _ hx2.out.1).2 ⟨hx1.out.1, hx1.out.2.1, hx2.out.2⟩⟩)
        clear HP HQ HK K0 hB5 H4 HL HD HV HBz hx1 hx2 hmk hv Hp
        go_wp2
        exact bodyPost_ret (v := .tuple #[.agg #[.bool false, .slice A3 m3 c3, .int .i64 f], .bool true]) (by simp [results, Tryz.results23, go_sem, p0, p1, p2]) rfl Hfin.out
end Go.Proofs.YtmmeejofepmgaaaGreatDoor
