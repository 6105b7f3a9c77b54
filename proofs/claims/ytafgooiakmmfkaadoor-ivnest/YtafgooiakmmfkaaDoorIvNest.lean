/- The walk of the law IvNest (written by law_inest.py). -/
import Derived.Test.YtafgooiakmmfkaaDoorIvJ
namespace Go.Proofs.YtafgooiakmmfkaaDoor
open Go.RowKit

theorem sgd_nought {d : Dy} (h : dwD d = 0) : sgD d.neg d.V = 0 := by
  have h0 : d.V = 0 := Classical.byContradiction fun h0 => by
    have h1 := sz_pos d.e h0
    have h2 : (dwD d).natAbs = sz d.V d.e := by unfold dwD; unfold dw; cases d.neg <;> simp
    rw [h] at h2
    simp at h2
    omega
  unfold sgD
  rw [if_pos h0]

section
variable {u0 : World} {bs : List Nat} {w : World} {X Y : Nat}
theorem hui_a1at (hh : HoldUI u0 (X :: bs) w) (o : Obj) (g : Bool) (A : Option Addr) (n c : Nat) (e : Int) (g' : Bool) (A' : Option Addr) (n' c' : Nat) (e' : Int) : Below u0.heap.size u0 (World.put6 (w.alloc o) X g A n c e g' A' n' c' e') :=
  below_put6 (hh.a1 o) (hh.2.1 X (List.mem_cons.2 (Or.inl rfl))).2 _ _ _ _ _ _ _ _ _ _
theorem hui_at12 (hh : HoldUI u0 (Y :: X :: bs) w) (g : Bool) (A : Option Addr) (n c : Nat) (e : Int) (g' : Bool) (A' : Option Addr) (n' c' : Nat) (e' : Int) (h : Bool) (B : Option Addr) (k d : Nat) (f : Int) (h' : Bool) (B' : Option Addr) (k' d' : Nat) (f' : Int) : Below u0.heap.size u0 (World.put6 (World.put6 w Y g A n c e g' A' n' c' e') X h B k d f h' B' k' d' f') :=
  below_put6 (hh.at1 g A n c e g' A' n' c' e') (hh.2.1 X (List.mem_cons.2 (Or.inr (List.mem_cons.2 (Or.inl rfl))))).2 _ _ _ _ _ _ _ _ _ _
theorem hui_at21 (hh : HoldUI u0 (Y :: X :: bs) w) (g : Bool) (A : Option Addr) (n c : Nat) (e : Int) (g' : Bool) (A' : Option Addr) (n' c' : Nat) (e' : Int) (h : Bool) (B : Option Addr) (k d : Nat) (f : Int) (h' : Bool) (B' : Option Addr) (k' d' : Nat) (f' : Int) : Below u0.heap.size u0 (World.put6 (World.put6 w X g A n c e g' A' n' c' e') Y h B k d f h' B' k' d' f') :=
  below_put6 (hh.at2 g A n c e g' A' n' c' e') (hh.2.1 Y (List.mem_cons.2 (Or.inl rfl))).2 _ _ _ _ _ _ _ _ _ _
variable {g1 : Bool} {A1 : Option Addr} {m1 c1 : Nat} {e1 : Int} {g2 : Bool} {A2 : Option Addr} {m2 c2 : Nat} {e2 : Int} {g3 : Bool} {A3 : Option Addr} {m3 c3 : Nat} {e3 : Int} {g4 : Bool} {A4 : Option Addr} {m4 c4 : Nat} {e4 : Int}
theorem reli2_new1b (hh : HoldUI u0 [X] w) : RelI2 u0 X g1 A1 m1 c1 e1 g2 A2 m2 c2 e2 w.heap.size g3 A3 m3 c3 e3 g4 A4 m4 c4 e4 (World.put6 (w.alloc (.cells #[.bool g3, .slice A3 m3 c3, .int .i64 e3, .bool g4, .slice A4 m4 c4, .int .i64 e4] 38)) X g1 A1 m1 c1 e1 g2 A2 m2 c2 e2) := by
  obtain ⟨k1, _⟩ := hh.2.1 X (List.mem_cons.2 (Or.inl rfl))
  have hlt := k1.lt
  have b2 := Ib.new w g3 A3 m3 c3 e3 g4 A4 m4 c4 e4
  have k2 := k1.below (below1 w (.cells #[.bool g3, .slice A3 m3 c3, .int .i64 e3, .bool g4, .slice A4 m4 c4, .int .i64 e4] 38))
  exact ⟨hui_a1at hh _ _ _ _ _ _ _ _ _ _ _, k2.put _ _ _ _ _ _ _ _ _ _, b2.other6 (by omega) _ _ _ _ _ _ _ _ _ _⟩
end

set_option maxHeartbeats 64000000 in
set_option maxRecDepth 20000 in
theorem ivnest_any (u v : Nat) (g1 : Bool) (A1 : Option Addr) (n1 c1 : Nat) (xs1 : List Nat) (e1 : Int) (g2 : Bool) (A2 : Option Addr) (n2 c2 : Nat) (xs2 : List Nat) (e2 : Int) (g3 : Bool) (A3 : Option Addr) (n3 c3 : Nat) (xs3 : List Nat) (e3 : Int) (g4 : Bool) (A4 : Option Addr) (n4 c4 : Nat) (xs4 : List Nat) (e4 : Int) (g5 : Bool) (A5 : Option Addr) (n5 c5 : Nat) (xs5 : List Nat) (e5 : Int) (w : World) (hu : u ≤ 255) (hv : v ≤ 255) (l1 : Lim w A1 n1 c1 xs1) (l2 : Lim w A2 n2 c2 xs2) (l3 : Lim w A3 n3 c3 xs3) (l4 : Lim w A4 n4 c4 xs4) (l5 : Lim w A5 n5 c5 xs5) (hT : Tab w) :
    Calls Tryd.prog 6 #[.agg #[.bool g1, .slice A1 n1 c1, .int .i64 e1, .bool g2, .slice A2 n2 c2, .int .i64 e2], .agg #[.bool g3, .slice A3 n3 c3, .int .i64 e3, .bool g4, .slice A4 n4 c4, .int .i64 e4], .int .u8 (u : Int), .int .u8 (v : Int), .agg #[.bool g5, .slice A5 n5 c5, .int .i64 e5]] w fun e w' => e = .returned (.bool true) ∧ Below w.heap.size w w' := by
  have HT := Lib.hid hT
  have HS := Lib.hid (Below.refl w.heap.size w)
  have H1 : Hid (Lim w A1 n1 c1 xs1) := l1
  have H2 : Hid (Lim w A2 n2 c2 xs2) := l2
  have H3 : Hid (Lim w A3 n3 c3 xs3) := l3
  have H4 : Hid (Lim w A4 n4 c4 xs4) := l4
  have H5 : Hid (Lim w A5 n5 c5 xs5) := l5
  clear l1 l2 l3 l4 l5 hT
  have ba := below1 w (.cells #[.bool g1, .slice A1 n1 c1, .int .i64 e1, .bool g2, .slice A2 n2 c2, .int .i64 e2] 26)
  replace HT : Hid (Tab (w.alloc (.cells #[.bool g1, .slice A1 n1 c1, .int .i64 e1, .bool g2, .slice A2 n2 c2, .int .i64 e2] 26))) := HT.out.below ba
  replace H1 : Hid (Lim (w.alloc (.cells #[.bool g1, .slice A1 n1 c1, .int .i64 e1, .bool g2, .slice A2 n2 c2, .int .i64 e2] 26)) A1 n1 c1 xs1) := H1.out.below ba
  replace H2 : Hid (Lim (w.alloc (.cells #[.bool g1, .slice A1 n1 c1, .int .i64 e1, .bool g2, .slice A2 n2 c2, .int .i64 e2] 26)) A2 n2 c2 xs2) := H2.out.below ba
  replace H3 : Hid (Lim (w.alloc (.cells #[.bool g1, .slice A1 n1 c1, .int .i64 e1, .bool g2, .slice A2 n2 c2, .int .i64 e2] 26)) A3 n3 c3 xs3) := H3.out.below ba
  replace H4 : Hid (Lim (w.alloc (.cells #[.bool g1, .slice A1 n1 c1, .int .i64 e1, .bool g2, .slice A2 n2 c2, .int .i64 e2] 26)) A4 n4 c4 xs4) := H4.out.below ba
  replace H5 : Hid (Lim (w.alloc (.cells #[.bool g1, .slice A1 n1 c1, .int .i64 e1, .bool g2, .slice A2 n2 c2, .int .i64 e2] 26)) A5 n5 c5 xs5) := H5.out.below ba
  replace HS := Lib.hid (HS.out.trans (ba.mono HS.out.size))
  clear ba
  have Ja : Hid (Jb (w.alloc (.cells #[.bool g1, .slice A1 n1 c1, .int .i64 e1, .bool g2, .slice A2 n2 c2, .int .i64 e2] 26)) w.heap.size g1 A1 n1 c1 e1 g2 A2 n2 c2 e2) := Jb.new w g1 A1 n1 c1 e1 g2 A2 n2 c2 e2
  have ba := below1 (w.alloc (.cells #[.bool g1, .slice A1 n1 c1, .int .i64 e1, .bool g2, .slice A2 n2 c2, .int .i64 e2] 26)) (.cells #[.bool g3, .slice A3 n3 c3, .int .i64 e3, .bool g4, .slice A4 n4 c4, .int .i64 e4] 26)
  replace HT : Hid (Tab ((w.alloc (.cells #[.bool g1, .slice A1 n1 c1, .int .i64 e1, .bool g2, .slice A2 n2 c2, .int .i64 e2] 26)).alloc (.cells #[.bool g3, .slice A3 n3 c3, .int .i64 e3, .bool g4, .slice A4 n4 c4, .int .i64 e4] 26))) := HT.out.below ba
  replace H1 : Hid (Lim ((w.alloc (.cells #[.bool g1, .slice A1 n1 c1, .int .i64 e1, .bool g2, .slice A2 n2 c2, .int .i64 e2] 26)).alloc (.cells #[.bool g3, .slice A3 n3 c3, .int .i64 e3, .bool g4, .slice A4 n4 c4, .int .i64 e4] 26)) A1 n1 c1 xs1) := H1.out.below ba
  replace H2 : Hid (Lim ((w.alloc (.cells #[.bool g1, .slice A1 n1 c1, .int .i64 e1, .bool g2, .slice A2 n2 c2, .int .i64 e2] 26)).alloc (.cells #[.bool g3, .slice A3 n3 c3, .int .i64 e3, .bool g4, .slice A4 n4 c4, .int .i64 e4] 26)) A2 n2 c2 xs2) := H2.out.below ba
  replace H3 : Hid (Lim ((w.alloc (.cells #[.bool g1, .slice A1 n1 c1, .int .i64 e1, .bool g2, .slice A2 n2 c2, .int .i64 e2] 26)).alloc (.cells #[.bool g3, .slice A3 n3 c3, .int .i64 e3, .bool g4, .slice A4 n4 c4, .int .i64 e4] 26)) A3 n3 c3 xs3) := H3.out.below ba
  replace H4 : Hid (Lim ((w.alloc (.cells #[.bool g1, .slice A1 n1 c1, .int .i64 e1, .bool g2, .slice A2 n2 c2, .int .i64 e2] 26)).alloc (.cells #[.bool g3, .slice A3 n3 c3, .int .i64 e3, .bool g4, .slice A4 n4 c4, .int .i64 e4] 26)) A4 n4 c4 xs4) := H4.out.below ba
  replace H5 : Hid (Lim ((w.alloc (.cells #[.bool g1, .slice A1 n1 c1, .int .i64 e1, .bool g2, .slice A2 n2 c2, .int .i64 e2] 26)).alloc (.cells #[.bool g3, .slice A3 n3 c3, .int .i64 e3, .bool g4, .slice A4 n4 c4, .int .i64 e4] 26)) A5 n5 c5 xs5) := H5.out.below ba
  replace Ja : Hid (Jb ((w.alloc (.cells #[.bool g1, .slice A1 n1 c1, .int .i64 e1, .bool g2, .slice A2 n2 c2, .int .i64 e2] 26)).alloc (.cells #[.bool g3, .slice A3 n3 c3, .int .i64 e3, .bool g4, .slice A4 n4 c4, .int .i64 e4] 26)) w.heap.size g1 A1 n1 c1 e1 g2 A2 n2 c2 e2) := Ja.out.below ba
  replace HS := Lib.hid (HS.out.trans (ba.mono HS.out.size))
  clear ba
  have Jk : Hid (Jb ((w.alloc (.cells #[.bool g1, .slice A1 n1 c1, .int .i64 e1, .bool g2, .slice A2 n2 c2, .int .i64 e2] 26)).alloc (.cells #[.bool g3, .slice A3 n3 c3, .int .i64 e3, .bool g4, .slice A4 n4 c4, .int .i64 e4] 26)) (w.heap.size + 1) g3 A3 n3 c3 e3 g4 A4 n4 c4 e4) := (by have h := Jb.new (w.alloc (.cells #[.bool g1, .slice A1 n1 c1, .int .i64 e1, .bool g2, .slice A2 n2 c2, .int .i64 e2] 26)) g3 A3 n3 c3 e3 g4 A4 n4 c4 e4; rw [World.size_alloc] at h; exact h)
  have ba := below1 ((w.alloc (.cells #[.bool g1, .slice A1 n1 c1, .int .i64 e1, .bool g2, .slice A2 n2 c2, .int .i64 e2] 26)).alloc (.cells #[.bool g3, .slice A3 n3 c3, .int .i64 e3, .bool g4, .slice A4 n4 c4, .int .i64 e4] 26)) (.cells #[.bool g5, .slice A5 n5 c5, .int .i64 e5] 24)
  replace HT : Hid (Tab (((w.alloc (.cells #[.bool g1, .slice A1 n1 c1, .int .i64 e1, .bool g2, .slice A2 n2 c2, .int .i64 e2] 26)).alloc (.cells #[.bool g3, .slice A3 n3 c3, .int .i64 e3, .bool g4, .slice A4 n4 c4, .int .i64 e4] 26)).alloc (.cells #[.bool g5, .slice A5 n5 c5, .int .i64 e5] 24))) := HT.out.below ba
  replace H1 : Hid (Lim (((w.alloc (.cells #[.bool g1, .slice A1 n1 c1, .int .i64 e1, .bool g2, .slice A2 n2 c2, .int .i64 e2] 26)).alloc (.cells #[.bool g3, .slice A3 n3 c3, .int .i64 e3, .bool g4, .slice A4 n4 c4, .int .i64 e4] 26)).alloc (.cells #[.bool g5, .slice A5 n5 c5, .int .i64 e5] 24)) A1 n1 c1 xs1) := H1.out.below ba
  replace H2 : Hid (Lim (((w.alloc (.cells #[.bool g1, .slice A1 n1 c1, .int .i64 e1, .bool g2, .slice A2 n2 c2, .int .i64 e2] 26)).alloc (.cells #[.bool g3, .slice A3 n3 c3, .int .i64 e3, .bool g4, .slice A4 n4 c4, .int .i64 e4] 26)).alloc (.cells #[.bool g5, .slice A5 n5 c5, .int .i64 e5] 24)) A2 n2 c2 xs2) := H2.out.below ba
  replace H3 : Hid (Lim (((w.alloc (.cells #[.bool g1, .slice A1 n1 c1, .int .i64 e1, .bool g2, .slice A2 n2 c2, .int .i64 e2] 26)).alloc (.cells #[.bool g3, .slice A3 n3 c3, .int .i64 e3, .bool g4, .slice A4 n4 c4, .int .i64 e4] 26)).alloc (.cells #[.bool g5, .slice A5 n5 c5, .int .i64 e5] 24)) A3 n3 c3 xs3) := H3.out.below ba
  replace H4 : Hid (Lim (((w.alloc (.cells #[.bool g1, .slice A1 n1 c1, .int .i64 e1, .bool g2, .slice A2 n2 c2, .int .i64 e2] 26)).alloc (.cells #[.bool g3, .slice A3 n3 c3, .int .i64 e3, .bool g4, .slice A4 n4 c4, .int .i64 e4] 26)).alloc (.cells #[.bool g5, .slice A5 n5 c5, .int .i64 e5] 24)) A4 n4 c4 xs4) := H4.out.below ba
  replace H5 : Hid (Lim (((w.alloc (.cells #[.bool g1, .slice A1 n1 c1, .int .i64 e1, .bool g2, .slice A2 n2 c2, .int .i64 e2] 26)).alloc (.cells #[.bool g3, .slice A3 n3 c3, .int .i64 e3, .bool g4, .slice A4 n4 c4, .int .i64 e4] 26)).alloc (.cells #[.bool g5, .slice A5 n5 c5, .int .i64 e5] 24)) A5 n5 c5 xs5) := H5.out.below ba
  replace Ja : Hid (Jb (((w.alloc (.cells #[.bool g1, .slice A1 n1 c1, .int .i64 e1, .bool g2, .slice A2 n2 c2, .int .i64 e2] 26)).alloc (.cells #[.bool g3, .slice A3 n3 c3, .int .i64 e3, .bool g4, .slice A4 n4 c4, .int .i64 e4] 26)).alloc (.cells #[.bool g5, .slice A5 n5 c5, .int .i64 e5] 24)) w.heap.size g1 A1 n1 c1 e1 g2 A2 n2 c2 e2) := Ja.out.below ba
  replace Jk : Hid (Jb (((w.alloc (.cells #[.bool g1, .slice A1 n1 c1, .int .i64 e1, .bool g2, .slice A2 n2 c2, .int .i64 e2] 26)).alloc (.cells #[.bool g3, .slice A3 n3 c3, .int .i64 e3, .bool g4, .slice A4 n4 c4, .int .i64 e4] 26)).alloc (.cells #[.bool g5, .slice A5 n5 c5, .int .i64 e5] 24)) (w.heap.size + 1) g3 A3 n3 c3 e3 g4 A4 n4 c4 e4) := Jk.out.below ba
  replace HS := Lib.hid (HS.out.trans (ba.mono HS.out.size))
  clear ba
  have Jd : Hid (Bd (((w.alloc (.cells #[.bool g1, .slice A1 n1 c1, .int .i64 e1, .bool g2, .slice A2 n2 c2, .int .i64 e2] 26)).alloc (.cells #[.bool g3, .slice A3 n3 c3, .int .i64 e3, .bool g4, .slice A4 n4 c4, .int .i64 e4] 26)).alloc (.cells #[.bool g5, .slice A5 n5 c5, .int .i64 e5] 24)) (w.heap.size + 1 + 1) 24 g5 A5 n5 c5 e5) := (by have h := Bd.new ((w.alloc (.cells #[.bool g1, .slice A1 n1 c1, .int .i64 e1, .bool g2, .slice A2 n2 c2, .int .i64 e2] 26)).alloc (.cells #[.bool g3, .slice A3 n3 c3, .int .i64 e3, .bool g4, .slice A4 n4 c4, .int .i64 e4] 26)) 24 g5 A5 n5 c5 e5; rw [World.size_alloc, World.size_alloc] at h; exact h)
  have K := Lib.hid (ivalive_any (((w.alloc (.cells #[.bool g1, .slice A1 n1 c1, .int .i64 e1, .bool g2, .slice A2 n2 c2, .int .i64 e2] 26)).alloc (.cells #[.bool g3, .slice A3 n3 c3, .int .i64 e3, .bool g4, .slice A4 n4 c4, .int .i64 e4] 26)).alloc (.cells #[.bool g5, .slice A5 n5 c5, .int .i64 e5] 24)) HT.out)
  obtain ⟨va, hva⟩ : ∃ v, decide (Near15 n1 e1 ∧ Near15 n2 e2) = v := ⟨_, rfl⟩
  obtain ⟨vb, hvb⟩ : ∃ v, decide (Near15 n3 e3 ∧ Near15 n4 e4) = v := ⟨_, rfl⟩
  obtain ⟨vc, hvc⟩ : ∃ v, decide (Near15 n5 e5 ∧ Near15 n5 e5) = v := ⟨_, rfl⟩
  have HVA := Lib.hid hva
  have HVB := Lib.hid hvb
  have HVC := Lib.hid hvc
  clear hva hvb hvc
  go_enter Tryd.func6, Tryd.ntmps6
  go_wp2_with fail
  refine K.out.mono ?_
  rintro e w1 ⟨rfl, hB⟩
  replace HT : Hid (Tab w1) := HT.out.below hB
  replace H1 : Hid (Lim w1 A1 n1 c1 xs1) := H1.out.below hB
  replace H2 : Hid (Lim w1 A2 n2 c2 xs2) := H2.out.below hB
  replace H3 : Hid (Lim w1 A3 n3 c3 xs3) := H3.out.below hB
  replace H4 : Hid (Lim w1 A4 n4 c4 xs4) := H4.out.below hB
  replace H5 : Hid (Lim w1 A5 n5 c5 xs5) := H5.out.below hB
  replace Ja : Hid (Jb w1 w.heap.size g1 A1 n1 c1 e1 g2 A2 n2 c2 e2) := Ja.out.below hB
  replace Jk : Hid (Jb w1 (w.heap.size + 1) g3 A3 n3 c3 e3 g4 A4 n4 c4 e4) := Jk.out.below hB
  replace Jd : Hid (Bd w1 (w.heap.size + 1 + 1) 24 g5 A5 n5 c5 e5) := Jd.out.below hB
  replace HS := Lib.hid (HS.out.trans (hB.mono HS.out.size))
  clear hB K
  have Ja_0 := Ja.out.x0
  have Ja_1 := Ja.out.x1
  have Ja_2 := Ja.out.x2
  have Ja_3 := Ja.out.x3
  have Ja_4 := Ja.out.x4
  have Ja_5 := Ja.out.x5
  have Jk_0 := Jk.out.x0
  have Jk_1 := Jk.out.x1
  have Jk_2 := Jk.out.x2
  have Jk_3 := Jk.out.x3
  have Jk_4 := Jk.out.x4
  have Jk_5 := Jk.out.x5
  have Jd_0 := Jd.out.c0
  have Jd_1 := Jd.out.c1
  have Jd_2 := Jd.out.c2
  have K := Lib.hid (near15_l va g1 A1 n1 c1 e1 g2 A2 n2 c2 e2 w1 HVA)
  go_wp2_with fail
  refine K.out.mono ?_
  rintro e w2 ⟨rfl, hB⟩
  clear Ja_0 Ja_1 Ja_2 Ja_3 Ja_4 Ja_5 Jk_0 Jk_1 Jk_2 Jk_3 Jk_4 Jk_5 Jd_0 Jd_1 Jd_2
  replace HT : Hid (Tab w2) := HT.out.below hB
  replace H1 : Hid (Lim w2 A1 n1 c1 xs1) := H1.out.below hB
  replace H2 : Hid (Lim w2 A2 n2 c2 xs2) := H2.out.below hB
  replace H3 : Hid (Lim w2 A3 n3 c3 xs3) := H3.out.below hB
  replace H4 : Hid (Lim w2 A4 n4 c4 xs4) := H4.out.below hB
  replace H5 : Hid (Lim w2 A5 n5 c5 xs5) := H5.out.below hB
  replace Ja : Hid (Jb w2 w.heap.size g1 A1 n1 c1 e1 g2 A2 n2 c2 e2) := Ja.out.below hB
  replace Jk : Hid (Jb w2 (w.heap.size + 1) g3 A3 n3 c3 e3 g4 A4 n4 c4 e4) := Jk.out.below hB
  replace Jd : Hid (Bd w2 (w.heap.size + 1 + 1) 24 g5 A5 n5 c5 e5) := Jd.out.below hB
  replace HS := Lib.hid (HS.out.trans (hB.mono HS.out.size))
  clear hB K
  have Ja_0 := Ja.out.x0
  have Ja_1 := Ja.out.x1
  have Ja_2 := Ja.out.x2
  have Ja_3 := Ja.out.x3
  have Ja_4 := Ja.out.x4
  have Ja_5 := Ja.out.x5
  have Jk_0 := Jk.out.x0
  have Jk_1 := Jk.out.x1
  have Jk_2 := Jk.out.x2
  have Jk_3 := Jk.out.x3
  have Jk_4 := Jk.out.x4
  have Jk_5 := Jk.out.x5
  have Jd_0 := Jd.out.c0
  have Jd_1 := Jd.out.c1
  have Jd_2 := Jd.out.c2
  cases va
  · skip
    have Hfin := Lib.hid HS.out
    clear HS HT H1 H2 H3 H4 H5 Ja Jk Jd HVA HVB HVC
    go_wp2
    go_ret
    exact ⟨rfl, Hfin.out⟩
  · skip
    obtain ⟨d1, D1⟩ := nm_raw g1 H1.out (of_decide_eq_true HVA.out).1
    have N1 := Lib.hid D1
    clear D1
    have n19 := (of_decide_eq_true HVA.out).1.1
    obtain ⟨d2, D2⟩ := nm_raw g2 H2.out (of_decide_eq_true HVA.out).2
    have N2 := Lib.hid D2
    clear D2
    have n29 := (of_decide_eq_true HVA.out).2.1
    have K := Lib.hid (near15_l vb g3 A3 n3 c3 e3 g4 A4 n4 c4 e4 w2 HVB)
    go_wp2_with fail
    refine K.out.mono ?_
    rintro e w3 ⟨rfl, hB⟩
    clear Ja_0 Ja_1 Ja_2 Ja_3 Ja_4 Ja_5 Jk_0 Jk_1 Jk_2 Jk_3 Jk_4 Jk_5 Jd_0 Jd_1 Jd_2
    replace HT : Hid (Tab w3) := HT.out.below hB
    replace H1 : Hid (Lim w3 A1 n1 c1 xs1) := H1.out.below hB
    replace H2 : Hid (Lim w3 A2 n2 c2 xs2) := H2.out.below hB
    replace H3 : Hid (Lim w3 A3 n3 c3 xs3) := H3.out.below hB
    replace H4 : Hid (Lim w3 A4 n4 c4 xs4) := H4.out.below hB
    replace H5 : Hid (Lim w3 A5 n5 c5 xs5) := H5.out.below hB
    replace Ja : Hid (Jb w3 w.heap.size g1 A1 n1 c1 e1 g2 A2 n2 c2 e2) := Ja.out.below hB
    replace Jk : Hid (Jb w3 (w.heap.size + 1) g3 A3 n3 c3 e3 g4 A4 n4 c4 e4) := Jk.out.below hB
    replace Jd : Hid (Bd w3 (w.heap.size + 1 + 1) 24 g5 A5 n5 c5 e5) := Jd.out.below hB
    replace HS := Lib.hid (HS.out.trans (hB.mono HS.out.size))
    clear hB K
    have Ja_0 := Ja.out.x0
    have Ja_1 := Ja.out.x1
    have Ja_2 := Ja.out.x2
    have Ja_3 := Ja.out.x3
    have Ja_4 := Ja.out.x4
    have Ja_5 := Ja.out.x5
    have Jk_0 := Jk.out.x0
    have Jk_1 := Jk.out.x1
    have Jk_2 := Jk.out.x2
    have Jk_3 := Jk.out.x3
    have Jk_4 := Jk.out.x4
    have Jk_5 := Jk.out.x5
    have Jd_0 := Jd.out.c0
    have Jd_1 := Jd.out.c1
    have Jd_2 := Jd.out.c2
    cases vb
    · skip
      have Hfin := Lib.hid HS.out
      clear HS HT H1 H2 H3 H4 H5 Ja Jk Jd HVA HVB HVC N1 N2
      go_wp2
      go_ret
      exact ⟨rfl, Hfin.out⟩
    · skip
      obtain ⟨d3, D3⟩ := nm_raw g3 H3.out (of_decide_eq_true HVB.out).1
      have N3 := Lib.hid D3
      clear D3
      have n39 := (of_decide_eq_true HVB.out).1.1
      obtain ⟨d4, D4⟩ := nm_raw g4 H4.out (of_decide_eq_true HVB.out).2
      have N4 := Lib.hid D4
      clear D4
      have n49 := (of_decide_eq_true HVB.out).2.1
      have K := Lib.hid (near15_l vc g5 A5 n5 c5 e5 g5 A5 n5 c5 e5 w3 HVC)
      go_wp2_with fail
      refine K.out.mono ?_
      rintro e w4 ⟨rfl, hB⟩
      clear Ja_0 Ja_1 Ja_2 Ja_3 Ja_4 Ja_5 Jk_0 Jk_1 Jk_2 Jk_3 Jk_4 Jk_5 Jd_0 Jd_1 Jd_2
      replace HT : Hid (Tab w4) := HT.out.below hB
      replace H1 : Hid (Lim w4 A1 n1 c1 xs1) := H1.out.below hB
      replace H2 : Hid (Lim w4 A2 n2 c2 xs2) := H2.out.below hB
      replace H3 : Hid (Lim w4 A3 n3 c3 xs3) := H3.out.below hB
      replace H4 : Hid (Lim w4 A4 n4 c4 xs4) := H4.out.below hB
      replace H5 : Hid (Lim w4 A5 n5 c5 xs5) := H5.out.below hB
      replace Ja : Hid (Jb w4 w.heap.size g1 A1 n1 c1 e1 g2 A2 n2 c2 e2) := Ja.out.below hB
      replace Jk : Hid (Jb w4 (w.heap.size + 1) g3 A3 n3 c3 e3 g4 A4 n4 c4 e4) := Jk.out.below hB
      replace Jd : Hid (Bd w4 (w.heap.size + 1 + 1) 24 g5 A5 n5 c5 e5) := Jd.out.below hB
      replace HS := Lib.hid (HS.out.trans (hB.mono HS.out.size))
      clear hB K
      have Ja_0 := Ja.out.x0
      have Ja_1 := Ja.out.x1
      have Ja_2 := Ja.out.x2
      have Ja_3 := Ja.out.x3
      have Ja_4 := Ja.out.x4
      have Ja_5 := Ja.out.x5
      have Jk_0 := Jk.out.x0
      have Jk_1 := Jk.out.x1
      have Jk_2 := Jk.out.x2
      have Jk_3 := Jk.out.x3
      have Jk_4 := Jk.out.x4
      have Jk_5 := Jk.out.x5
      have Jd_0 := Jd.out.c0
      have Jd_1 := Jd.out.c1
      have Jd_2 := Jd.out.c2
      cases vc
      · skip
        have Hfin := Lib.hid HS.out
        clear HS HT H1 H2 H3 H4 H5 Ja Jk Jd HVA HVB HVC N1 N2 N3 N4
        go_wp2
        go_ret
        exact ⟨rfl, Hfin.out⟩
      · skip
        obtain ⟨d5, D5⟩ := nm_raw g5 H5.out (of_decide_eq_true HVC.out).1
        have N5 := Lib.hid D5
        clear D5
        have n59 := (of_decide_eq_true HVC.out).1.1
        have K := Lib.hid (of15_l g1 A1 n1 c1 e1 g2 A2 n2 c2 e2 w4)
        go_wp2_with fail
        refine K.out.mono ?_
        rintro e w5 ⟨rfl, hB⟩
        clear Ja_0 Ja_1 Ja_2 Ja_3 Ja_4 Ja_5 Jk_0 Jk_1 Jk_2 Jk_3 Jk_4 Jk_5 Jd_0 Jd_1 Jd_2
        replace HT : Hid (Tab w5) := HT.out.below hB
        replace H1 : Hid (Lim w5 A1 n1 c1 xs1) := H1.out.below hB
        replace H2 : Hid (Lim w5 A2 n2 c2 xs2) := H2.out.below hB
        replace H3 : Hid (Lim w5 A3 n3 c3 xs3) := H3.out.below hB
        replace H4 : Hid (Lim w5 A4 n4 c4 xs4) := H4.out.below hB
        replace H5 : Hid (Lim w5 A5 n5 c5 xs5) := H5.out.below hB
        replace Ja : Hid (Jb w5 w.heap.size g1 A1 n1 c1 e1 g2 A2 n2 c2 e2) := Ja.out.below hB
        replace Jk : Hid (Jb w5 (w.heap.size + 1) g3 A3 n3 c3 e3 g4 A4 n4 c4 e4) := Jk.out.below hB
        replace Jd : Hid (Bd w5 (w.heap.size + 1 + 1) 24 g5 A5 n5 c5 e5) := Jd.out.below hB
        replace HS := Lib.hid (HS.out.trans (hB.mono HS.out.size))
        clear hB K
        have Ja_0 := Ja.out.x0
        have Ja_1 := Ja.out.x1
        have Ja_2 := Ja.out.x2
        have Ja_3 := Ja.out.x3
        have Ja_4 := Ja.out.x4
        have Ja_5 := Ja.out.x5
        have Jk_0 := Jk.out.x0
        have Jk_1 := Jk.out.x1
        have Jk_2 := Jk.out.x2
        have Jk_3 := Jk.out.x3
        have Jk_4 := Jk.out.x4
        have Jk_5 := Jk.out.x5
        have Jd_0 := Jd.out.c0
        have Jd_1 := Jd.out.c1
        have Jd_2 := Jd.out.c2
        obtain ⟨v1, hv1⟩ : ∃ v, decide ((dw g1 (val xs1) e1) ≤ (dw g2 (val xs2) e2)) = v := ⟨_, rfl⟩
        have Rv1 := Lib.hid hv1
        clear hv1
        have K := Lib.hid (iright_l v1 d1 d2 g1 A1 n1 c1 xs1 e1 g2 A2 n2 c2 xs2 e2 w5 H1.out (by omega) H2.out (by omega) HT.out (Lib.hid N1.out.1) (Lib.hid N2.out.1) Rv1)
        go_wp2_with fail
        refine K.out.mono ?_
        rintro e w6 ⟨rfl, hB⟩
        clear Ja_0 Ja_1 Ja_2 Ja_3 Ja_4 Ja_5 Jk_0 Jk_1 Jk_2 Jk_3 Jk_4 Jk_5 Jd_0 Jd_1 Jd_2
        replace HT : Hid (Tab w6) := HT.out.below hB
        replace H1 : Hid (Lim w6 A1 n1 c1 xs1) := H1.out.below hB
        replace H2 : Hid (Lim w6 A2 n2 c2 xs2) := H2.out.below hB
        replace H3 : Hid (Lim w6 A3 n3 c3 xs3) := H3.out.below hB
        replace H4 : Hid (Lim w6 A4 n4 c4 xs4) := H4.out.below hB
        replace H5 : Hid (Lim w6 A5 n5 c5 xs5) := H5.out.below hB
        replace Ja : Hid (Jb w6 w.heap.size g1 A1 n1 c1 e1 g2 A2 n2 c2 e2) := Ja.out.below hB
        replace Jk : Hid (Jb w6 (w.heap.size + 1) g3 A3 n3 c3 e3 g4 A4 n4 c4 e4) := Jk.out.below hB
        replace Jd : Hid (Bd w6 (w.heap.size + 1 + 1) 24 g5 A5 n5 c5 e5) := Jd.out.below hB
        replace HS := Lib.hid (HS.out.trans (hB.mono HS.out.size))
        clear hB K
        have Ja_0 := Ja.out.x0
        have Ja_1 := Ja.out.x1
        have Ja_2 := Ja.out.x2
        have Ja_3 := Ja.out.x3
        have Ja_4 := Ja.out.x4
        have Ja_5 := Ja.out.x5
        have Jk_0 := Jk.out.x0
        have Jk_1 := Jk.out.x1
        have Jk_2 := Jk.out.x2
        have Jk_3 := Jk.out.x3
        have Jk_4 := Jk.out.x4
        have Jk_5 := Jk.out.x5
        have Jd_0 := Jd.out.c0
        have Jd_1 := Jd.out.c1
        have Jd_2 := Jd.out.c2
        cases v1
        · skip
          have Hfin := Lib.hid HS.out
          clear HS HT H1 H2 H3 H4 H5 Ja Jk Jd HVA HVB HVC N1 N2 N3 N4 N5 Rv1
          go_wp2
          go_ret
          exact ⟨rfl, Hfin.out⟩
        · skip
          have K := Lib.hid (of15_l g3 A3 n3 c3 e3 g4 A4 n4 c4 e4 w6)
          go_wp2_with fail
          refine K.out.mono ?_
          rintro e w7 ⟨rfl, hB⟩
          clear Ja_0 Ja_1 Ja_2 Ja_3 Ja_4 Ja_5 Jk_0 Jk_1 Jk_2 Jk_3 Jk_4 Jk_5 Jd_0 Jd_1 Jd_2
          replace HT : Hid (Tab w7) := HT.out.below hB
          replace H1 : Hid (Lim w7 A1 n1 c1 xs1) := H1.out.below hB
          replace H2 : Hid (Lim w7 A2 n2 c2 xs2) := H2.out.below hB
          replace H3 : Hid (Lim w7 A3 n3 c3 xs3) := H3.out.below hB
          replace H4 : Hid (Lim w7 A4 n4 c4 xs4) := H4.out.below hB
          replace H5 : Hid (Lim w7 A5 n5 c5 xs5) := H5.out.below hB
          replace Ja : Hid (Jb w7 w.heap.size g1 A1 n1 c1 e1 g2 A2 n2 c2 e2) := Ja.out.below hB
          replace Jk : Hid (Jb w7 (w.heap.size + 1) g3 A3 n3 c3 e3 g4 A4 n4 c4 e4) := Jk.out.below hB
          replace Jd : Hid (Bd w7 (w.heap.size + 1 + 1) 24 g5 A5 n5 c5 e5) := Jd.out.below hB
          replace HS := Lib.hid (HS.out.trans (hB.mono HS.out.size))
          clear hB K
          have Ja_0 := Ja.out.x0
          have Ja_1 := Ja.out.x1
          have Ja_2 := Ja.out.x2
          have Ja_3 := Ja.out.x3
          have Ja_4 := Ja.out.x4
          have Ja_5 := Ja.out.x5
          have Jk_0 := Jk.out.x0
          have Jk_1 := Jk.out.x1
          have Jk_2 := Jk.out.x2
          have Jk_3 := Jk.out.x3
          have Jk_4 := Jk.out.x4
          have Jk_5 := Jk.out.x5
          have Jd_0 := Jd.out.c0
          have Jd_1 := Jd.out.c1
          have Jd_2 := Jd.out.c2
          obtain ⟨v2, hv2⟩ : ∃ v, decide ((dw g3 (val xs3) e3) ≤ (dw g4 (val xs4) e4)) = v := ⟨_, rfl⟩
          have Rv2 := Lib.hid hv2
          clear hv2
          have K := Lib.hid (iright_l v2 d3 d4 g3 A3 n3 c3 xs3 e3 g4 A4 n4 c4 xs4 e4 w7 H3.out (by omega) H4.out (by omega) HT.out (Lib.hid N3.out.1) (Lib.hid N4.out.1) Rv2)
          go_wp2_with fail
          refine K.out.mono ?_
          rintro e w8 ⟨rfl, hB⟩
          clear Ja_0 Ja_1 Ja_2 Ja_3 Ja_4 Ja_5 Jk_0 Jk_1 Jk_2 Jk_3 Jk_4 Jk_5 Jd_0 Jd_1 Jd_2
          replace HT : Hid (Tab w8) := HT.out.below hB
          replace H1 : Hid (Lim w8 A1 n1 c1 xs1) := H1.out.below hB
          replace H2 : Hid (Lim w8 A2 n2 c2 xs2) := H2.out.below hB
          replace H3 : Hid (Lim w8 A3 n3 c3 xs3) := H3.out.below hB
          replace H4 : Hid (Lim w8 A4 n4 c4 xs4) := H4.out.below hB
          replace H5 : Hid (Lim w8 A5 n5 c5 xs5) := H5.out.below hB
          replace Ja : Hid (Jb w8 w.heap.size g1 A1 n1 c1 e1 g2 A2 n2 c2 e2) := Ja.out.below hB
          replace Jk : Hid (Jb w8 (w.heap.size + 1) g3 A3 n3 c3 e3 g4 A4 n4 c4 e4) := Jk.out.below hB
          replace Jd : Hid (Bd w8 (w.heap.size + 1 + 1) 24 g5 A5 n5 c5 e5) := Jd.out.below hB
          replace HS := Lib.hid (HS.out.trans (hB.mono HS.out.size))
          clear hB K
          have Ja_0 := Ja.out.x0
          have Ja_1 := Ja.out.x1
          have Ja_2 := Ja.out.x2
          have Ja_3 := Ja.out.x3
          have Ja_4 := Ja.out.x4
          have Ja_5 := Ja.out.x5
          have Jk_0 := Jk.out.x0
          have Jk_1 := Jk.out.x1
          have Jk_2 := Jk.out.x2
          have Jk_3 := Jk.out.x3
          have Jk_4 := Jk.out.x4
          have Jk_5 := Jk.out.x5
          have Jd_0 := Jd.out.c0
          have Jd_1 := Jd.out.c1
          have Jd_2 := Jd.out.c2
          cases v2
          · skip
            have Hfin := Lib.hid HS.out
            clear HS HT H1 H2 H3 H4 H5 Ja Jk Jd HVA HVB HVC N1 N2 N3 N4 N5 Rv1 Rv2
            go_wp2
            go_ret
            exact ⟨rfl, Hfin.out⟩
          · skip
            clear Ja_0 Ja_1 Ja_2 Ja_3 Ja_4 Ja_5 Jk_0 Jk_1 Jk_2 Jk_3 Jk_4 Jk_5 Jd_0 Jd_1 Jd_2
            obtain ⟨mn, hmn⟩ : ∃ m : Nat, min u v = m := ⟨_, rfl⟩
            obtain ⟨mx, hmx⟩ : ∃ m : Nat, max u v = m := ⟨_, rfl⟩
            have hn9 : mn ≤ 255 := by omega
            have hx9 : mx ≤ 255 := by omega
            have hnx : mn ≤ mx := by omega
            have NA := of_decide_eq_true HVA.out
            obtain ⟨ma, sa, dua, pa, x, Ia, wx⟩ := inner_ex (g1 := g1) (g2 := g2) (u := mn) (by have := H1.out.blen_le; omega) NA.1.2.1 NA.1.2.2 (by have := H2.out.blen_le; omega) NA.2.2.1 NA.2.2.2 N1.out.1 N2.out.1 hn9
            obtain ⟨mb, sb, dub, pb, y, Ib, wy⟩ := inner_ex (g1 := g1) (g2 := g2) (u := mx) (by have := H1.out.blen_le; omega) NA.1.2.1 NA.1.2.2 (by have := H2.out.blen_le; omega) NA.2.2.1 NA.2.2.2 N1.out.1 N2.out.1 hx9
            have IX := Lib.hid Ia
            have IY := Lib.hid Ib
            have SPX : Hid (Sp 4200 x ∧ Sp 4200 y) := ⟨Ia.2.2.2.2.2.2.2.2, Ib.2.2.2.2.2.2.2.2⟩
            have r1 := of_decide_eq_true Rv1.out
            have r2 := of_decide_eq_true Rv2.out
            rw [N1.out.2.2, N2.out.2.2] at wx wy r1
            rw [N3.out.2.2, N4.out.2.2] at r2
            have WX : Hid (dwD d1 ≤ dwD x ∧ dwD x ≤ dwD y ∧ dwD y ≤ dwD d2 ∧ dwD d1 ≤ dwD d2 ∧ dwD d3 ≤ dwD d4) := ⟨(inner_in r1 hn9 wx).1, inner_up r1 hnx wx wy, (inner_in r1 hx9 wy).2, r1, r2⟩
            clear Ia Ib wx wy r1 r2 NA HVA HVB HVC
            have CA : Hid (∀ vv, Below w8.heap.size w8 vv → Calls Tryd.prog 12 #[.agg #[.bool g1, .slice A1 n1 c1, .int .i64 e1, .bool g2, .slice A2 n2 c2, .int .i64 e2]] vv (fun e w' => e = .returned (.agg #[.bool g1, .slice A1 n1 c1, .int .i64 e1, .bool g2, .slice A2 n2 c2, .int .i64 e2]) ∧ Below vv.heap.size vv w')) := fun vv _ => of15_l g1 A1 n1 c1 e1 g2 A2 n2 c2 e2 vv
            have CB : Hid (∀ vv, Below w8.heap.size w8 vv → Calls Tryd.prog 12 #[.agg #[.bool g3, .slice A3 n3 c3, .int .i64 e3, .bool g4, .slice A4 n4 c4, .int .i64 e4]] vv (fun e w' => e = .returned (.agg #[.bool g3, .slice A3 n3 c3, .int .i64 e3, .bool g4, .slice A4 n4 c4, .int .i64 e4]) ∧ Below vv.heap.size vv w')) := fun vv _ => of15_l g3 A3 n3 c3 e3 g4 A4 n4 c4 e4 vv
            have KEEP : Hid (∀ v, Below w8.heap.size w8 v → v.cell? ⟨w.heap.size, 0, none⟩ = some (.bool g1) ∧ v.cell? ⟨w.heap.size, 1, none⟩ = some (.slice A1 n1 c1) ∧ v.cell? ⟨w.heap.size, 2, none⟩ = some (.int .i64 e1) ∧ v.cell? ⟨w.heap.size, 3, none⟩ = some (.bool g2) ∧ v.cell? ⟨w.heap.size, 4, none⟩ = some (.slice A2 n2 c2) ∧ v.cell? ⟨w.heap.size, 5, none⟩ = some (.int .i64 e2) ∧ v.cell? ⟨(w.heap.size + 1), 0, none⟩ = some (.bool g3) ∧ v.cell? ⟨(w.heap.size + 1), 1, none⟩ = some (.slice A3 n3 c3) ∧ v.cell? ⟨(w.heap.size + 1), 2, none⟩ = some (.int .i64 e3) ∧ v.cell? ⟨(w.heap.size + 1), 3, none⟩ = some (.bool g4) ∧ v.cell? ⟨(w.heap.size + 1), 4, none⟩ = some (.slice A4 n4 c4) ∧ v.cell? ⟨(w.heap.size + 1), 5, none⟩ = some (.int .i64 e4)) := fun v hv => ⟨(Ja.out.below hv).x0, (Ja.out.below hv).x1, (Ja.out.below hv).x2, (Ja.out.below hv).x3, (Ja.out.below hv).x4, (Ja.out.below hv).x5, (Jk.out.below hv).x0, (Jk.out.below hv).x1, (Jk.out.below hv).x2, (Jk.out.below hv).x3, (Jk.out.below hv).x4, (Jk.out.below hv).x5⟩
            have cur := Lib.hid ((HoldUI.start w8).below (below_drew _))
            have F1 := Lib.hid ((HoldUI.start w8).one.below (below_drew _))
            have F2 := Lib.hid ((HoldUI.start w8).two.below (below_drew _))
            go_wp2_with fail
            go_cut [11, 12] from 54 (fun s17 s18 wx => ∃ (p r : Nat), s17 = .pointer (some ⟨p, 0, none⟩) ∧ s18 = .pointer (some ⟨r, 0, none⟩) ∧ Hid (RelI2 w8 p g1 A1 n1 c1 e1 g2 A2 n2 c2 e2 r g3 A3 n3 c3 e3 g4 A4 n4 c4 e4 wx))
            case first =>
              clear HS HT H1 H2 H3 H4 H5 N1 N2 N3 N4 N5 Rv1 Rv2 IX IY SPX WX hmn hmx hn9 hx9 hnx hu hv n19 n29 n39 n49 n59 Ja Jk Jd
              skip
              go_region_held3 (fun v => v.cell? ⟨w.heap.size, 0, none⟩ = some (.bool g1) ∧ v.cell? ⟨w.heap.size, 1, none⟩ = some (.slice A1 n1 c1) ∧ v.cell? ⟨w.heap.size, 2, none⟩ = some (.int .i64 e1) ∧ v.cell? ⟨w.heap.size, 3, none⟩ = some (.bool g2) ∧ v.cell? ⟨w.heap.size, 4, none⟩ = some (.slice A2 n2 c2) ∧ v.cell? ⟨w.heap.size, 5, none⟩ = some (.int .i64 e2) ∧ v.cell? ⟨(w.heap.size + 1), 0, none⟩ = some (.bool g3) ∧ v.cell? ⟨(w.heap.size + 1), 1, none⟩ = some (.slice A3 n3 c3) ∧ v.cell? ⟨(w.heap.size + 1), 2, none⟩ = some (.int .i64 e3) ∧ v.cell? ⟨(w.heap.size + 1), 3, none⟩ = some (.bool g4) ∧ v.cell? ⟨(w.heap.size + 1), 4, none⟩ = some (.slice A4 n4 c4) ∧ v.cell? ⟨(w.heap.size + 1), 5, none⟩ = some (.int .i64 e4)) (first | (with_reducible exact KEEP.out _ cur.out.old) | (with_reducible exact KEEP.out _ F1.out.old) | (with_reducible exact KEEP.out _ F2.out.old) | (with_reducible exact KEEP.out _ (cur.out.a1 _)) | (with_reducible exact KEEP.out _ (cur.out.a2 _ _)) | (with_reducible exact KEEP.out _ (cur.out.at1 _ _ _ _ _ _ _ _ _ _)) | (with_reducible exact KEEP.out _ (cur.out.at1a _ _ _ _ _ _ _ _ _ _ _)) | (with_reducible exact KEEP.out _ (hui_a1at cur.out _ _ _ _ _ _ _ _ _ _ _)) | (with_reducible exact KEEP.out _ (cur.out.at2 _ _ _ _ _ _ _ _ _ _)) | (with_reducible exact KEEP.out _ (hui_at12 cur.out _ _ _ _ _ _ _ _ _ _ _ _ _ _ _ _ _ _ _ _)) | (with_reducible exact KEEP.out _ (hui_at21 cur.out _ _ _ _ _ _ _ _ _ _ _ _ _ _ _ _ _ _ _ _)))
                (first
                  | (go_at_call 12; (with_reducible refine (CA.out _ (by first | (with_reducible exact cur.out.old) | (with_reducible exact F1.out.old) | (with_reducible exact F2.out.old) | (with_reducible exact cur.out.a1 _) | (with_reducible exact cur.out.a2 _ _))).mono ?_); rintro e u1 ⟨rfl, hB1⟩; (first | (with_reducible (replace cur := Lib.hid (cur.out.below hB1))) | (with_reducible (replace cur := Lib.hid (cur.out.one.below hB1))) | (with_reducible (replace cur := Lib.hid (cur.out.two.below hB1))) | (with_reducible (replace cur := Lib.hid (F1.out.below hB1))) | (with_reducible (replace cur := Lib.hid (F2.out.below hB1)))); clear hB1; (first | (have kx := cur.out.first; have x0 := kx.x0; have x1 := kx.x1; have x2 := kx.x2; have x3 := kx.x3; have x4 := kx.x4; have x5 := kx.x5; have xf := kx.fz; have xl := kx.lt; clear kx) | skip); (first | (have ky := cur.out.second; have y0 := ky.1.x0; have y1 := ky.1.x1; have y2 := ky.1.x2; have y3 := ky.1.x3; have y4 := ky.1.x4; have y5 := ky.1.x5; have yf := ky.1.fz; have yl := ky.1.lt; have yx := ky.2; clear ky) | skip))
                  | (go_at_call 12; (with_reducible refine (CB.out _ (by first | (with_reducible exact cur.out.old) | (with_reducible exact F1.out.old) | (with_reducible exact F2.out.old) | (with_reducible exact cur.out.a1 _) | (with_reducible exact cur.out.a2 _ _))).mono ?_); rintro e u1 ⟨rfl, hB1⟩; (first | (with_reducible (replace cur := Lib.hid (cur.out.below hB1))) | (with_reducible (replace cur := Lib.hid (cur.out.one.below hB1))) | (with_reducible (replace cur := Lib.hid (cur.out.two.below hB1))) | (with_reducible (replace cur := Lib.hid (F1.out.below hB1))) | (with_reducible (replace cur := Lib.hid (F2.out.below hB1)))); clear hB1; (first | (have kx := cur.out.first; have x0 := kx.x0; have x1 := kx.x1; have x2 := kx.x2; have x3 := kx.x3; have x4 := kx.x4; have x5 := kx.x5; have xf := kx.fz; have xl := kx.lt; clear kx) | skip); (first | (have ky := cur.out.second; have y0 := ky.1.x0; have y1 := ky.1.x1; have y2 := ky.1.x2; have y3 := ky.1.x3; have y4 := ky.1.x4; have y5 := ky.1.x5; have yf := ky.1.fz; have yl := ky.1.lt; have yx := ky.2; clear ky) | skip)))
              all_goals (go_wp2_with fail)
              all_goals go_meet
              all_goals (refine ⟨_, _, rfl, rfl, ?_⟩)
              all_goals (first
                | (with_reducible (have t := (RelI2.new2 (g1 := g1) (A1 := A1) (m1 := n1) (c1 := c1) (e1 := e1) (g2 := g2) (A2 := A2) (m2 := n2) (c2 := c2) (e2 := e2) (g3 := g3) (A3 := A3) (m3 := n3) (c3 := c3) (e3 := e3) (g4 := g4) (A4 := A4) (m4 := n4) (c4 := c4) (e4 := e4) cur.out); exact Lib.hid t))
                | (with_reducible (have t := (RelI2.new2 (g1 := g3) (A1 := A3) (m1 := n3) (c1 := c3) (e1 := e3) (g2 := g4) (A2 := A4) (m2 := n4) (c2 := c4) (e2 := e4) (g3 := g1) (A3 := A1) (m3 := n1) (c3 := c1) (e3 := e1) (g4 := g2) (A4 := A2) (m4 := n2) (c4 := c2) (e4 := e2) cur.out).swap; exact Lib.hid t))
                | (with_reducible (have t := (RelI2.new1 (g1 := g1) (A1 := A1) (m1 := n1) (c1 := c1) (e1 := e1) (g2 := g2) (A2 := A2) (m2 := n2) (c2 := c2) (e2 := e2) (g3 := g3) (A3 := A3) (m3 := n3) (c3 := c3) (e3 := e3) (g4 := g4) (A4 := A4) (m4 := n4) (c4 := c4) (e4 := e4) cur.out); exact Lib.hid t))
                | (with_reducible (have t := (RelI2.new1 (g1 := g3) (A1 := A3) (m1 := n3) (c1 := c3) (e1 := e3) (g2 := g4) (A2 := A4) (m2 := n4) (c2 := c4) (e2 := e4) (g3 := g1) (A3 := A1) (m3 := n1) (c3 := c1) (e3 := e1) (g4 := g2) (A4 := A2) (m4 := n2) (c4 := c2) (e4 := e2) cur.out).swap; exact Lib.hid t))
                | (with_reducible (have t := reli2_new1b (g1 := g1) (A1 := A1) (m1 := n1) (c1 := c1) (e1 := e1) (g2 := g2) (A2 := A2) (m2 := n2) (c2 := c2) (e2 := e2) (g3 := g3) (A3 := A3) (m3 := n3) (c3 := c3) (e3 := e3) (g4 := g4) (A4 := A4) (m4 := n4) (c4 := c4) (e4 := e4) cur.out; exact Lib.hid t))
                | (with_reducible (have t := (reli2_new1b (g1 := g3) (A1 := A3) (m1 := n3) (c1 := c3) (e1 := e3) (g2 := g4) (A2 := A4) (m2 := n4) (c2 := c4) (e2 := e4) (g3 := g1) (A3 := A1) (m3 := n1) (c3 := c1) (e3 := e1) (g4 := g2) (A4 := A2) (m4 := n2) (c4 := c2) (e4 := e2) cur.out).swap; exact Lib.hid t))
                | (with_reducible (have t := (RelI2.new0 (g1 := g1) (A1 := A1) (m1 := n1) (c1 := c1) (e1 := e1) (g2 := g2) (A2 := A2) (m2 := n2) (c2 := c2) (e2 := e2) (g3 := g3) (A3 := A3) (m3 := n3) (c3 := c3) (e3 := e3) (g4 := g4) (A4 := A4) (m4 := n4) (c4 := c4) (e4 := e4) cur.out).1; exact Lib.hid t))
                | (with_reducible (have t := (RelI2.new0 (g1 := g3) (A1 := A3) (m1 := n3) (c1 := c3) (e1 := e3) (g2 := g4) (A2 := A4) (m2 := n4) (c2 := c4) (e2 := e4) (g3 := g1) (A3 := A1) (m3 := n1) (c3 := c1) (e3 := e1) (g4 := g2) (A4 := A2) (m4 := n2) (c4 := c2) (e4 := e2) cur.out).1.swap; exact Lib.hid t))
                | (with_reducible (have t := (RelI2.new0 (g1 := g1) (A1 := A1) (m1 := n1) (c1 := c1) (e1 := e1) (g2 := g2) (A2 := A2) (m2 := n2) (c2 := c2) (e2 := e2) (g3 := g3) (A3 := A3) (m3 := n3) (c3 := c3) (e3 := e3) (g4 := g4) (A4 := A4) (m4 := n4) (c4 := c4) (e4 := e4) cur.out).2; exact Lib.hid t))
                | (with_reducible (have t := (RelI2.new0 (g1 := g3) (A1 := A3) (m1 := n3) (c1 := c3) (e1 := e3) (g2 := g4) (A2 := A4) (m2 := n4) (c2 := c4) (e2 := e4) (g3 := g1) (A3 := A1) (m3 := n1) (c3 := c1) (e3 := e1) (g4 := g2) (A4 := A2) (m4 := n2) (c4 := c2) (e4 := e2) cur.out).2.swap; exact Lib.hid t)))
            case rest =>
              clear cur F1 F2 KEEP CA CB
              obtain ⟨ur, rfl⟩ : ∃ u, u = wc := ⟨_, rfl⟩
              obtain ⟨pi, pk, rfl, rfl, HRx⟩ := hcut
              have hB := HRx.out.1
              replace HT : Hid (Tab ur) := HT.out.below hB
              replace H1 : Hid (Lim ur A1 n1 c1 xs1) := H1.out.below hB
              replace H2 : Hid (Lim ur A2 n2 c2 xs2) := H2.out.below hB
              replace H3 : Hid (Lim ur A3 n3 c3 xs3) := H3.out.below hB
              replace H4 : Hid (Lim ur A4 n4 c4 xs4) := H4.out.below hB
              replace H5 : Hid (Lim ur A5 n5 c5 xs5) := H5.out.below hB
              replace Ja : Hid (Jb ur w.heap.size g1 A1 n1 c1 e1 g2 A2 n2 c2 e2) := Ja.out.below hB
              replace Jk : Hid (Jb ur (w.heap.size + 1) g3 A3 n3 c3 e3 g4 A4 n4 c4 e4) := Jk.out.below hB
              replace Jd : Hid (Bd ur (w.heap.size + 1 + 1) 24 g5 A5 n5 c5 e5) := Jd.out.below hB
              replace HS := Lib.hid (HS.out.trans (hB.mono HS.out.size))
              have HIi : Hid (Ib ur pi g1 A1 n1 c1 e1 g2 A2 n2 c2 e2) := HRx.out.2.1
              have HIk : Hid (Ib ur pk g3 A3 n3 c3 e3 g4 A4 n4 c4 e4) := HRx.out.2.2
              clear HRx hB
              clear Ja Jk
              have CX : Hid (∀ vv, Below ur.heap.size ur vv → Calls Tryd.prog 27 #[.agg #[.bool g1, .slice A1 n1 c1, .int .i64 e1, .bool g2, .slice A2 n2 c2, .int .i64 e2], .int .u8 (mn : Int)] vv (Tells1 vv x.neg x.V 140 x.e)) := fun vv hs => inner_l mn ma sa dua pa x d1 d2 g1 A1 n1 c1 xs1 e1 g2 A2 n2 c2 xs2 e2 vv (H1.out.below hs) (by omega) (H2.out.below hs) (by omega) (HT.out.below hs) (Lib.hid N1.out.1) (Lib.hid N2.out.1) Rv1 (by omega) IX
              have CY : Hid (∀ vv, Below ur.heap.size ur vv → Calls Tryd.prog 27 #[.agg #[.bool g1, .slice A1 n1 c1, .int .i64 e1, .bool g2, .slice A2 n2 c2, .int .i64 e2], .int .u8 (mx : Int)] vv (Tells1 vv y.neg y.V 140 y.e)) := fun vv hs => inner_l mx mb sb dub pb y d1 d2 g1 A1 n1 c1 xs1 e1 g2 A2 n2 c2 xs2 e2 vv (H1.out.below hs) (by omega) (H2.out.below hs) (by omega) (HT.out.below hs) (Lib.hid N1.out.1) (Lib.hid N2.out.1) Rv1 (by omega) IY
              have hmn2 : min (u : Int) (v : Int) = (mn : Int) := by omega
              have hmx2 : max (u : Int) (v : Int) = (mx : Int) := by omega
              have KEEP : Hid (∀ v, Below ur.heap.size ur v → v.cell? ⟨pi, 0, none⟩ = some (.bool g1) ∧ v.cell? ⟨pi, 1, none⟩ = some (.slice A1 n1 c1) ∧ v.cell? ⟨pi, 2, none⟩ = some (.int .i64 e1) ∧ v.cell? ⟨pi, 3, none⟩ = some (.bool g2) ∧ v.cell? ⟨pi, 4, none⟩ = some (.slice A2 n2 c2) ∧ v.cell? ⟨pi, 5, none⟩ = some (.int .i64 e2)) := fun v hv => ⟨(HIi.out.below hv).x0, (HIi.out.below hv).x1, (HIi.out.below hv).x2, (HIi.out.below hv).x3, (HIi.out.below hv).x4, (HIi.out.below hv).x5⟩
              have cur := Lib.hid ((HoldUI.start ur).below (below_drew _))
              have F1 := Lib.hid ((HoldUI.start ur).one.below (below_drew _))
              go_wp2_with fail
              go_cut [13] from 54 (fun s13 wx => ∃ (p4 : Nat) (Aa : Option Addr) (ma ca : Nat) (za : List Nat) (Ab : Option Addr) (mb cb : Nat) (zb : List Nat), s13 = .pointer (some ⟨p4, 0, none⟩) ∧ ma ≤ 140 ∧ mb ≤ 140 ∧ Hid (RelI ur p4 x.neg Aa ma ca x.e za y.neg Ab mb cb y.e zb wx ∧ val za = x.V ∧ val zb = y.V))
              case first =>
                skip
                go_region_held3 (fun v => v.cell? ⟨pi, 0, none⟩ = some (.bool g1) ∧ v.cell? ⟨pi, 1, none⟩ = some (.slice A1 n1 c1) ∧ v.cell? ⟨pi, 2, none⟩ = some (.int .i64 e1) ∧ v.cell? ⟨pi, 3, none⟩ = some (.bool g2) ∧ v.cell? ⟨pi, 4, none⟩ = some (.slice A2 n2 c2) ∧ v.cell? ⟨pi, 5, none⟩ = some (.int .i64 e2)) (first | (with_reducible exact KEEP.out _ cur.out.old) | (with_reducible exact KEEP.out _ F1.out.old) | (with_reducible exact KEEP.out _ (cur.out.a1 _)) | (with_reducible exact KEEP.out _ (cur.out.at1 _ _ _ _ _ _ _ _ _ _)))
                  (first
                    | (go_at_call 27; (with_reducible refine (CX.out _ (by first | (with_reducible exact cur.out.old) | (with_reducible exact F1.out.old) | (with_reducible exact cur.out.a1 _))).mono ?_); rintro e u1 ⟨Aa, ma', ca, za, rfl, hma, hl1, hb1, hv1, hB1⟩; (first | (with_reducible (replace cur := Lib.hid (cur.out.below hB1))) | (with_reducible (replace cur := Lib.hid (cur.out.one.below hB1))) | (with_reducible (replace cur := Lib.hid (F1.out.below hB1)))); have L1 : Hid (Mq u1 x.V Aa ma' ca za) := ⟨hl1, hb1, hv1⟩; clear hl1 hb1 hv1 hB1; (first | (have kx := cur.out.first; have x0 := kx.x0; have x1 := kx.x1; have x2 := kx.x2; have x3 := kx.x3; have x4 := kx.x4; have x5 := kx.x5; have xf := kx.fz; have xl := kx.lt; clear kx) | skip))
                    | (go_at_call 27; (with_reducible refine (CY.out _ (by first | (with_reducible exact cur.out.old) | (with_reducible exact F1.out.old) | (with_reducible exact cur.out.a1 _))).mono ?_); rintro e u2 ⟨Ab, mb', cb, zb, rfl, hmb, hl2, hb2, hv2, hB2⟩; (first | (with_reducible (replace L1 := Lib.hid (L1.out.below hB2))) | (with_reducible (replace L1 := Lib.hid ((L1.out.below (below1 _ (.cells #[.bool false, .slice none 0 0, .int .i64 0, .bool false, .slice none 0 0, .int .i64 0] 38))).below hB2)))); (first | (with_reducible (replace cur := Lib.hid (cur.out.below hB2))) | (with_reducible (replace cur := Lib.hid (cur.out.one.below hB2))) | (with_reducible (replace cur := Lib.hid (F1.out.below hB2)))); have L2 : Hid (Mq u2 y.V Ab mb' cb zb) := ⟨hl2, hb2, hv2⟩; clear hl2 hb2 hv2 hB2; (first | (have kx := cur.out.first; have x0 := kx.x0; have x1 := kx.x1; have x2 := kx.x2; have x3 := kx.x3; have x4 := kx.x4; have x5 := kx.x5; have xf := kx.fz; have xl := kx.lt; clear kx) | skip)))
                all_goals (go_wp2_with fail)
                all_goals go_meet
                all_goals (refine ⟨_, Aa, ma', ca, za, Ab, mb', cb, zb, rfl, hma, hmb, ?_⟩)
                all_goals (first
                  | (have t := RelI.last (e1 := x.e) (g1 := x.neg) (e2 := y.e) (g2 := y.neg) cur.out L1.out.1 L2.out.1; have t2 := And.intro t (And.intro L1.out.2.2 L2.out.2.2); (with_reducible exact Lib.hid t2))
                  | (have t := RelI.ahead (e1 := x.e) (g1 := x.neg) (e2 := y.e) (g2 := y.neg) cur.out L1.out.1 L2.out.1; have t2 := And.intro t (And.intro L1.out.2.2 L2.out.2.2); (with_reducible exact Lib.hid t2)))
              case rest =>
                clear cur F1 KEEP CX CY hmn2 hmx2
                obtain ⟨uy, rfl⟩ : ∃ u, u = wc := ⟨_, rfl⟩
                obtain ⟨pn, Ax, nx, cx, sx, Ay, ny, cy, sy, rfl, hnx9, hny9, HRx⟩ := hcut
                have hB := HRx.out.1.1
                replace HT : Hid (Tab uy) := HT.out.below hB
                replace H1 : Hid (Lim uy A1 n1 c1 xs1) := H1.out.below hB
                replace H2 : Hid (Lim uy A2 n2 c2 xs2) := H2.out.below hB
                replace H3 : Hid (Lim uy A3 n3 c3 xs3) := H3.out.below hB
                replace H4 : Hid (Lim uy A4 n4 c4 xs4) := H4.out.below hB
                replace H5 : Hid (Lim uy A5 n5 c5 xs5) := H5.out.below hB
                replace Jd : Hid (Bd uy (w.heap.size + 1 + 1) 24 g5 A5 n5 c5 e5) := Jd.out.below hB
                replace HIi : Hid (Ib uy pi g1 A1 n1 c1 e1 g2 A2 n2 c2 e2) := HIi.out.below hB
                replace HIk : Hid (Ib uy pk g3 A3 n3 c3 e3 g4 A4 n4 c4 e4) := HIk.out.below hB
                replace HS := Lib.hid (HS.out.trans (hB.mono HS.out.size))
                have HIn : Hid (Ib uy pn x.neg Ax nx cx x.e y.neg Ay ny cy y.e) := HRx.out.1.2.1
                have HXl : Hid (Lim uy Ax nx cx sx) := HRx.out.1.2.2.1
                have HYl : Hid (Lim uy Ay ny cy sy) := HRx.out.1.2.2.2.1
                have NX : Hid (Nm 4200 x.neg (val sx) x.e x) := nm_val HRx.out.2.1 SPX.out.1
                have NY : Hid (Nm 4200 y.neg (val sy) y.e y) := nm_val HRx.out.2.2 SPX.out.2
                clear HRx hB SPX IX IY
                have HIn_0 := HIn.out.x0
                have HIn_1 := HIn.out.x1
                have HIn_2 := HIn.out.x2
                have HIn_3 := HIn.out.x3
                have HIn_4 := HIn.out.x4
                have HIn_5 := HIn.out.x5
                have HIk_0 := HIk.out.x0
                have HIk_1 := HIk.out.x1
                have HIk_2 := HIk.out.x2
                have HIk_3 := HIk.out.x3
                have HIk_4 := HIk.out.x4
                have HIk_5 := HIk.out.x5
                have HIi_0 := HIi.out.x0
                have HIi_1 := HIi.out.x1
                have HIi_2 := HIi.out.x2
                have HIi_3 := HIi.out.x3
                have HIi_4 := HIi.out.x4
                have HIi_5 := HIi.out.x5
                obtain ⟨s1s, t1s, o1, o2, z1, z2, v1e, v2e⟩ := nadd_ex NX.out NY.out (N3.out.mono (by omega : 3640 ≤ 4200)) (N4.out.mono (by omega : 3640 ≤ 4200)) (by omega)
                have Ss : Hid ((Sp 9000 s1s ∧ Sp 9000 t1s) ∧ dwD s1s = dwD x + dwD d3 ∧ dwD t1s = dwD y + dwD d4) := ⟨⟨z1, z2⟩, v1e, v2e⟩
                have O1 := Lib.hid o1
                have O2 := Lib.hid o2
                clear o1 o2 z1 z2 v1e v2e
                have K : Hid (Calls Tryd.prog 11 #[.agg #[.bool x.neg, .slice Ax nx cx, .int .i64 x.e, .bool y.neg, .slice Ay ny cy, .int .i64 y.e], .agg #[.bool g3, .slice A3 n3 c3, .int .i64 e3, .bool g4, .slice A4 n4 c4, .int .i64 e4]] uy (STold uy (fun X Y => X = s1s ∧ Y = t1s))) := (ivadd_yes s1s t1s x y d3 d4 x.neg Ax nx cx sx x.e y.neg Ay ny cy sy y.e g3 A3 n3 c3 xs3 e3 g4 A4 n4 c4 xs4 e4 uy HXl.out (by omega) HYl.out (by omega) H3.out (by omega) H4.out (by omega) HT.out (Lib.hid NX.out.1) (Lib.hid NY.out.1) (Lib.hid (N3.out.mono (by omega : 3640 ≤ 4200)).1) (Lib.hid (N4.out.mono (by omega : 3640 ≤ 4200)).1) (decide_eq_true (by rw [NX.out.2.2, NY.out.2.2]; exact WX.out.2.1)) Rv2 O1 O2).mono fun _ _ h => vtold_short h fun X Y hq => ⟨by rw [hq.1]; exact Ss.out.1.1, by rw [hq.2]; exact Ss.out.1.2⟩
                go_wp2_with fail
                refine K.out.mono ?_
                rintro e ws9 ⟨gsa, Asa, msa, csa, ssa, esa, gsb, Asb, msb, csb, ssb, esb, rfl, hmsa, hmsb, hla, hlb, hba, hbb, hB, hQ⟩
                clear HIn_0 HIn_1 HIn_2 HIn_3 HIn_4 HIn_5 HIk_0 HIk_1 HIk_2 HIk_3 HIk_4 HIk_5 HIi_0 HIi_1 HIi_2 HIi_3 HIi_4 HIi_5
                replace HT : Hid (Tab ws9) := HT.out.below hB
                replace H1 : Hid (Lim ws9 A1 n1 c1 xs1) := H1.out.below hB
                replace H2 : Hid (Lim ws9 A2 n2 c2 xs2) := H2.out.below hB
                replace H3 : Hid (Lim ws9 A3 n3 c3 xs3) := H3.out.below hB
                replace H4 : Hid (Lim ws9 A4 n4 c4 xs4) := H4.out.below hB
                replace H5 : Hid (Lim ws9 A5 n5 c5 xs5) := H5.out.below hB
                replace Jd : Hid (Bd ws9 (w.heap.size + 1 + 1) 24 g5 A5 n5 c5 e5) := Jd.out.below hB
                replace HIi : Hid (Ib ws9 pi g1 A1 n1 c1 e1 g2 A2 n2 c2 e2) := HIi.out.below hB
                replace HIk : Hid (Ib ws9 pk g3 A3 n3 c3 e3 g4 A4 n4 c4 e4) := HIk.out.below hB
                replace HIn : Hid (Ib ws9 pn x.neg Ax nx cx x.e y.neg Ay ny cy y.e) := HIn.out.below hB
                replace HXl : Hid (Lim ws9 Ax nx cx sx) := HXl.out.below hB
                replace HYl : Hid (Lim ws9 Ay ny cy sy) := HYl.out.below hB
                replace HS := Lib.hid (HS.out.trans (hB.mono HS.out.size))
                have HLs : Hid (Lim ws9 Asa msa csa ssa) := hla
                have HHs : Hid (Lim ws9 Asb msb csb ssb) := hlb
                have HQs : Hid (Bare ssa ∧ Bare ssb ∧ (⟨gsa, val ssa, esa⟩ : Dy) = s1s ∧ (⟨gsb, val ssb, esb⟩ : Dy) = t1s) := ⟨hba, hbb, hQ⟩
                clear hla hlb hba hbb hQ hB K
                have ba := below1 ws9 (.cells #[.bool gsa, .slice Asa msa csa, .int .i64 esa, .bool gsb, .slice Asb msb csb, .int .i64 esb] 38)
                replace HT : Hid (Tab (ws9.alloc (.cells #[.bool gsa, .slice Asa msa csa, .int .i64 esa, .bool gsb, .slice Asb msb csb, .int .i64 esb] 38))) := HT.out.below ba
                replace H1 : Hid (Lim (ws9.alloc (.cells #[.bool gsa, .slice Asa msa csa, .int .i64 esa, .bool gsb, .slice Asb msb csb, .int .i64 esb] 38)) A1 n1 c1 xs1) := H1.out.below ba
                replace H2 : Hid (Lim (ws9.alloc (.cells #[.bool gsa, .slice Asa msa csa, .int .i64 esa, .bool gsb, .slice Asb msb csb, .int .i64 esb] 38)) A2 n2 c2 xs2) := H2.out.below ba
                replace H3 : Hid (Lim (ws9.alloc (.cells #[.bool gsa, .slice Asa msa csa, .int .i64 esa, .bool gsb, .slice Asb msb csb, .int .i64 esb] 38)) A3 n3 c3 xs3) := H3.out.below ba
                replace H4 : Hid (Lim (ws9.alloc (.cells #[.bool gsa, .slice Asa msa csa, .int .i64 esa, .bool gsb, .slice Asb msb csb, .int .i64 esb] 38)) A4 n4 c4 xs4) := H4.out.below ba
                replace H5 : Hid (Lim (ws9.alloc (.cells #[.bool gsa, .slice Asa msa csa, .int .i64 esa, .bool gsb, .slice Asb msb csb, .int .i64 esb] 38)) A5 n5 c5 xs5) := H5.out.below ba
                replace Jd : Hid (Bd (ws9.alloc (.cells #[.bool gsa, .slice Asa msa csa, .int .i64 esa, .bool gsb, .slice Asb msb csb, .int .i64 esb] 38)) (w.heap.size + 1 + 1) 24 g5 A5 n5 c5 e5) := Jd.out.below ba
                replace HIi : Hid (Ib (ws9.alloc (.cells #[.bool gsa, .slice Asa msa csa, .int .i64 esa, .bool gsb, .slice Asb msb csb, .int .i64 esb] 38)) pi g1 A1 n1 c1 e1 g2 A2 n2 c2 e2) := HIi.out.below ba
                replace HIk : Hid (Ib (ws9.alloc (.cells #[.bool gsa, .slice Asa msa csa, .int .i64 esa, .bool gsb, .slice Asb msb csb, .int .i64 esb] 38)) pk g3 A3 n3 c3 e3 g4 A4 n4 c4 e4) := HIk.out.below ba
                replace HIn : Hid (Ib (ws9.alloc (.cells #[.bool gsa, .slice Asa msa csa, .int .i64 esa, .bool gsb, .slice Asb msb csb, .int .i64 esb] 38)) pn x.neg Ax nx cx x.e y.neg Ay ny cy y.e) := HIn.out.below ba
                replace HXl : Hid (Lim (ws9.alloc (.cells #[.bool gsa, .slice Asa msa csa, .int .i64 esa, .bool gsb, .slice Asb msb csb, .int .i64 esb] 38)) Ax nx cx sx) := HXl.out.below ba
                replace HYl : Hid (Lim (ws9.alloc (.cells #[.bool gsa, .slice Asa msa csa, .int .i64 esa, .bool gsb, .slice Asb msb csb, .int .i64 esb] 38)) Ay ny cy sy) := HYl.out.below ba
                replace HLs : Hid (Lim (ws9.alloc (.cells #[.bool gsa, .slice Asa msa csa, .int .i64 esa, .bool gsb, .slice Asb msb csb, .int .i64 esb] 38)) Asa msa csa ssa) := HLs.out.below ba
                replace HHs : Hid (Lim (ws9.alloc (.cells #[.bool gsa, .slice Asa msa csa, .int .i64 esa, .bool gsb, .slice Asb msb csb, .int .i64 esb] 38)) Asb msb csb ssb) := HHs.out.below ba
                replace HS := Lib.hid (HS.out.trans (ba.mono HS.out.size))
                clear ba
                have HIs : Hid (Ib (ws9.alloc (.cells #[.bool gsa, .slice Asa msa csa, .int .i64 esa, .bool gsb, .slice Asb msb csb, .int .i64 esb] 38)) ws9.heap.size gsa Asa msa csa esa gsb Asb msb csb esb) := Ib.new ws9 gsa Asa msa csa esa gsb Asb msb csb esb
                have Ns : Hid (Nm 9000 gsa (val ssa) esa s1s ∧ Nm 9000 gsb (val ssb) esb t1s) := ⟨nm_eq HQs.out.2.2.1 Ss.out.1.1, nm_eq HQs.out.2.2.2 Ss.out.1.2⟩
                clear O1 O2 HQs
                have HIn_0 := HIn.out.x0
                have HIn_1 := HIn.out.x1
                have HIn_2 := HIn.out.x2
                have HIn_3 := HIn.out.x3
                have HIn_4 := HIn.out.x4
                have HIn_5 := HIn.out.x5
                have HIk_0 := HIk.out.x0
                have HIk_1 := HIk.out.x1
                have HIk_2 := HIk.out.x2
                have HIk_3 := HIk.out.x3
                have HIk_4 := HIk.out.x4
                have HIk_5 := HIk.out.x5
                have HIi_0 := HIi.out.x0
                have HIi_1 := HIi.out.x1
                have HIi_2 := HIi.out.x2
                have HIi_3 := HIi.out.x3
                have HIi_4 := HIi.out.x4
                have HIi_5 := HIi.out.x5
                obtain ⟨s1t, t1t, o1, o2, z1, z2, v1e, v2e⟩ := nadd_ex (N1.out.mono (by omega : 3640 ≤ 4200)) (N2.out.mono (by omega : 3640 ≤ 4200)) (N3.out.mono (by omega : 3640 ≤ 4200)) (N4.out.mono (by omega : 3640 ≤ 4200)) (by omega)
                have St : Hid ((Sp 9000 s1t ∧ Sp 9000 t1t) ∧ dwD s1t = dwD d1 + dwD d3 ∧ dwD t1t = dwD d2 + dwD d4) := ⟨⟨z1, z2⟩, v1e, v2e⟩
                have O1 := Lib.hid o1
                have O2 := Lib.hid o2
                clear o1 o2 z1 z2 v1e v2e
                have K : Hid (Calls Tryd.prog 11 #[.agg #[.bool g1, .slice A1 n1 c1, .int .i64 e1, .bool g2, .slice A2 n2 c2, .int .i64 e2], .agg #[.bool g3, .slice A3 n3 c3, .int .i64 e3, .bool g4, .slice A4 n4 c4, .int .i64 e4]] (ws9.alloc (.cells #[.bool gsa, .slice Asa msa csa, .int .i64 esa, .bool gsb, .slice Asb msb csb, .int .i64 esb] 38)) (STold (ws9.alloc (.cells #[.bool gsa, .slice Asa msa csa, .int .i64 esa, .bool gsb, .slice Asb msb csb, .int .i64 esb] 38)) (fun X Y => X = s1t ∧ Y = t1t))) := (ivadd_yes s1t t1t d1 d2 d3 d4 g1 A1 n1 c1 xs1 e1 g2 A2 n2 c2 xs2 e2 g3 A3 n3 c3 xs3 e3 g4 A4 n4 c4 xs4 e4 (ws9.alloc (.cells #[.bool gsa, .slice Asa msa csa, .int .i64 esa, .bool gsb, .slice Asb msb csb, .int .i64 esb] 38)) H1.out (by omega) H2.out (by omega) H3.out (by omega) H4.out (by omega) HT.out (Lib.hid (N1.out.mono (by omega : 3640 ≤ 4200)).1) (Lib.hid (N2.out.mono (by omega : 3640 ≤ 4200)).1) (Lib.hid (N3.out.mono (by omega : 3640 ≤ 4200)).1) (Lib.hid (N4.out.mono (by omega : 3640 ≤ 4200)).1) Rv1 Rv2 O1 O2).mono fun _ _ h => vtold_short h fun X Y hq => ⟨by rw [hq.1]; exact St.out.1.1, by rw [hq.2]; exact St.out.1.2⟩
                go_wp2_with fail
                refine K.out.mono ?_
                rintro e ws10 ⟨gta, Ata, mta, cta, sta, eta, gtb, Atb, mtb, ctb, stb, etb, rfl, hmta, hmtb, hla, hlb, hba, hbb, hB, hQ⟩
                clear HIn_0 HIn_1 HIn_2 HIn_3 HIn_4 HIn_5 HIk_0 HIk_1 HIk_2 HIk_3 HIk_4 HIk_5 HIi_0 HIi_1 HIi_2 HIi_3 HIi_4 HIi_5
                replace HT : Hid (Tab ws10) := HT.out.below hB
                replace H1 : Hid (Lim ws10 A1 n1 c1 xs1) := H1.out.below hB
                replace H2 : Hid (Lim ws10 A2 n2 c2 xs2) := H2.out.below hB
                replace H3 : Hid (Lim ws10 A3 n3 c3 xs3) := H3.out.below hB
                replace H4 : Hid (Lim ws10 A4 n4 c4 xs4) := H4.out.below hB
                replace H5 : Hid (Lim ws10 A5 n5 c5 xs5) := H5.out.below hB
                replace Jd : Hid (Bd ws10 (w.heap.size + 1 + 1) 24 g5 A5 n5 c5 e5) := Jd.out.below hB
                replace HIi : Hid (Ib ws10 pi g1 A1 n1 c1 e1 g2 A2 n2 c2 e2) := HIi.out.below hB
                replace HIk : Hid (Ib ws10 pk g3 A3 n3 c3 e3 g4 A4 n4 c4 e4) := HIk.out.below hB
                replace HIn : Hid (Ib ws10 pn x.neg Ax nx cx x.e y.neg Ay ny cy y.e) := HIn.out.below hB
                replace HXl : Hid (Lim ws10 Ax nx cx sx) := HXl.out.below hB
                replace HYl : Hid (Lim ws10 Ay ny cy sy) := HYl.out.below hB
                replace HLs : Hid (Lim ws10 Asa msa csa ssa) := HLs.out.below hB
                replace HHs : Hid (Lim ws10 Asb msb csb ssb) := HHs.out.below hB
                replace HIs : Hid (Ib ws10 ws9.heap.size gsa Asa msa csa esa gsb Asb msb csb esb) := HIs.out.below hB
                replace HS := Lib.hid (HS.out.trans (hB.mono HS.out.size))
                have HLt : Hid (Lim ws10 Ata mta cta sta) := hla
                have HHt : Hid (Lim ws10 Atb mtb ctb stb) := hlb
                have HQt : Hid (Bare sta ∧ Bare stb ∧ (⟨gta, val sta, eta⟩ : Dy) = s1t ∧ (⟨gtb, val stb, etb⟩ : Dy) = t1t) := ⟨hba, hbb, hQ⟩
                clear hla hlb hba hbb hQ hB K
                have ba := below1 ws10 (.cells #[.bool gta, .slice Ata mta cta, .int .i64 eta, .bool gtb, .slice Atb mtb ctb, .int .i64 etb] 38)
                replace HT : Hid (Tab (ws10.alloc (.cells #[.bool gta, .slice Ata mta cta, .int .i64 eta, .bool gtb, .slice Atb mtb ctb, .int .i64 etb] 38))) := HT.out.below ba
                replace H1 : Hid (Lim (ws10.alloc (.cells #[.bool gta, .slice Ata mta cta, .int .i64 eta, .bool gtb, .slice Atb mtb ctb, .int .i64 etb] 38)) A1 n1 c1 xs1) := H1.out.below ba
                replace H2 : Hid (Lim (ws10.alloc (.cells #[.bool gta, .slice Ata mta cta, .int .i64 eta, .bool gtb, .slice Atb mtb ctb, .int .i64 etb] 38)) A2 n2 c2 xs2) := H2.out.below ba
                replace H3 : Hid (Lim (ws10.alloc (.cells #[.bool gta, .slice Ata mta cta, .int .i64 eta, .bool gtb, .slice Atb mtb ctb, .int .i64 etb] 38)) A3 n3 c3 xs3) := H3.out.below ba
                replace H4 : Hid (Lim (ws10.alloc (.cells #[.bool gta, .slice Ata mta cta, .int .i64 eta, .bool gtb, .slice Atb mtb ctb, .int .i64 etb] 38)) A4 n4 c4 xs4) := H4.out.below ba
                replace H5 : Hid (Lim (ws10.alloc (.cells #[.bool gta, .slice Ata mta cta, .int .i64 eta, .bool gtb, .slice Atb mtb ctb, .int .i64 etb] 38)) A5 n5 c5 xs5) := H5.out.below ba
                replace Jd : Hid (Bd (ws10.alloc (.cells #[.bool gta, .slice Ata mta cta, .int .i64 eta, .bool gtb, .slice Atb mtb ctb, .int .i64 etb] 38)) (w.heap.size + 1 + 1) 24 g5 A5 n5 c5 e5) := Jd.out.below ba
                replace HIi : Hid (Ib (ws10.alloc (.cells #[.bool gta, .slice Ata mta cta, .int .i64 eta, .bool gtb, .slice Atb mtb ctb, .int .i64 etb] 38)) pi g1 A1 n1 c1 e1 g2 A2 n2 c2 e2) := HIi.out.below ba
                replace HIk : Hid (Ib (ws10.alloc (.cells #[.bool gta, .slice Ata mta cta, .int .i64 eta, .bool gtb, .slice Atb mtb ctb, .int .i64 etb] 38)) pk g3 A3 n3 c3 e3 g4 A4 n4 c4 e4) := HIk.out.below ba
                replace HIn : Hid (Ib (ws10.alloc (.cells #[.bool gta, .slice Ata mta cta, .int .i64 eta, .bool gtb, .slice Atb mtb ctb, .int .i64 etb] 38)) pn x.neg Ax nx cx x.e y.neg Ay ny cy y.e) := HIn.out.below ba
                replace HXl : Hid (Lim (ws10.alloc (.cells #[.bool gta, .slice Ata mta cta, .int .i64 eta, .bool gtb, .slice Atb mtb ctb, .int .i64 etb] 38)) Ax nx cx sx) := HXl.out.below ba
                replace HYl : Hid (Lim (ws10.alloc (.cells #[.bool gta, .slice Ata mta cta, .int .i64 eta, .bool gtb, .slice Atb mtb ctb, .int .i64 etb] 38)) Ay ny cy sy) := HYl.out.below ba
                replace HLs : Hid (Lim (ws10.alloc (.cells #[.bool gta, .slice Ata mta cta, .int .i64 eta, .bool gtb, .slice Atb mtb ctb, .int .i64 etb] 38)) Asa msa csa ssa) := HLs.out.below ba
                replace HHs : Hid (Lim (ws10.alloc (.cells #[.bool gta, .slice Ata mta cta, .int .i64 eta, .bool gtb, .slice Atb mtb ctb, .int .i64 etb] 38)) Asb msb csb ssb) := HHs.out.below ba
                replace HIs : Hid (Ib (ws10.alloc (.cells #[.bool gta, .slice Ata mta cta, .int .i64 eta, .bool gtb, .slice Atb mtb ctb, .int .i64 etb] 38)) ws9.heap.size gsa Asa msa csa esa gsb Asb msb csb esb) := HIs.out.below ba
                replace HLt : Hid (Lim (ws10.alloc (.cells #[.bool gta, .slice Ata mta cta, .int .i64 eta, .bool gtb, .slice Atb mtb ctb, .int .i64 etb] 38)) Ata mta cta sta) := HLt.out.below ba
                replace HHt : Hid (Lim (ws10.alloc (.cells #[.bool gta, .slice Ata mta cta, .int .i64 eta, .bool gtb, .slice Atb mtb ctb, .int .i64 etb] 38)) Atb mtb ctb stb) := HHt.out.below ba
                replace HS := Lib.hid (HS.out.trans (ba.mono HS.out.size))
                clear ba
                have HIt : Hid (Ib (ws10.alloc (.cells #[.bool gta, .slice Ata mta cta, .int .i64 eta, .bool gtb, .slice Atb mtb ctb, .int .i64 etb] 38)) ws10.heap.size gta Ata mta cta eta gtb Atb mtb ctb etb) := Ib.new ws10 gta Ata mta cta eta gtb Atb mtb ctb etb
                have Nt : Hid (Nm 9000 gta (val sta) eta s1t ∧ Nm 9000 gtb (val stb) etb t1t) := ⟨nm_eq HQt.out.2.2.1 St.out.1.1, nm_eq HQt.out.2.2.2 St.out.1.2⟩
                clear O1 O2 HQt
                have HIn_0 := HIn.out.x0
                have HIn_1 := HIn.out.x1
                have HIn_2 := HIn.out.x2
                have HIn_3 := HIn.out.x3
                have HIn_4 := HIn.out.x4
                have HIn_5 := HIn.out.x5
                have HIk_0 := HIk.out.x0
                have HIk_1 := HIk.out.x1
                have HIk_2 := HIk.out.x2
                have HIk_3 := HIk.out.x3
                have HIk_4 := HIk.out.x4
                have HIk_5 := HIk.out.x5
                have HIi_0 := HIi.out.x0
                have HIi_1 := HIi.out.x1
                have HIi_2 := HIi.out.x2
                have HIi_3 := HIi.out.x3
                have HIi_4 := HIi.out.x4
                have HIi_5 := HIi.out.x5
                obtain ⟨m0, m1, m2, m3, o0, o1, o2, o3, hM⟩ := nmul_ex NX.out NY.out (N3.out.mono (by omega : 3640 ≤ 4200)) (N4.out.mono (by omega : 3640 ≤ 4200)) (by omega)
                have HM := Lib.hid hM
                have O0 := Lib.hid o0
                have O1 := Lib.hid o1
                have O2 := Lib.hid o2
                have O3 := Lib.hid o3
                clear o0 o1 o2 o3 hM
                have K : Hid (Calls Tryd.prog 13 #[.agg #[.bool x.neg, .slice Ax nx cx, .int .i64 x.e, .bool y.neg, .slice Ay ny cy, .int .i64 y.e], .agg #[.bool g3, .slice A3 n3 c3, .int .i64 e3, .bool g4, .slice A4 n4 c4, .int .i64 e4]] (ws10.alloc (.cells #[.bool gta, .slice Ata mta cta, .int .i64 eta, .bool gtb, .slice Atb mtb ctb, .int .i64 etb] 38)) (STold (ws10.alloc (.cells #[.bool gta, .slice Ata mta cta, .int .i64 eta, .bool gtb, .slice Atb mtb ctb, .int .i64 etb] 38)) (fun X Y => ((Sp 9000 X ∧ Sp 9000 Y) ∧ dwD X * (uK : Int) = lo4 (dwD x) (dwD y) (dwD d3) (dwD d4) ∧ dwD Y * (uK : Int) = hi4 (dwD x) (dwD y) (dwD d3) (dwD d4))))) := (ivmul_yes m0 m1 m2 m3 x y d3 d4 x.neg Ax nx cx sx x.e y.neg Ay ny cy sy y.e g3 A3 n3 c3 xs3 e3 g4 A4 n4 c4 xs4 e4 (ws10.alloc (.cells #[.bool gta, .slice Ata mta cta, .int .i64 eta, .bool gtb, .slice Atb mtb ctb, .int .i64 etb] 38)) HXl.out (by omega) HYl.out (by omega) H3.out (by omega) H4.out (by omega) HT.out (Lib.hid NX.out.1) (Lib.hid NY.out.1) (Lib.hid (N3.out.mono (by omega : 3640 ≤ 4200)).1) (Lib.hid (N4.out.mono (by omega : 3640 ≤ 4200)).1) (decide_eq_true (by rw [NX.out.2.2, NY.out.2.2]; exact WX.out.2.1)) Rv2 O0 O1 O2 O3).mono fun _ _ h => stold_imp (vtold_short h fun X Y hq => (HM.out X Y hq).1) fun X Y hq => HM.out X Y hq
                go_wp2_with fail
                refine K.out.mono ?_
                rintro e ws11 ⟨gpa, Apa, mpa, cpa, spa, epa, gpb, Apb, mpb, cpb, spb, epb, rfl, hmpa, hmpb, hla, hlb, hba, hbb, hB, hQ⟩
                clear HIn_0 HIn_1 HIn_2 HIn_3 HIn_4 HIn_5 HIk_0 HIk_1 HIk_2 HIk_3 HIk_4 HIk_5 HIi_0 HIi_1 HIi_2 HIi_3 HIi_4 HIi_5
                replace HT : Hid (Tab ws11) := HT.out.below hB
                replace H1 : Hid (Lim ws11 A1 n1 c1 xs1) := H1.out.below hB
                replace H2 : Hid (Lim ws11 A2 n2 c2 xs2) := H2.out.below hB
                replace H3 : Hid (Lim ws11 A3 n3 c3 xs3) := H3.out.below hB
                replace H4 : Hid (Lim ws11 A4 n4 c4 xs4) := H4.out.below hB
                replace H5 : Hid (Lim ws11 A5 n5 c5 xs5) := H5.out.below hB
                replace Jd : Hid (Bd ws11 (w.heap.size + 1 + 1) 24 g5 A5 n5 c5 e5) := Jd.out.below hB
                replace HIi : Hid (Ib ws11 pi g1 A1 n1 c1 e1 g2 A2 n2 c2 e2) := HIi.out.below hB
                replace HIk : Hid (Ib ws11 pk g3 A3 n3 c3 e3 g4 A4 n4 c4 e4) := HIk.out.below hB
                replace HIn : Hid (Ib ws11 pn x.neg Ax nx cx x.e y.neg Ay ny cy y.e) := HIn.out.below hB
                replace HXl : Hid (Lim ws11 Ax nx cx sx) := HXl.out.below hB
                replace HYl : Hid (Lim ws11 Ay ny cy sy) := HYl.out.below hB
                replace HLs : Hid (Lim ws11 Asa msa csa ssa) := HLs.out.below hB
                replace HHs : Hid (Lim ws11 Asb msb csb ssb) := HHs.out.below hB
                replace HIs : Hid (Ib ws11 ws9.heap.size gsa Asa msa csa esa gsb Asb msb csb esb) := HIs.out.below hB
                replace HLt : Hid (Lim ws11 Ata mta cta sta) := HLt.out.below hB
                replace HHt : Hid (Lim ws11 Atb mtb ctb stb) := HHt.out.below hB
                replace HIt : Hid (Ib ws11 ws10.heap.size gta Ata mta cta eta gtb Atb mtb ctb etb) := HIt.out.below hB
                replace HS := Lib.hid (HS.out.trans (hB.mono HS.out.size))
                have HLp : Hid (Lim ws11 Apa mpa cpa spa) := hla
                have HHp : Hid (Lim ws11 Apb mpb cpb spb) := hlb
                have HQp : Hid (Bare spa ∧ Bare spb ∧ ((Sp 9000 ⟨gpa, val spa, epa⟩ ∧ Sp 9000 ⟨gpb, val spb, epb⟩) ∧ dwD ⟨gpa, val spa, epa⟩ * (uK : Int) = lo4 (dwD x) (dwD y) (dwD d3) (dwD d4) ∧ dwD ⟨gpb, val spb, epb⟩ * (uK : Int) = hi4 (dwD x) (dwD y) (dwD d3) (dwD d4))) := ⟨hba, hbb, hQ⟩
                clear hla hlb hba hbb hQ hB K
                have ba := below1 ws11 (.cells #[.bool gpa, .slice Apa mpa cpa, .int .i64 epa, .bool gpb, .slice Apb mpb cpb, .int .i64 epb] 38)
                replace HT : Hid (Tab (ws11.alloc (.cells #[.bool gpa, .slice Apa mpa cpa, .int .i64 epa, .bool gpb, .slice Apb mpb cpb, .int .i64 epb] 38))) := HT.out.below ba
                replace H1 : Hid (Lim (ws11.alloc (.cells #[.bool gpa, .slice Apa mpa cpa, .int .i64 epa, .bool gpb, .slice Apb mpb cpb, .int .i64 epb] 38)) A1 n1 c1 xs1) := H1.out.below ba
                replace H2 : Hid (Lim (ws11.alloc (.cells #[.bool gpa, .slice Apa mpa cpa, .int .i64 epa, .bool gpb, .slice Apb mpb cpb, .int .i64 epb] 38)) A2 n2 c2 xs2) := H2.out.below ba
                replace H3 : Hid (Lim (ws11.alloc (.cells #[.bool gpa, .slice Apa mpa cpa, .int .i64 epa, .bool gpb, .slice Apb mpb cpb, .int .i64 epb] 38)) A3 n3 c3 xs3) := H3.out.below ba
                replace H4 : Hid (Lim (ws11.alloc (.cells #[.bool gpa, .slice Apa mpa cpa, .int .i64 epa, .bool gpb, .slice Apb mpb cpb, .int .i64 epb] 38)) A4 n4 c4 xs4) := H4.out.below ba
                replace H5 : Hid (Lim (ws11.alloc (.cells #[.bool gpa, .slice Apa mpa cpa, .int .i64 epa, .bool gpb, .slice Apb mpb cpb, .int .i64 epb] 38)) A5 n5 c5 xs5) := H5.out.below ba
                replace Jd : Hid (Bd (ws11.alloc (.cells #[.bool gpa, .slice Apa mpa cpa, .int .i64 epa, .bool gpb, .slice Apb mpb cpb, .int .i64 epb] 38)) (w.heap.size + 1 + 1) 24 g5 A5 n5 c5 e5) := Jd.out.below ba
                replace HIi : Hid (Ib (ws11.alloc (.cells #[.bool gpa, .slice Apa mpa cpa, .int .i64 epa, .bool gpb, .slice Apb mpb cpb, .int .i64 epb] 38)) pi g1 A1 n1 c1 e1 g2 A2 n2 c2 e2) := HIi.out.below ba
                replace HIk : Hid (Ib (ws11.alloc (.cells #[.bool gpa, .slice Apa mpa cpa, .int .i64 epa, .bool gpb, .slice Apb mpb cpb, .int .i64 epb] 38)) pk g3 A3 n3 c3 e3 g4 A4 n4 c4 e4) := HIk.out.below ba
                replace HIn : Hid (Ib (ws11.alloc (.cells #[.bool gpa, .slice Apa mpa cpa, .int .i64 epa, .bool gpb, .slice Apb mpb cpb, .int .i64 epb] 38)) pn x.neg Ax nx cx x.e y.neg Ay ny cy y.e) := HIn.out.below ba
                replace HXl : Hid (Lim (ws11.alloc (.cells #[.bool gpa, .slice Apa mpa cpa, .int .i64 epa, .bool gpb, .slice Apb mpb cpb, .int .i64 epb] 38)) Ax nx cx sx) := HXl.out.below ba
                replace HYl : Hid (Lim (ws11.alloc (.cells #[.bool gpa, .slice Apa mpa cpa, .int .i64 epa, .bool gpb, .slice Apb mpb cpb, .int .i64 epb] 38)) Ay ny cy sy) := HYl.out.below ba
                replace HLs : Hid (Lim (ws11.alloc (.cells #[.bool gpa, .slice Apa mpa cpa, .int .i64 epa, .bool gpb, .slice Apb mpb cpb, .int .i64 epb] 38)) Asa msa csa ssa) := HLs.out.below ba
                replace HHs : Hid (Lim (ws11.alloc (.cells #[.bool gpa, .slice Apa mpa cpa, .int .i64 epa, .bool gpb, .slice Apb mpb cpb, .int .i64 epb] 38)) Asb msb csb ssb) := HHs.out.below ba
                replace HIs : Hid (Ib (ws11.alloc (.cells #[.bool gpa, .slice Apa mpa cpa, .int .i64 epa, .bool gpb, .slice Apb mpb cpb, .int .i64 epb] 38)) ws9.heap.size gsa Asa msa csa esa gsb Asb msb csb esb) := HIs.out.below ba
                replace HLt : Hid (Lim (ws11.alloc (.cells #[.bool gpa, .slice Apa mpa cpa, .int .i64 epa, .bool gpb, .slice Apb mpb cpb, .int .i64 epb] 38)) Ata mta cta sta) := HLt.out.below ba
                replace HHt : Hid (Lim (ws11.alloc (.cells #[.bool gpa, .slice Apa mpa cpa, .int .i64 epa, .bool gpb, .slice Apb mpb cpb, .int .i64 epb] 38)) Atb mtb ctb stb) := HHt.out.below ba
                replace HIt : Hid (Ib (ws11.alloc (.cells #[.bool gpa, .slice Apa mpa cpa, .int .i64 epa, .bool gpb, .slice Apb mpb cpb, .int .i64 epb] 38)) ws10.heap.size gta Ata mta cta eta gtb Atb mtb ctb etb) := HIt.out.below ba
                replace HLp : Hid (Lim (ws11.alloc (.cells #[.bool gpa, .slice Apa mpa cpa, .int .i64 epa, .bool gpb, .slice Apb mpb cpb, .int .i64 epb] 38)) Apa mpa cpa spa) := HLp.out.below ba
                replace HHp : Hid (Lim (ws11.alloc (.cells #[.bool gpa, .slice Apa mpa cpa, .int .i64 epa, .bool gpb, .slice Apb mpb cpb, .int .i64 epb] 38)) Apb mpb cpb spb) := HHp.out.below ba
                replace HS := Lib.hid (HS.out.trans (ba.mono HS.out.size))
                clear ba
                have HIp : Hid (Ib (ws11.alloc (.cells #[.bool gpa, .slice Apa mpa cpa, .int .i64 epa, .bool gpb, .slice Apb mpb cpb, .int .i64 epb] 38)) ws11.heap.size gpa Apa mpa cpa epa gpb Apb mpb cpb epb) := Ib.new ws11 gpa Apa mpa cpa epa gpb Apb mpb cpb epb
                have Npa : Hid (Nm 9000 gpa (val spa) epa ⟨gpa, val spa, epa⟩) := nm_eq rfl HQp.out.2.2.1.1
                have Npb : Hid (Nm 9000 gpb (val spb) epb ⟨gpb, val spb, epb⟩) := nm_eq rfl HQp.out.2.2.1.2
                clear HM O0 O1 O2 O3
                have HIn_0 := HIn.out.x0
                have HIn_1 := HIn.out.x1
                have HIn_2 := HIn.out.x2
                have HIn_3 := HIn.out.x3
                have HIn_4 := HIn.out.x4
                have HIn_5 := HIn.out.x5
                have HIk_0 := HIk.out.x0
                have HIk_1 := HIk.out.x1
                have HIk_2 := HIk.out.x2
                have HIk_3 := HIk.out.x3
                have HIk_4 := HIk.out.x4
                have HIk_5 := HIk.out.x5
                have HIi_0 := HIi.out.x0
                have HIi_1 := HIi.out.x1
                have HIi_2 := HIi.out.x2
                have HIi_3 := HIi.out.x3
                have HIi_4 := HIi.out.x4
                have HIi_5 := HIi.out.x5
                obtain ⟨m0, m1, m2, m3, o0, o1, o2, o3, hM⟩ := nmul_ex (N1.out.mono (by omega : 3640 ≤ 4200)) (N2.out.mono (by omega : 3640 ≤ 4200)) (N3.out.mono (by omega : 3640 ≤ 4200)) (N4.out.mono (by omega : 3640 ≤ 4200)) (by omega)
                have HM := Lib.hid hM
                have O0 := Lib.hid o0
                have O1 := Lib.hid o1
                have O2 := Lib.hid o2
                have O3 := Lib.hid o3
                clear o0 o1 o2 o3 hM
                have K : Hid (Calls Tryd.prog 13 #[.agg #[.bool g1, .slice A1 n1 c1, .int .i64 e1, .bool g2, .slice A2 n2 c2, .int .i64 e2], .agg #[.bool g3, .slice A3 n3 c3, .int .i64 e3, .bool g4, .slice A4 n4 c4, .int .i64 e4]] (ws11.alloc (.cells #[.bool gpa, .slice Apa mpa cpa, .int .i64 epa, .bool gpb, .slice Apb mpb cpb, .int .i64 epb] 38)) (STold (ws11.alloc (.cells #[.bool gpa, .slice Apa mpa cpa, .int .i64 epa, .bool gpb, .slice Apb mpb cpb, .int .i64 epb] 38)) (fun X Y => ((Sp 9000 X ∧ Sp 9000 Y) ∧ dwD X * (uK : Int) = lo4 (dwD d1) (dwD d2) (dwD d3) (dwD d4) ∧ dwD Y * (uK : Int) = hi4 (dwD d1) (dwD d2) (dwD d3) (dwD d4))))) := (ivmul_yes m0 m1 m2 m3 d1 d2 d3 d4 g1 A1 n1 c1 xs1 e1 g2 A2 n2 c2 xs2 e2 g3 A3 n3 c3 xs3 e3 g4 A4 n4 c4 xs4 e4 (ws11.alloc (.cells #[.bool gpa, .slice Apa mpa cpa, .int .i64 epa, .bool gpb, .slice Apb mpb cpb, .int .i64 epb] 38)) H1.out (by omega) H2.out (by omega) H3.out (by omega) H4.out (by omega) HT.out (Lib.hid (N1.out.mono (by omega : 3640 ≤ 4200)).1) (Lib.hid (N2.out.mono (by omega : 3640 ≤ 4200)).1) (Lib.hid (N3.out.mono (by omega : 3640 ≤ 4200)).1) (Lib.hid (N4.out.mono (by omega : 3640 ≤ 4200)).1) Rv1 Rv2 O0 O1 O2 O3).mono fun _ _ h => stold_imp (vtold_short h fun X Y hq => (HM.out X Y hq).1) fun X Y hq => HM.out X Y hq
                go_wp2_with fail
                refine K.out.mono ?_
                rintro e ws12 ⟨gqa, Aqa, mqa, cqa, sqa, eqa, gqb, Aqb, mqb, cqb, sqb, eqb, rfl, hmqa, hmqb, hla, hlb, hba, hbb, hB, hQ⟩
                clear HIn_0 HIn_1 HIn_2 HIn_3 HIn_4 HIn_5 HIk_0 HIk_1 HIk_2 HIk_3 HIk_4 HIk_5 HIi_0 HIi_1 HIi_2 HIi_3 HIi_4 HIi_5
                replace HT : Hid (Tab ws12) := HT.out.below hB
                replace H1 : Hid (Lim ws12 A1 n1 c1 xs1) := H1.out.below hB
                replace H2 : Hid (Lim ws12 A2 n2 c2 xs2) := H2.out.below hB
                replace H3 : Hid (Lim ws12 A3 n3 c3 xs3) := H3.out.below hB
                replace H4 : Hid (Lim ws12 A4 n4 c4 xs4) := H4.out.below hB
                replace H5 : Hid (Lim ws12 A5 n5 c5 xs5) := H5.out.below hB
                replace Jd : Hid (Bd ws12 (w.heap.size + 1 + 1) 24 g5 A5 n5 c5 e5) := Jd.out.below hB
                replace HIi : Hid (Ib ws12 pi g1 A1 n1 c1 e1 g2 A2 n2 c2 e2) := HIi.out.below hB
                replace HIk : Hid (Ib ws12 pk g3 A3 n3 c3 e3 g4 A4 n4 c4 e4) := HIk.out.below hB
                replace HIn : Hid (Ib ws12 pn x.neg Ax nx cx x.e y.neg Ay ny cy y.e) := HIn.out.below hB
                replace HXl : Hid (Lim ws12 Ax nx cx sx) := HXl.out.below hB
                replace HYl : Hid (Lim ws12 Ay ny cy sy) := HYl.out.below hB
                replace HLs : Hid (Lim ws12 Asa msa csa ssa) := HLs.out.below hB
                replace HHs : Hid (Lim ws12 Asb msb csb ssb) := HHs.out.below hB
                replace HIs : Hid (Ib ws12 ws9.heap.size gsa Asa msa csa esa gsb Asb msb csb esb) := HIs.out.below hB
                replace HLt : Hid (Lim ws12 Ata mta cta sta) := HLt.out.below hB
                replace HHt : Hid (Lim ws12 Atb mtb ctb stb) := HHt.out.below hB
                replace HIt : Hid (Ib ws12 ws10.heap.size gta Ata mta cta eta gtb Atb mtb ctb etb) := HIt.out.below hB
                replace HLp : Hid (Lim ws12 Apa mpa cpa spa) := HLp.out.below hB
                replace HHp : Hid (Lim ws12 Apb mpb cpb spb) := HHp.out.below hB
                replace HIp : Hid (Ib ws12 ws11.heap.size gpa Apa mpa cpa epa gpb Apb mpb cpb epb) := HIp.out.below hB
                replace HS := Lib.hid (HS.out.trans (hB.mono HS.out.size))
                have HLq : Hid (Lim ws12 Aqa mqa cqa sqa) := hla
                have HHq : Hid (Lim ws12 Aqb mqb cqb sqb) := hlb
                have HQq : Hid (Bare sqa ∧ Bare sqb ∧ ((Sp 9000 ⟨gqa, val sqa, eqa⟩ ∧ Sp 9000 ⟨gqb, val sqb, eqb⟩) ∧ dwD ⟨gqa, val sqa, eqa⟩ * (uK : Int) = lo4 (dwD d1) (dwD d2) (dwD d3) (dwD d4) ∧ dwD ⟨gqb, val sqb, eqb⟩ * (uK : Int) = hi4 (dwD d1) (dwD d2) (dwD d3) (dwD d4))) := ⟨hba, hbb, hQ⟩
                clear hla hlb hba hbb hQ hB K
                have ba := below1 ws12 (.cells #[.bool gqa, .slice Aqa mqa cqa, .int .i64 eqa, .bool gqb, .slice Aqb mqb cqb, .int .i64 eqb] 38)
                replace HT : Hid (Tab (ws12.alloc (.cells #[.bool gqa, .slice Aqa mqa cqa, .int .i64 eqa, .bool gqb, .slice Aqb mqb cqb, .int .i64 eqb] 38))) := HT.out.below ba
                replace H1 : Hid (Lim (ws12.alloc (.cells #[.bool gqa, .slice Aqa mqa cqa, .int .i64 eqa, .bool gqb, .slice Aqb mqb cqb, .int .i64 eqb] 38)) A1 n1 c1 xs1) := H1.out.below ba
                replace H2 : Hid (Lim (ws12.alloc (.cells #[.bool gqa, .slice Aqa mqa cqa, .int .i64 eqa, .bool gqb, .slice Aqb mqb cqb, .int .i64 eqb] 38)) A2 n2 c2 xs2) := H2.out.below ba
                replace H3 : Hid (Lim (ws12.alloc (.cells #[.bool gqa, .slice Aqa mqa cqa, .int .i64 eqa, .bool gqb, .slice Aqb mqb cqb, .int .i64 eqb] 38)) A3 n3 c3 xs3) := H3.out.below ba
                replace H4 : Hid (Lim (ws12.alloc (.cells #[.bool gqa, .slice Aqa mqa cqa, .int .i64 eqa, .bool gqb, .slice Aqb mqb cqb, .int .i64 eqb] 38)) A4 n4 c4 xs4) := H4.out.below ba
                replace H5 : Hid (Lim (ws12.alloc (.cells #[.bool gqa, .slice Aqa mqa cqa, .int .i64 eqa, .bool gqb, .slice Aqb mqb cqb, .int .i64 eqb] 38)) A5 n5 c5 xs5) := H5.out.below ba
                replace Jd : Hid (Bd (ws12.alloc (.cells #[.bool gqa, .slice Aqa mqa cqa, .int .i64 eqa, .bool gqb, .slice Aqb mqb cqb, .int .i64 eqb] 38)) (w.heap.size + 1 + 1) 24 g5 A5 n5 c5 e5) := Jd.out.below ba
                replace HIi : Hid (Ib (ws12.alloc (.cells #[.bool gqa, .slice Aqa mqa cqa, .int .i64 eqa, .bool gqb, .slice Aqb mqb cqb, .int .i64 eqb] 38)) pi g1 A1 n1 c1 e1 g2 A2 n2 c2 e2) := HIi.out.below ba
                replace HIk : Hid (Ib (ws12.alloc (.cells #[.bool gqa, .slice Aqa mqa cqa, .int .i64 eqa, .bool gqb, .slice Aqb mqb cqb, .int .i64 eqb] 38)) pk g3 A3 n3 c3 e3 g4 A4 n4 c4 e4) := HIk.out.below ba
                replace HIn : Hid (Ib (ws12.alloc (.cells #[.bool gqa, .slice Aqa mqa cqa, .int .i64 eqa, .bool gqb, .slice Aqb mqb cqb, .int .i64 eqb] 38)) pn x.neg Ax nx cx x.e y.neg Ay ny cy y.e) := HIn.out.below ba
                replace HXl : Hid (Lim (ws12.alloc (.cells #[.bool gqa, .slice Aqa mqa cqa, .int .i64 eqa, .bool gqb, .slice Aqb mqb cqb, .int .i64 eqb] 38)) Ax nx cx sx) := HXl.out.below ba
                replace HYl : Hid (Lim (ws12.alloc (.cells #[.bool gqa, .slice Aqa mqa cqa, .int .i64 eqa, .bool gqb, .slice Aqb mqb cqb, .int .i64 eqb] 38)) Ay ny cy sy) := HYl.out.below ba
                replace HLs : Hid (Lim (ws12.alloc (.cells #[.bool gqa, .slice Aqa mqa cqa, .int .i64 eqa, .bool gqb, .slice Aqb mqb cqb, .int .i64 eqb] 38)) Asa msa csa ssa) := HLs.out.below ba
                replace HHs : Hid (Lim (ws12.alloc (.cells #[.bool gqa, .slice Aqa mqa cqa, .int .i64 eqa, .bool gqb, .slice Aqb mqb cqb, .int .i64 eqb] 38)) Asb msb csb ssb) := HHs.out.below ba
                replace HIs : Hid (Ib (ws12.alloc (.cells #[.bool gqa, .slice Aqa mqa cqa, .int .i64 eqa, .bool gqb, .slice Aqb mqb cqb, .int .i64 eqb] 38)) ws9.heap.size gsa Asa msa csa esa gsb Asb msb csb esb) := HIs.out.below ba
                replace HLt : Hid (Lim (ws12.alloc (.cells #[.bool gqa, .slice Aqa mqa cqa, .int .i64 eqa, .bool gqb, .slice Aqb mqb cqb, .int .i64 eqb] 38)) Ata mta cta sta) := HLt.out.below ba
                replace HHt : Hid (Lim (ws12.alloc (.cells #[.bool gqa, .slice Aqa mqa cqa, .int .i64 eqa, .bool gqb, .slice Aqb mqb cqb, .int .i64 eqb] 38)) Atb mtb ctb stb) := HHt.out.below ba
                replace HIt : Hid (Ib (ws12.alloc (.cells #[.bool gqa, .slice Aqa mqa cqa, .int .i64 eqa, .bool gqb, .slice Aqb mqb cqb, .int .i64 eqb] 38)) ws10.heap.size gta Ata mta cta eta gtb Atb mtb ctb etb) := HIt.out.below ba
                replace HLp : Hid (Lim (ws12.alloc (.cells #[.bool gqa, .slice Aqa mqa cqa, .int .i64 eqa, .bool gqb, .slice Aqb mqb cqb, .int .i64 eqb] 38)) Apa mpa cpa spa) := HLp.out.below ba
                replace HHp : Hid (Lim (ws12.alloc (.cells #[.bool gqa, .slice Aqa mqa cqa, .int .i64 eqa, .bool gqb, .slice Aqb mqb cqb, .int .i64 eqb] 38)) Apb mpb cpb spb) := HHp.out.below ba
                replace HIp : Hid (Ib (ws12.alloc (.cells #[.bool gqa, .slice Aqa mqa cqa, .int .i64 eqa, .bool gqb, .slice Aqb mqb cqb, .int .i64 eqb] 38)) ws11.heap.size gpa Apa mpa cpa epa gpb Apb mpb cpb epb) := HIp.out.below ba
                replace HLq : Hid (Lim (ws12.alloc (.cells #[.bool gqa, .slice Aqa mqa cqa, .int .i64 eqa, .bool gqb, .slice Aqb mqb cqb, .int .i64 eqb] 38)) Aqa mqa cqa sqa) := HLq.out.below ba
                replace HHq : Hid (Lim (ws12.alloc (.cells #[.bool gqa, .slice Aqa mqa cqa, .int .i64 eqa, .bool gqb, .slice Aqb mqb cqb, .int .i64 eqb] 38)) Aqb mqb cqb sqb) := HHq.out.below ba
                replace HS := Lib.hid (HS.out.trans (ba.mono HS.out.size))
                clear ba
                have HIq : Hid (Ib (ws12.alloc (.cells #[.bool gqa, .slice Aqa mqa cqa, .int .i64 eqa, .bool gqb, .slice Aqb mqb cqb, .int .i64 eqb] 38)) ws12.heap.size gqa Aqa mqa cqa eqa gqb Aqb mqb cqb eqb) := Ib.new ws12 gqa Aqa mqa cqa eqa gqb Aqb mqb cqb eqb
                have Nqa : Hid (Nm 9000 gqa (val sqa) eqa ⟨gqa, val sqa, eqa⟩) := nm_eq rfl HQq.out.2.2.1.1
                have Nqb : Hid (Nm 9000 gqb (val sqb) eqb ⟨gqb, val sqb, eqb⟩) := nm_eq rfl HQq.out.2.2.1.2
                clear HM O0 O1 O2 O3
                have W9 := WX.out
                have FS0 : (dwD s1s ≤ dwD t1s ∧ dwD s1t ≤ dwD t1t ∧ dwD s1t ≤ dwD s1s ∧ dwD s1s ≤ dwD t1t ∧ dwD s1t ≤ dwD t1s ∧ dwD t1s ≤ dwD t1t) := by
                  have a := Ss.out.2; have b := St.out.2; omega
                have FS := Lib.hid FS0
                clear FS0
                have f1 := four_order W9.2.1 W9.2.2.2.2
                have f2 := four_order W9.2.2.2.1 W9.2.2.2.2
                have f3 := four_in W9.1 W9.2.1 W9.2.2.1 W9.2.2.2.2
                have FP : Hid (dwD ⟨gpa, val spa, epa⟩ ≤ dwD ⟨gpb, val spb, epb⟩ ∧ dwD ⟨gqa, val sqa, eqa⟩ ≤ dwD ⟨gqb, val sqb, eqb⟩ ∧ dwD ⟨gqa, val sqa, eqa⟩ ≤ dwD ⟨gpa, val spa, epa⟩ ∧ dwD ⟨gpa, val spa, epa⟩ ≤ dwD ⟨gqb, val sqb, eqb⟩ ∧ dwD ⟨gqa, val sqa, eqa⟩ ≤ dwD ⟨gpb, val spb, epb⟩ ∧ dwD ⟨gpb, val spb, epb⟩ ≤ dwD ⟨gqb, val sqb, eqb⟩) := ⟨(le_of_K uK_pos).2 (by rw [HQp.out.2.2.2.1, HQp.out.2.2.2.2]; exact f1), (le_of_K uK_pos).2 (by rw [HQq.out.2.2.2.1, HQq.out.2.2.2.2]; exact f2), (le_of_K uK_pos).2 (by rw [HQq.out.2.2.2.1, HQp.out.2.2.2.1]; exact f3.1), (le_of_K uK_pos).2 (by rw [HQp.out.2.2.2.1, HQq.out.2.2.2.2]; omega), (le_of_K uK_pos).2 (by rw [HQq.out.2.2.2.1, HQp.out.2.2.2.2]; omega), (le_of_K uK_pos).2 (by rw [HQp.out.2.2.2.2, HQq.out.2.2.2.2]; exact f3.2)⟩
                clear f1 f2 f3 W9
                have HIn_0 := HIn.out.x0
                have HIn_1 := HIn.out.x1
                have HIn_2 := HIn.out.x2
                have HIn_3 := HIn.out.x3
                have HIn_4 := HIn.out.x4
                have HIn_5 := HIn.out.x5
                have HIi_0 := HIi.out.x0
                have HIi_1 := HIi.out.x1
                have HIi_2 := HIi.out.x2
                have HIi_3 := HIi.out.x3
                have HIi_4 := HIi.out.x4
                have HIi_5 := HIi.out.x5
                have K := Lib.hid (iinside_l true true true true true true x y d1 d2 x.neg Ax nx cx sx x.e y.neg Ay ny cy sy y.e g1 A1 n1 c1 xs1 e1 g2 A2 n2 c2 xs2 e2 (ws12.alloc (.cells #[.bool gqa, .slice Aqa mqa cqa, .int .i64 eqa, .bool gqb, .slice Aqb mqb cqb, .int .i64 eqb] 38)) HXl.out (by omega) HYl.out (by omega) H1.out (by omega) H2.out (by omega) HT.out (Lib.hid NX.out.1) (Lib.hid NY.out.1) (Lib.hid N1.out.1) (Lib.hid N2.out.1) (decide_eq_true (by rw [NX.out.2.2, NY.out.2.2]; exact WX.out.2.1)) (decide_eq_true (by rw [N1.out.2.2, N2.out.2.2]; exact WX.out.2.2.2.1)) (decide_eq_true (by rw [N1.out.2.2, NX.out.2.2]; exact WX.out.1)) (decide_eq_true (by rw [NX.out.2.2, N2.out.2.2]; exact (Int.le_trans WX.out.2.1 WX.out.2.2.1))) (decide_eq_true (by rw [N1.out.2.2, NY.out.2.2]; exact (Int.le_trans WX.out.1 WX.out.2.1))) (decide_eq_true (by rw [NY.out.2.2, N2.out.2.2]; exact WX.out.2.2.1)))
                go_wp2_with fail
                refine K.out.mono ?_
                rintro e w13 ⟨rfl, hB⟩
                clear HIn_0 HIn_1 HIn_2 HIn_3 HIn_4 HIn_5 HIi_0 HIi_1 HIi_2 HIi_3 HIi_4 HIi_5
                replace HT : Hid (Tab w13) := HT.out.below hB
                replace H1 : Hid (Lim w13 A1 n1 c1 xs1) := H1.out.below hB
                replace H2 : Hid (Lim w13 A2 n2 c2 xs2) := H2.out.below hB
                replace H3 : Hid (Lim w13 A3 n3 c3 xs3) := H3.out.below hB
                replace H4 : Hid (Lim w13 A4 n4 c4 xs4) := H4.out.below hB
                replace H5 : Hid (Lim w13 A5 n5 c5 xs5) := H5.out.below hB
                replace Jd : Hid (Bd w13 (w.heap.size + 1 + 1) 24 g5 A5 n5 c5 e5) := Jd.out.below hB
                replace HIi : Hid (Ib w13 pi g1 A1 n1 c1 e1 g2 A2 n2 c2 e2) := HIi.out.below hB
                replace HIk : Hid (Ib w13 pk g3 A3 n3 c3 e3 g4 A4 n4 c4 e4) := HIk.out.below hB
                replace HIn : Hid (Ib w13 pn x.neg Ax nx cx x.e y.neg Ay ny cy y.e) := HIn.out.below hB
                replace HXl : Hid (Lim w13 Ax nx cx sx) := HXl.out.below hB
                replace HYl : Hid (Lim w13 Ay ny cy sy) := HYl.out.below hB
                replace HLs : Hid (Lim w13 Asa msa csa ssa) := HLs.out.below hB
                replace HHs : Hid (Lim w13 Asb msb csb ssb) := HHs.out.below hB
                replace HIs : Hid (Ib w13 ws9.heap.size gsa Asa msa csa esa gsb Asb msb csb esb) := HIs.out.below hB
                replace HLt : Hid (Lim w13 Ata mta cta sta) := HLt.out.below hB
                replace HHt : Hid (Lim w13 Atb mtb ctb stb) := HHt.out.below hB
                replace HIt : Hid (Ib w13 ws10.heap.size gta Ata mta cta eta gtb Atb mtb ctb etb) := HIt.out.below hB
                replace HLp : Hid (Lim w13 Apa mpa cpa spa) := HLp.out.below hB
                replace HHp : Hid (Lim w13 Apb mpb cpb spb) := HHp.out.below hB
                replace HIp : Hid (Ib w13 ws11.heap.size gpa Apa mpa cpa epa gpb Apb mpb cpb epb) := HIp.out.below hB
                replace HLq : Hid (Lim w13 Aqa mqa cqa sqa) := HLq.out.below hB
                replace HHq : Hid (Lim w13 Aqb mqb cqb sqb) := HHq.out.below hB
                replace HIq : Hid (Ib w13 ws12.heap.size gqa Aqa mqa cqa eqa gqb Aqb mqb cqb eqb) := HIq.out.below hB
                replace HS := Lib.hid (HS.out.trans (hB.mono HS.out.size))
                clear hB K
                have HIs_0 := HIs.out.x0
                have HIs_1 := HIs.out.x1
                have HIs_2 := HIs.out.x2
                have HIs_3 := HIs.out.x3
                have HIs_4 := HIs.out.x4
                have HIs_5 := HIs.out.x5
                have HIt_0 := HIt.out.x0
                have HIt_1 := HIt.out.x1
                have HIt_2 := HIt.out.x2
                have HIt_3 := HIt.out.x3
                have HIt_4 := HIt.out.x4
                have HIt_5 := HIt.out.x5
                have K := Lib.hid (iinside_l true true true true true true s1s t1s s1t t1t gsa Asa msa csa ssa esa gsb Asb msb csb ssb esb gta Ata mta cta sta eta gtb Atb mtb ctb stb etb w13 HLs.out (by omega) HHs.out (by omega) HLt.out (by omega) HHt.out (by omega) HT.out (Lib.hid Ns.out.1.1) (Lib.hid Ns.out.2.1) (Lib.hid Nt.out.1.1) (Lib.hid Nt.out.2.1) (decide_eq_true (by rw [Ns.out.1.2.2, Ns.out.2.2.2]; exact FS.out.1)) (decide_eq_true (by rw [Nt.out.1.2.2, Nt.out.2.2.2]; exact FS.out.2.1)) (decide_eq_true (by rw [Nt.out.1.2.2, Ns.out.1.2.2]; exact FS.out.2.2.1)) (decide_eq_true (by rw [Ns.out.1.2.2, Nt.out.2.2.2]; exact FS.out.2.2.2.1)) (decide_eq_true (by rw [Nt.out.1.2.2, Ns.out.2.2.2]; exact FS.out.2.2.2.2.1)) (decide_eq_true (by rw [Ns.out.2.2.2, Nt.out.2.2.2]; exact FS.out.2.2.2.2.2)))
                go_wp2_with fail
                refine K.out.mono ?_
                rintro e w14 ⟨rfl, hB⟩
                clear HIs_0 HIs_1 HIs_2 HIs_3 HIs_4 HIs_5 HIt_0 HIt_1 HIt_2 HIt_3 HIt_4 HIt_5
                replace HT : Hid (Tab w14) := HT.out.below hB
                replace H1 : Hid (Lim w14 A1 n1 c1 xs1) := H1.out.below hB
                replace H2 : Hid (Lim w14 A2 n2 c2 xs2) := H2.out.below hB
                replace H3 : Hid (Lim w14 A3 n3 c3 xs3) := H3.out.below hB
                replace H4 : Hid (Lim w14 A4 n4 c4 xs4) := H4.out.below hB
                replace H5 : Hid (Lim w14 A5 n5 c5 xs5) := H5.out.below hB
                replace Jd : Hid (Bd w14 (w.heap.size + 1 + 1) 24 g5 A5 n5 c5 e5) := Jd.out.below hB
                replace HIi : Hid (Ib w14 pi g1 A1 n1 c1 e1 g2 A2 n2 c2 e2) := HIi.out.below hB
                replace HIk : Hid (Ib w14 pk g3 A3 n3 c3 e3 g4 A4 n4 c4 e4) := HIk.out.below hB
                replace HIn : Hid (Ib w14 pn x.neg Ax nx cx x.e y.neg Ay ny cy y.e) := HIn.out.below hB
                replace HXl : Hid (Lim w14 Ax nx cx sx) := HXl.out.below hB
                replace HYl : Hid (Lim w14 Ay ny cy sy) := HYl.out.below hB
                replace HLs : Hid (Lim w14 Asa msa csa ssa) := HLs.out.below hB
                replace HHs : Hid (Lim w14 Asb msb csb ssb) := HHs.out.below hB
                replace HIs : Hid (Ib w14 ws9.heap.size gsa Asa msa csa esa gsb Asb msb csb esb) := HIs.out.below hB
                replace HLt : Hid (Lim w14 Ata mta cta sta) := HLt.out.below hB
                replace HHt : Hid (Lim w14 Atb mtb ctb stb) := HHt.out.below hB
                replace HIt : Hid (Ib w14 ws10.heap.size gta Ata mta cta eta gtb Atb mtb ctb etb) := HIt.out.below hB
                replace HLp : Hid (Lim w14 Apa mpa cpa spa) := HLp.out.below hB
                replace HHp : Hid (Lim w14 Apb mpb cpb spb) := HHp.out.below hB
                replace HIp : Hid (Ib w14 ws11.heap.size gpa Apa mpa cpa epa gpb Apb mpb cpb epb) := HIp.out.below hB
                replace HLq : Hid (Lim w14 Aqa mqa cqa sqa) := HLq.out.below hB
                replace HHq : Hid (Lim w14 Aqb mqb cqb sqb) := HHq.out.below hB
                replace HIq : Hid (Ib w14 ws12.heap.size gqa Aqa mqa cqa eqa gqb Aqb mqb cqb eqb) := HIq.out.below hB
                replace HS := Lib.hid (HS.out.trans (hB.mono HS.out.size))
                clear hB K
                have HIp_0 := HIp.out.x0
                have HIp_1 := HIp.out.x1
                have HIp_2 := HIp.out.x2
                have HIp_3 := HIp.out.x3
                have HIp_4 := HIp.out.x4
                have HIp_5 := HIp.out.x5
                have HIq_0 := HIq.out.x0
                have HIq_1 := HIq.out.x1
                have HIq_2 := HIq.out.x2
                have HIq_3 := HIq.out.x3
                have HIq_4 := HIq.out.x4
                have HIq_5 := HIq.out.x5
                have K := Lib.hid (iinside_l true true true true true true ⟨gpa, val spa, epa⟩ ⟨gpb, val spb, epb⟩ ⟨gqa, val sqa, eqa⟩ ⟨gqb, val sqb, eqb⟩ gpa Apa mpa cpa spa epa gpb Apb mpb cpb spb epb gqa Aqa mqa cqa sqa eqa gqb Aqb mqb cqb sqb eqb w14 HLp.out (by omega) HHp.out (by omega) HLq.out (by omega) HHq.out (by omega) HT.out (Lib.hid Npa.out.1) (Lib.hid Npb.out.1) (Lib.hid Nqa.out.1) (Lib.hid Nqb.out.1) (decide_eq_true (by rw [Npa.out.2.2, Npb.out.2.2]; exact FP.out.1)) (decide_eq_true (by rw [Nqa.out.2.2, Nqb.out.2.2]; exact FP.out.2.1)) (decide_eq_true (by rw [Nqa.out.2.2, Npa.out.2.2]; exact FP.out.2.2.1)) (decide_eq_true (by rw [Npa.out.2.2, Nqb.out.2.2]; exact FP.out.2.2.2.1)) (decide_eq_true (by rw [Nqa.out.2.2, Npb.out.2.2]; exact FP.out.2.2.2.2.1)) (decide_eq_true (by rw [Npb.out.2.2, Nqb.out.2.2]; exact FP.out.2.2.2.2.2)))
                go_wp2_with fail
                refine K.out.mono ?_
                rintro e w15 ⟨rfl, hB⟩
                clear HIp_0 HIp_1 HIp_2 HIp_3 HIp_4 HIp_5 HIq_0 HIq_1 HIq_2 HIq_3 HIq_4 HIq_5
                replace HT : Hid (Tab w15) := HT.out.below hB
                replace H1 : Hid (Lim w15 A1 n1 c1 xs1) := H1.out.below hB
                replace H2 : Hid (Lim w15 A2 n2 c2 xs2) := H2.out.below hB
                replace H3 : Hid (Lim w15 A3 n3 c3 xs3) := H3.out.below hB
                replace H4 : Hid (Lim w15 A4 n4 c4 xs4) := H4.out.below hB
                replace H5 : Hid (Lim w15 A5 n5 c5 xs5) := H5.out.below hB
                replace Jd : Hid (Bd w15 (w.heap.size + 1 + 1) 24 g5 A5 n5 c5 e5) := Jd.out.below hB
                replace HIi : Hid (Ib w15 pi g1 A1 n1 c1 e1 g2 A2 n2 c2 e2) := HIi.out.below hB
                replace HIk : Hid (Ib w15 pk g3 A3 n3 c3 e3 g4 A4 n4 c4 e4) := HIk.out.below hB
                replace HIn : Hid (Ib w15 pn x.neg Ax nx cx x.e y.neg Ay ny cy y.e) := HIn.out.below hB
                replace HXl : Hid (Lim w15 Ax nx cx sx) := HXl.out.below hB
                replace HYl : Hid (Lim w15 Ay ny cy sy) := HYl.out.below hB
                replace HLs : Hid (Lim w15 Asa msa csa ssa) := HLs.out.below hB
                replace HHs : Hid (Lim w15 Asb msb csb ssb) := HHs.out.below hB
                replace HIs : Hid (Ib w15 ws9.heap.size gsa Asa msa csa esa gsb Asb msb csb esb) := HIs.out.below hB
                replace HLt : Hid (Lim w15 Ata mta cta sta) := HLt.out.below hB
                replace HHt : Hid (Lim w15 Atb mtb ctb stb) := HHt.out.below hB
                replace HIt : Hid (Ib w15 ws10.heap.size gta Ata mta cta eta gtb Atb mtb ctb etb) := HIt.out.below hB
                replace HLp : Hid (Lim w15 Apa mpa cpa spa) := HLp.out.below hB
                replace HHp : Hid (Lim w15 Apb mpb cpb spb) := HHp.out.below hB
                replace HIp : Hid (Ib w15 ws11.heap.size gpa Apa mpa cpa epa gpb Apb mpb cpb epb) := HIp.out.below hB
                replace HLq : Hid (Lim w15 Aqa mqa cqa sqa) := HLq.out.below hB
                replace HHq : Hid (Lim w15 Aqb mqb cqb sqb) := HHq.out.below hB
                replace HIq : Hid (Ib w15 ws12.heap.size gqa Aqa mqa cqa eqa gqb Aqb mqb cqb eqb) := HIq.out.below hB
                replace HS := Lib.hid (HS.out.trans (hB.mono HS.out.size))
                clear hB K
                clear HIs HLs HHs HIt HLt HHt HIp HLp HHp HIq HLq HHq HIn HXl HYl HIk H3 H4
                clear FS FP Ns Nt Npa Npb Nqa Nqb Ss St HQp HQq NX NY N3 N4 Rv2 WX
                have jd0 := Jd.out.c0
                have jd1 := Jd.out.c1
                have jd2 := Jd.out.c2
                clear Jd
                have ba := below1 w15 (.cells #[.bool g5, .slice A5 n5 c5, .int .i64 e5] 36)
                replace HT : Hid (Tab (w15.alloc (.cells #[.bool g5, .slice A5 n5 c5, .int .i64 e5] 36))) := HT.out.below ba
                replace H1 : Hid (Lim (w15.alloc (.cells #[.bool g5, .slice A5 n5 c5, .int .i64 e5] 36)) A1 n1 c1 xs1) := H1.out.below ba
                replace H2 : Hid (Lim (w15.alloc (.cells #[.bool g5, .slice A5 n5 c5, .int .i64 e5] 36)) A2 n2 c2 xs2) := H2.out.below ba
                replace H5 : Hid (Lim (w15.alloc (.cells #[.bool g5, .slice A5 n5 c5, .int .i64 e5] 36)) A5 n5 c5 xs5) := H5.out.below ba
                replace HIi : Hid (Ib (w15.alloc (.cells #[.bool g5, .slice A5 n5 c5, .int .i64 e5] 36)) pi g1 A1 n1 c1 e1 g2 A2 n2 c2 e2) := HIi.out.below ba
                replace HS := Lib.hid (HS.out.trans (ba.mono HS.out.size))
                clear ba
                have HD5 : Hid (Bd (w15.alloc (.cells #[.bool g5, .slice A5 n5 c5, .int .i64 e5] 36)) w15.heap.size 36 g5 A5 n5 c5 e5) := Bd.new w15 36 g5 A5 n5 c5 e5
                have HD5_0 := HD5.out.c0
                have HD5_1 := HD5.out.c1
                have HD5_2 := HD5.out.c2
                have K := Lib.hid (at15_l d5 g5 A5 n5 c5 xs5 e5 (w15.alloc (.cells #[.bool g5, .slice A5 n5 c5, .int .i64 e5] 36)) H5.out (by omega) HT.out (Lib.hid N5.out.1))
                go_wp2_with fail
                refine K.out.mono ?_
                rintro e wt16 ⟨ga, Aa, ma, ca, za, ea, gb, Ab, mb, cb, zb, eb, rfl, hma, hmb, hla, hlb, hba, hbb, hB, hQ⟩
                clear jd0 jd1 jd2
                clear HD5_0 HD5_1 HD5_2
                replace HT : Hid (Tab wt16) := HT.out.below hB
                replace H1 : Hid (Lim wt16 A1 n1 c1 xs1) := H1.out.below hB
                replace H2 : Hid (Lim wt16 A2 n2 c2 xs2) := H2.out.below hB
                replace H5 : Hid (Lim wt16 A5 n5 c5 xs5) := H5.out.below hB
                replace HIi : Hid (Ib wt16 pi g1 A1 n1 c1 e1 g2 A2 n2 c2 e2) := HIi.out.below hB
                replace HD5 : Hid (Bd wt16 w15.heap.size 36 g5 A5 n5 c5 e5) := HD5.out.below hB
                replace HS := Lib.hid (HS.out.trans (hB.mono HS.out.size))
                have na := nm_eq hQ.1 N5.out.2.1
                have nb := nm_eq hQ.2 N5.out.2.1
                obtain ⟨mneg, hmg, smg, wmg⟩ := sp_neg (nm_bare N5.out.2.1).2.1 (by omega)
                obtain ⟨z, hz1, hz2, hz3⟩ := sp_add (nm_bare N5.out.2.1).2.1 smg (by omega)
                have SZ : Hid (Sp 9000 z ∧ dwD z = 0) := ⟨hz2.mono (by omega), by have a : dwD z = dw d5.neg d5.V d5.e + dw mneg.neg mneg.V mneg.e := hz3; rw [wmg] at a; omega⟩
                have ea1 : (⟨ga, val za, ea⟩ : Dy) = d5 := hQ.1
                have eb1 : (⟨gb, val zb, eb⟩ : Dy) = d5 := hQ.2
                have hma9 : ma ≤ 300 := by rw [← hla.len]; exact sp_len N5.out.2.1 hla.words hba (by rw [← ea1]) (by decide)
                have hmb9 : mb ≤ 300 := by rw [← hlb.len]; exact sp_len N5.out.2.1 hlb.words hbb (by rw [← eb1]) (by decide)
                have o1w : mk (!ga) (val za) ea = some mneg := by have h := hmg; rw [← ea1] at h; exact h
                have o2w : addO (mk gb (val zb) eb) (mk mneg.neg mneg.V mneg.e) = some z := by have h := hz1; rw [← eb1] at h; exact h
                have K := Lib.hid (ivwide_yes z mneg d5 d5 ga Aa ma ca za ea gb Ab mb cb zb eb wt16 hla (by omega) hlb (by omega) HT.out (Lib.hid na.1) (Lib.hid nb.1) (decide_eq_true (by rw [na.2.2, nb.2.2]; exact Int.le_refl _)) (Lib.hid o1w) (Lib.hid o2w))
                clear na nb hmg smg wmg hz1 hz2 hz3 ea1 eb1 o1w o2w hla hlb hba hbb hQ hB
                go_wp2_with fail
                refine K.out.mono ?_
                rintro e w17 ⟨gz, Az, mz, cz, sz, Ez, rz, rfl, hmx, hlz, hbz, ⟨rfl, rfl, hzz, rfl⟩, hB⟩
                have hmz : mz ≤ 300 := by rw [← hlz.len]; exact sp_len SZ.out.1 hlz.words hbz hzz (by omega)
                replace HT : Hid (Tab w17) := HT.out.below hB
                replace H1 : Hid (Lim w17 A1 n1 c1 xs1) := H1.out.below hB
                replace H2 : Hid (Lim w17 A2 n2 c2 xs2) := H2.out.below hB
                replace H5 : Hid (Lim w17 A5 n5 c5 xs5) := H5.out.below hB
                replace HIi : Hid (Ib w17 pi g1 A1 n1 c1 e1 g2 A2 n2 c2 e2) := HIi.out.below hB
                replace HD5 : Hid (Bd w17 w15.heap.size 36 g5 A5 n5 c5 e5) := HD5.out.below hB
                replace HS := Lib.hid (HS.out.trans (hB.mono HS.out.size))
                have HLz : Hid (Lim w17 Az mz cz sz) := hlz
                have HVz : Hid (val sz = z.V) := hzz
                clear hlz hbz hzz hB hmx K
                have ba := below1 w17 (.cells #[.bool z.neg, .slice Az mz cz, .int .i64 z.e] 36)
                replace HT : Hid (Tab (w17.alloc (.cells #[.bool z.neg, .slice Az mz cz, .int .i64 z.e] 36))) := HT.out.below ba
                replace H1 : Hid (Lim (w17.alloc (.cells #[.bool z.neg, .slice Az mz cz, .int .i64 z.e] 36)) A1 n1 c1 xs1) := H1.out.below ba
                replace H2 : Hid (Lim (w17.alloc (.cells #[.bool z.neg, .slice Az mz cz, .int .i64 z.e] 36)) A2 n2 c2 xs2) := H2.out.below ba
                replace H5 : Hid (Lim (w17.alloc (.cells #[.bool z.neg, .slice Az mz cz, .int .i64 z.e] 36)) A5 n5 c5 xs5) := H5.out.below ba
                replace HIi : Hid (Ib (w17.alloc (.cells #[.bool z.neg, .slice Az mz cz, .int .i64 z.e] 36)) pi g1 A1 n1 c1 e1 g2 A2 n2 c2 e2) := HIi.out.below ba
                replace HD5 : Hid (Bd (w17.alloc (.cells #[.bool z.neg, .slice Az mz cz, .int .i64 z.e] 36)) w15.heap.size 36 g5 A5 n5 c5 e5) := HD5.out.below ba
                replace HLz : Hid (Lim (w17.alloc (.cells #[.bool z.neg, .slice Az mz cz, .int .i64 z.e] 36)) Az mz cz sz) := HLz.out.below ba
                replace HS := Lib.hid (HS.out.trans (ba.mono HS.out.size))
                clear ba
                have HNz : Hid (Bd (w17.alloc (.cells #[.bool z.neg, .slice Az mz cz, .int .i64 z.e] 36)) w17.heap.size 36 z.neg Az mz cz z.e) := Bd.new w17 36 z.neg Az mz cz z.e
                obtain ⟨b1, hb1⟩ : ∃ b, decide (dwD d1 ≤ dwD d5) = b := ⟨_, rfl⟩
                obtain ⟨b2, hb2⟩ : ∃ b, decide (dwD d5 ≤ dwD d2) = b := ⟨_, rfl⟩
                obtain ⟨bb, hbb⟩ : ∃ b, (b1 && b2) = b := ⟨_, rfl⟩
                have r12 := of_decide_eq_true Rv1.out
                rw [N1.out.2.2, N2.out.2.2] at r12
                have R12 := Lib.hid r12
                have HB1 := Lib.hid hb1
                have HB2 := Lib.hid hb2
                have HBB := Lib.hid hbb
                clear r12 hb1 hb2 hbb
                have CS : Hid (∀ vv, Below (w17.alloc (.cells #[.bool z.neg, .slice Az mz cz, .int .i64 z.e] 36)).heap.size (w17.alloc (.cells #[.bool z.neg, .slice Az mz cz, .int .i64 z.e] 36)) vv → Calls Tryd.prog 31 #[.agg #[.bool z.neg, .slice Az mz cz, .int .i64 z.e]] vv (fun e w' => e = .returned (.int .i64 0) ∧ Below vv.heap.size vv w')) := fun vv hs => sign_l 0 z.neg Az mz cz sz z.e vv (HLz.out.below hs) (by omega) (by show _ = _; rw [HVz.out]; exact sgd_nought SZ.out.2)
                have CT : Hid (∀ vv, Below (w17.alloc (.cells #[.bool z.neg, .slice Az mz cz, .int .i64 z.e] 36)).heap.size (w17.alloc (.cells #[.bool z.neg, .slice Az mz cz, .int .i64 z.e] 36)) vv → Calls Tryd.prog 30 #[.agg #[.bool g5, .slice A5 n5 c5, .int .i64 e5]] vv (UTold vv (fun X Y => X = d5 ∧ Y = d5))) := fun vv hs => at15_l d5 g5 A5 n5 c5 xs5 e5 vv (H5.out.below hs) (by omega) (HT.out.below hs) (Lib.hid N5.out.1)
                have CH1 : Hid (∀ vv go Ao mo co zo eo ho Bo no' ko yo fo, (Lim vv Ao mo co zo ∧ Lim vv Bo no' ko yo ∧ mo ≤ 100000 ∧ no' ≤ 100000 ∧ (⟨go, val zo, eo⟩ : Dy) = d5 ∧ (⟨ho, val yo, fo⟩ : Dy) = d5) → Below (w17.alloc (.cells #[.bool z.neg, .slice Az mz cz, .int .i64 z.e] 36)).heap.size (w17.alloc (.cells #[.bool z.neg, .slice Az mz cz, .int .i64 z.e] 36)) vv → Calls Tryd.prog 17 #[.agg #[.bool go, .slice Ao mo co, .int .i64 eo, .bool ho, .slice Bo no' ko, .int .i64 fo], .agg #[.bool g5, .slice A5 n5 c5, .int .i64 e5]] vv (fun e w' => e = .returned (.bool true) ∧ Below vv.heap.size vv w')) := fun vv go Ao mo co zo eo ho Bo no' ko yo fo h hs => by
                  have Na := nm_eq h.2.2.2.2.1 N5.out.2.1
                  have Nb := nm_eq h.2.2.2.2.2 N5.out.2.1
                  exact ihas_l true true true d5 d5 d5 go Ao mo co zo eo ho Bo no' ko yo fo g5 A5 n5 c5 xs5 e5 vv h.1 h.2.2.1 h.2.1 h.2.2.2.1 (H5.out.below hs) (by omega) (HT.out.below hs) (Lib.hid Na.1) (Lib.hid Nb.1) (Lib.hid N5.out.1) (decide_eq_true (by rw [Na.2.2, Nb.2.2]; exact Int.le_refl _)) (decide_eq_true (by rw [Na.2.2, N5.out.2.2]; exact Int.le_refl _)) (decide_eq_true (by rw [N5.out.2.2, Nb.2.2]; exact Int.le_refl _))
                have CI1 : Hid (∀ vv go Ao mo co zo eo ho Bo no' ko yo fo gi Ai mi ci zi ei hi Bi ni' ki yi fi, (Lim vv Ao mo co zo ∧ Lim vv Bo no' ko yo ∧ mo ≤ 100000 ∧ no' ≤ 100000 ∧ (⟨go, val zo, eo⟩ : Dy) = d5 ∧ (⟨ho, val yo, fo⟩ : Dy) = d5) ∧ (Lim vv Ai mi ci zi ∧ Lim vv Bi ni' ki yi ∧ mi ≤ 100000 ∧ ni' ≤ 100000 ∧ (⟨gi, val zi, ei⟩ : Dy) = d5 ∧ (⟨hi, val yi, fi⟩ : Dy) = d5) → Below (w17.alloc (.cells #[.bool z.neg, .slice Az mz cz, .int .i64 z.e] 36)).heap.size (w17.alloc (.cells #[.bool z.neg, .slice Az mz cz, .int .i64 z.e] 36)) vv → Calls Tryd.prog 18 #[.agg #[.bool go, .slice Ao mo co, .int .i64 eo, .bool ho, .slice Bo no' ko, .int .i64 fo], .agg #[.bool gi, .slice Ai mi ci, .int .i64 ei, .bool hi, .slice Bi ni' ki, .int .i64 fi]] vv (fun e w' => e = .returned (.bool true) ∧ Below vv.heap.size vv w')) := fun vv go Ao mo co zo eo ho Bo no' ko yo fo gi Ai mi ci zi ei hi Bi ni' ki yi fi h hs => by
                  have Na := nm_eq h.1.2.2.2.2.1 N5.out.2.1
                  have Nb := nm_eq h.1.2.2.2.2.2 N5.out.2.1
                  have Nc := nm_eq h.2.2.2.2.2.1 N5.out.2.1
                  have Nd := nm_eq h.2.2.2.2.2.2 N5.out.2.1
                  exact iinside_l true true true true true true d5 d5 d5 d5 go Ao mo co zo eo ho Bo no' ko yo fo gi Ai mi ci zi ei hi Bi ni' ki yi fi vv h.1.1 h.1.2.2.1 h.1.2.1 h.1.2.2.2.1 h.2.1 h.2.2.2.1 h.2.2.1 h.2.2.2.2.1 (HT.out.below hs) (Lib.hid Na.1) (Lib.hid Nb.1) (Lib.hid Nc.1) (Lib.hid Nd.1) (decide_eq_true (by rw [Na.2.2, Nb.2.2]; exact Int.le_refl _)) (decide_eq_true (by rw [Nc.2.2, Nd.2.2]; exact Int.le_refl _)) (decide_eq_true (by rw [Nc.2.2, Na.2.2]; exact Int.le_refl _)) (decide_eq_true (by rw [Na.2.2, Nd.2.2]; exact Int.le_refl _)) (decide_eq_true (by rw [Nc.2.2, Nb.2.2]; exact Int.le_refl _)) (decide_eq_true (by rw [Nb.2.2, Nd.2.2]; exact Int.le_refl _))
                have CH2 : Hid (∀ vv, Below (w17.alloc (.cells #[.bool z.neg, .slice Az mz cz, .int .i64 z.e] 36)).heap.size (w17.alloc (.cells #[.bool z.neg, .slice Az mz cz, .int .i64 z.e] 36)) vv → Calls Tryd.prog 17 #[.agg #[.bool g1, .slice A1 n1 c1, .int .i64 e1, .bool g2, .slice A2 n2 c2, .int .i64 e2], .agg #[.bool g5, .slice A5 n5 c5, .int .i64 e5]] vv (fun e w' => e = .returned (.bool bb) ∧ Below vv.heap.size vv w')) := fun vv hs => by
                  have h := ihas_l true b1 b2 d1 d2 d5 g1 A1 n1 c1 xs1 e1 g2 A2 n2 c2 xs2 e2 g5 A5 n5 c5 xs5 e5 vv (H1.out.below hs) (by omega) (H2.out.below hs) (by omega) (H5.out.below hs) (by omega) (HT.out.below hs) (Lib.hid N1.out.1) (Lib.hid N2.out.1) (Lib.hid N5.out.1) Rv1 (by show _ = _; rw [N1.out.2.2, N5.out.2.2]; exact HB1.out) (by show _ = _; rw [N5.out.2.2, N2.out.2.2]; exact HB2.out)
                  rw [show (true && b1 && b2) = bb by rw [← HBB.out]; cases b1 <;> cases b2 <;> rfl] at h
                  exact h
                have CI2 : Hid (∀ vv go Ao mo co zo eo ho Bo no' ko yo fo, (Lim vv Ao mo co zo ∧ Lim vv Bo no' ko yo ∧ mo ≤ 100000 ∧ no' ≤ 100000 ∧ (⟨go, val zo, eo⟩ : Dy) = d5 ∧ (⟨ho, val yo, fo⟩ : Dy) = d5) → Below (w17.alloc (.cells #[.bool z.neg, .slice Az mz cz, .int .i64 z.e] 36)).heap.size (w17.alloc (.cells #[.bool z.neg, .slice Az mz cz, .int .i64 z.e] 36)) vv → Calls Tryd.prog 18 #[.agg #[.bool go, .slice Ao mo co, .int .i64 eo, .bool ho, .slice Bo no' ko, .int .i64 fo], .agg #[.bool g1, .slice A1 n1 c1, .int .i64 e1, .bool g2, .slice A2 n2 c2, .int .i64 e2]] vv (fun e w' => e = .returned (.bool bb) ∧ Below vv.heap.size vv w')) := fun vv go Ao mo co zo eo ho Bo no' ko yo fo h hs => by
                  have Na := nm_eq h.2.2.2.2.1 N5.out.2.1
                  have Nb := nm_eq h.2.2.2.2.2 N5.out.2.1
                  have k := iinside_l true true b1 b2 b1 b2 d5 d5 d1 d2 go Ao mo co zo eo ho Bo no' ko yo fo g1 A1 n1 c1 xs1 e1 g2 A2 n2 c2 xs2 e2 vv h.1 h.2.2.1 h.2.1 h.2.2.2.1 (H1.out.below hs) (by omega) (H2.out.below hs) (by omega) (HT.out.below hs) (Lib.hid Na.1) (Lib.hid Nb.1) (Lib.hid N1.out.1) (Lib.hid N2.out.1) (decide_eq_true (by rw [Na.2.2, Nb.2.2]; exact Int.le_refl _)) Rv1 (by show _ = _; rw [N1.out.2.2, Na.2.2]; exact HB1.out) (by show _ = _; rw [Na.2.2, N2.out.2.2]; exact HB2.out) (by show _ = _; rw [N1.out.2.2, Nb.2.2]; exact HB1.out) (by show _ = _; rw [Nb.2.2, N2.out.2.2]; exact HB2.out)
                  rw [show (true && (true && b1 && b2) && (true && b1 && b2)) = bb by rw [← HBB.out]; cases b1 <;> cases b2 <;> rfl] at k
                  exact k
                have ebb : (bb == bb) = true := by cases bb <;> rfl
                have KEEP : Hid (∀ v, Below (w17.alloc (.cells #[.bool z.neg, .slice Az mz cz, .int .i64 z.e] 36)).heap.size (w17.alloc (.cells #[.bool z.neg, .slice Az mz cz, .int .i64 z.e] 36)) v → v.cell? ⟨w17.heap.size, 0, none⟩ = some (.bool z.neg) ∧ v.cell? ⟨w17.heap.size, 1, none⟩ = some (.slice Az mz cz) ∧ v.cell? ⟨w17.heap.size, 2, none⟩ = some (.int .i64 z.e) ∧ v.cell? ⟨w15.heap.size, 0, none⟩ = some (.bool g5) ∧ v.cell? ⟨w15.heap.size, 1, none⟩ = some (.slice A5 n5 c5) ∧ v.cell? ⟨w15.heap.size, 2, none⟩ = some (.int .i64 e5) ∧ v.cell? ⟨pi, 0, none⟩ = some (.bool g1) ∧ v.cell? ⟨pi, 1, none⟩ = some (.slice A1 n1 c1) ∧ v.cell? ⟨pi, 2, none⟩ = some (.int .i64 e1) ∧ v.cell? ⟨pi, 3, none⟩ = some (.bool g2) ∧ v.cell? ⟨pi, 4, none⟩ = some (.slice A2 n2 c2) ∧ v.cell? ⟨pi, 5, none⟩ = some (.int .i64 e2)) := fun v hv => ⟨(HNz.out.below hv).c0, (HNz.out.below hv).c1, (HNz.out.below hv).c2, (HD5.out.below hv).c0, (HD5.out.below hv).c1, (HD5.out.below hv).c2, (HIi.out.below hv).x0, (HIi.out.below hv).x1, (HIi.out.below hv).x2, (HIi.out.below hv).x3, (HIi.out.below hv).x4, (HIi.out.below hv).x5⟩
                have cur : Hid (Below (w17.alloc (.cells #[.bool z.neg, .slice Az mz cz, .int .i64 z.e] 36)).heap.size (w17.alloc (.cells #[.bool z.neg, .slice Az mz cz, .int .i64 z.e] 36)) (w17.alloc (.cells #[.bool z.neg, .slice Az mz cz, .int .i64 z.e] 36)).drew) := below_drew _
                go_wp2_with fail
                go_region_held3 (fun v => v.cell? ⟨w17.heap.size, 0, none⟩ = some (.bool z.neg) ∧ v.cell? ⟨w17.heap.size, 1, none⟩ = some (.slice Az mz cz) ∧ v.cell? ⟨w17.heap.size, 2, none⟩ = some (.int .i64 z.e) ∧ v.cell? ⟨w15.heap.size, 0, none⟩ = some (.bool g5) ∧ v.cell? ⟨w15.heap.size, 1, none⟩ = some (.slice A5 n5 c5) ∧ v.cell? ⟨w15.heap.size, 2, none⟩ = some (.int .i64 e5) ∧ v.cell? ⟨pi, 0, none⟩ = some (.bool g1) ∧ v.cell? ⟨pi, 1, none⟩ = some (.slice A1 n1 c1) ∧ v.cell? ⟨pi, 2, none⟩ = some (.int .i64 e1) ∧ v.cell? ⟨pi, 3, none⟩ = some (.bool g2) ∧ v.cell? ⟨pi, 4, none⟩ = some (.slice A2 n2 c2) ∧ v.cell? ⟨pi, 5, none⟩ = some (.int .i64 e2)) (with_reducible exact KEEP.out _ cur.out)
                  (first
                    | (go_at_call 31; (with_reducible refine (CS.out _ cur.out).mono ?_); rintro e u1 ⟨rfl, hB1⟩; replace cur := Lib.hid (cur.out.trans (hB1.mono cur.out.size)); clear hB1)
                    | (have chk := LA; clear chk; go_at_call 30; (with_reducible refine (CT.out _ cur.out).mono ?_); rintro e u1 ⟨gi, Ai, mi, ci, zi, ei, hi, Bi, ni', ki, yi, fi, rfl, hmz, hmq, hlz, hlq, hbz, hbq, hB1, hQ⟩; replace cur := Lib.hid (cur.out.trans (hB1.mono cur.out.size)); (first | (have la := LA.out; replace LA := Lib.hid (And.intro (la.1.below hB1) (And.intro (la.2.1.below hB1) la.2.2)); clear la) | skip); have LB : Hid ((Lim u1 Ai mi ci zi ∧ Lim u1 Bi ni' ki yi ∧ mi ≤ 100000 ∧ ni' ≤ 100000 ∧ (⟨gi, val zi, ei⟩ : Dy) = d5 ∧ (⟨hi, val yi, fi⟩ : Dy) = d5)) := ⟨hlz, hlq, hmz, hmq, hQ.1, hQ.2⟩; clear hlz hlq hbz hbq hQ hB1)
                    | (go_at_call 30; (with_reducible refine (CT.out _ cur.out).mono ?_); rintro e u1 ⟨go, Ao, mo, co, zo, eo, ho, Bo, no', ko, yo, fo, rfl, hmz, hmq, hlz, hlq, hbz, hbq, hB1, hQ⟩; replace cur := Lib.hid (cur.out.trans (hB1.mono cur.out.size)); have LA : Hid ((Lim u1 Ao mo co zo ∧ Lim u1 Bo no' ko yo ∧ mo ≤ 100000 ∧ no' ≤ 100000 ∧ (⟨go, val zo, eo⟩ : Dy) = d5 ∧ (⟨ho, val yo, fo⟩ : Dy) = d5)) := ⟨hlz, hlq, hmz, hmq, hQ.1, hQ.2⟩; clear hlz hlq hbz hbq hQ hB1)
                    | (go_at_call 17; (with_reducible refine (CH1.out _ _ _ _ _ _ _ _ _ _ _ _ _ LA.out cur.out).mono ?_); rintro e u1 ⟨rfl, hB1⟩; replace cur := Lib.hid (cur.out.trans (hB1.mono cur.out.size)); clear LA hB1)
                    | (go_at_call 18; (with_reducible refine (CI1.out _ _ _ _ _ _ _ _ _ _ _ _ _ _ _ _ _ _ _ _ _ _ _ _ _ (And.intro LA.out LB.out) cur.out).mono ?_); rintro e u1 ⟨rfl, hB1⟩; replace cur := Lib.hid (cur.out.trans (hB1.mono cur.out.size)); clear LA LB hB1)
                    | (go_at_call 17; (with_reducible refine (CH2.out _ cur.out).mono ?_); rintro e u1 ⟨rfl, hB1⟩; replace cur := Lib.hid (cur.out.trans (hB1.mono cur.out.size)); (first | (have la := LA.out; replace LA := Lib.hid (And.intro (la.1.below hB1) (And.intro (la.2.1.below hB1) la.2.2)); clear la) | skip); clear hB1)
                    | (go_at_call 18; (with_reducible refine (CI2.out _ _ _ _ _ _ _ _ _ _ _ _ _ LA.out cur.out).mono ?_); rintro e u1 ⟨rfl, hB1⟩; replace cur := Lib.hid (cur.out.trans (hB1.mono cur.out.size)); clear LA hB1))
                all_goals (
                  have Hfin := Lib.hid (HS.out.trans (cur.out.mono HS.out.size))
                  clear HS cur KEEP CS CT CH1 CI1 CH2 CI2 R12 HB1 HB2 HBB SZ HVz N1 N2 N5 Rv1 HT H1 H2 H5 HIi HD5 HLz HNz
                  go_wp2
                  go_ret
                  exact ⟨rfl, Hfin.out⟩)
end Go.Proofs.YtafgooiakmmfkaaDoor
