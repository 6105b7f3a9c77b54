/- The walk of DyadRules. -/
import Derived.Test.YtffkddnjgbgfpaaDoorDyLaw
namespace Go.Proofs.YtffkddnjgbgfpaaDoor
open Go.RowKit

set_option maxRecDepth 20000 in
set_option maxHeartbeats 2000000 in
theorem walk_dyadRules (g1 : Bool) (A1 : Option Addr) (n1 c1 : Nat) (xs : List Nat) (e1 : Int) (g2 : Bool) (A2 : Option Addr) (n2 c2 : Nat) (ys : List Nat) (e2 : Int) (g3 : Bool) (A3 : Option Addr) (n3 c3 : Nat) (zs : List Nat) (e3 : Int) (w : World) (hT : Tab w)
    (hX : Lim w A1 n1 c1 xs) (hY : Lim w A2 n2 c2 ys) (hZ : Lim w A3 n3 c3 zs) :
    Calls Tryd.prog 3 #[.agg #[.bool g1, .slice A1 n1 c1, .int .i64 e1], .agg #[.bool g2, .slice A2 n2 c2, .int .i64 e2], .agg #[.bool g3, .slice A3 n3 c3, .int .i64 e3]] w fun e w' => e = .returned (.bool true) ∧ Below w.heap.size w w' := by
  obtain ⟨W3, hW3⟩ : ∃ W3, ((w.alloc (.cells #[.bool g1, .slice A1 n1 c1, .int .i64 e1] 24)).alloc (.cells #[.bool g2, .slice A2 n2 c2, .int .i64 e2] 24)).alloc (.cells #[.bool g3, .slice A3 n3 c3, .int .i64 e3] 24) = W3 := ⟨_, rfl⟩
  have a3 : Below w.heap.size w W3 := by rw [← hW3]; exact (((Below.refl _ _).alloc (Nat.le_refl _) _).alloc (by simp) _).alloc (by simp; omega) _
  have b1 := ((Bd.new w 24 g1 A1 n1 c1 e1).alloc (.cells #[.bool g2, .slice A2 n2 c2, .int .i64 e2] 24)).alloc (.cells #[.bool g3, .slice A3 n3 c3, .int .i64 e3] 24)
  have b2 := (Bd.new (w.alloc (.cells #[.bool g1, .slice A1 n1 c1, .int .i64 e1] 24)) 24 g2 A2 n2 c2 e2).alloc (.cells #[.bool g3, .slice A3 n3 c3, .int .i64 e3] 24)
  have b3 := Bd.new ((w.alloc (.cells #[.bool g1, .slice A1 n1 c1, .int .i64 e1] 24)).alloc (.cells #[.bool g2, .slice A2 n2 c2, .int .i64 e2] 24)) 24 g3 A3 n3 c3 e3
  rw [World.size_alloc] at b2
  rw [World.size_alloc, World.size_alloc] at b3
  rw [hW3] at b1 b2 b3
  have HAl := Lib.hid (dalive_any W3 (hT.below a3))
  have HB : Hid (Bd W3 w.heap.size 24 g1 A1 n1 c1 e1 ∧ Bd W3 (w.heap.size + 1) 24 g2 A2 n2 c2 e2 ∧ Bd W3 (w.heap.size + 1 + 1) 24 g3 A3 n3 c3 e3) := ⟨b1, b2, b3⟩
  have HL : Hid (Lim W3 A1 n1 c1 xs ∧ Lim W3 A2 n2 c2 ys ∧ Lim W3 A3 n3 c3 zs ∧ Tab W3 ∧ Below w.heap.size w W3) := ⟨hX.below a3, hY.below a3, hZ.below a3, hT.below a3, a3⟩
  have HW := Lib.hid hW3
  clear b1 b2 b3 a3 hX hY hZ hT hW3
  go_enter Tryd.func3, Tryd.ntmps3
  go_wp2_with fail
  rw [HW.out]
  refine HAl.out.mono ?_
  rintro e w1 ⟨rfl, hb⟩
  obtain ⟨k1, k2, k3⟩ := HB.out
  obtain ⟨l1, l2, l3, t1, s1⟩ := HL.out
  replace HB := Lib.hid (And.intro (k1.below hb) (And.intro (k2.below hb) (k3.below hb)))
  replace HL := Lib.hid (And.intro (l1.below hb) (And.intro (l2.below hb) (And.intro (l3.below hb) (And.intro (t1.below hb) (s1.trans (hb.mono s1.size))))))
  have x10 := HB.out.1.c0
  have x11 := HB.out.1.c1
  have x12 := HB.out.1.c2
  have x20 := HB.out.2.1.c0
  have x21 := HB.out.2.1.c1
  have x22 := HB.out.2.1.c2
  have x30 := HB.out.2.2.c0
  have x31 := HB.out.2.2.c1
  have x32 := HB.out.2.2.c2
  clear k1 k2 k3 l1 l2 l3 t1 s1 hb HAl HW
  go_wp2_with fail
  obtain ⟨v, hv⟩ : ∃ v, decide (n1 ≤ 20 ∧ n2 ≤ 20 ∧ n3 ≤ 20) = v := ⟨_, rfl⟩
  refine (near_l v w1.heap.size A1 n1 c1 A2 n2 c2 A3 n3 c3 _ (by simp [World.cell?_alloc_new]) (by simp [World.cell?_alloc_new]) (by simp [World.cell?_alloc_new]) hv).mono ?_
  rintro e w' ⟨rfl, rfl⟩
  cases v with
  | false => 
    have HS := HL.out.2.2.2.2
    go_wp2
    go_ret
    exact ⟨rfl, HS.alloc HS.size _⟩
  | true =>
    go_upto_region 5 with fail
    have k1 := HB.out.1.alloc (.cells #[.bool g1, .slice A1 n1 c1, .int .i64 e1, .bool g2, .slice A2 n2 c2, .int .i64 e2, .bool g3, .slice A3 n3 c3, .int .i64 e3] 24)
    have k2 := HB.out.2.1.alloc (.cells #[.bool g1, .slice A1 n1 c1, .int .i64 e1, .bool g2, .slice A2 n2 c2, .int .i64 e2, .bool g3, .slice A3 n3 c3, .int .i64 e3] 24)
    have k3 := HB.out.2.2.alloc (.cells #[.bool g1, .slice A1 n1 c1, .int .i64 e1, .bool g2, .slice A2 n2 c2, .int .i64 e2, .bool g3, .slice A3 n3 c3, .int .i64 e3] 24)
    have F0 := Lib.hid (k1.drew.nine k2.drew k3.drew)
    have F1 := Lib.hid (fun o1 => (k1.alloc o1).drew.nine (k2.alloc o1).drew (k3.alloc o1).drew)
    have F2 := Lib.hid (fun o1 o2 => ((k1.alloc o1).alloc o2).drew.nine ((k2.alloc o1).alloc o2).drew ((k3.alloc o1).alloc o2).drew)
    have F3 := Lib.hid (fun o1 o2 o3 => (((k1.alloc o1).alloc o2).alloc o3).drew.nine (((k2.alloc o1).alloc o2).alloc o3).drew (((k3.alloc o1).alloc o2).alloc o3).drew)
    clear k1 k2 k3 x10 x11 x12 x20 x21 x22 x30 x31 x32
    have P123 : Hid (Law3 w (w1.heap.size + 1) g1 A1 n1 c1 xs e1 (w1.heap.size + 1 + 1) g2 A2 n2 c2 ys e2 (w1.heap.size + 1 + 1 + 1) g3 A3 n3 c3 zs e3 ((((w1.alloc (.cells #[.bool g1, .slice A1 n1 c1, .int .i64 e1, .bool g2, .slice A2 n2 c2, .int .i64 e2, .bool g3, .slice A3 n3 c3, .int .i64 e3] 24)).alloc (.cells #[.bool g1, .slice A1 n1 c1, .int .i64 e1] 28)).alloc (.cells #[.bool g2, .slice A2 n2 c2, .int .i64 e2] 28)).alloc (.cells #[.bool g3, .slice A3 n3 c3, .int .i64 e3] 28)).drew) := by
      obtain ⟨q1, q2, q3, q4⟩ := three_new (w1.alloc (.cells #[.bool g1, .slice A1 n1 c1, .int .i64 e1, .bool g2, .slice A2 n2 c2, .int .i64 e2, .bool g3, .slice A3 n3 c3, .int .i64 e3] 24)) 28 g1 A1 n1 c1 e1 g2 A2 n2 c2 e2 g3 A3 n3 c3 e3
      rw [World.size_alloc] at q1 q2 q3
      obtain ⟨l1, l2, l3, t1, s1⟩ := HL.out
      have a1 := below1 w1 (.cells #[.bool g1, .slice A1 n1 c1, .int .i64 e1, .bool g2, .slice A2 n2 c2, .int .i64 e2, .bool g3, .slice A3 n3 c3, .int .i64 e3] 24)
      have a2 := (a1.trans (q4.mono a1.size)).drew
      exact ⟨⟨q1.drew, l1.below a2⟩, ⟨q2.drew, l2.below a2⟩, ⟨q3.drew, l3.below a2⟩, t1.below a2, s1.trans (a2.mono s1.size)⟩
    have P132 : Hid (Law3 w (w1.heap.size + 1) g1 A1 n1 c1 xs e1 (w1.heap.size + 1 + 1 + 1) g2 A2 n2 c2 ys e2 (w1.heap.size + 1 + 1) g3 A3 n3 c3 zs e3 ((((w1.alloc (.cells #[.bool g1, .slice A1 n1 c1, .int .i64 e1, .bool g2, .slice A2 n2 c2, .int .i64 e2, .bool g3, .slice A3 n3 c3, .int .i64 e3] 24)).alloc (.cells #[.bool g1, .slice A1 n1 c1, .int .i64 e1] 28)).alloc (.cells #[.bool g3, .slice A3 n3 c3, .int .i64 e3] 28)).alloc (.cells #[.bool g2, .slice A2 n2 c2, .int .i64 e2] 28)).drew) := by
      obtain ⟨q1, q2, q3, q4⟩ := three_new (w1.alloc (.cells #[.bool g1, .slice A1 n1 c1, .int .i64 e1, .bool g2, .slice A2 n2 c2, .int .i64 e2, .bool g3, .slice A3 n3 c3, .int .i64 e3] 24)) 28 g1 A1 n1 c1 e1 g3 A3 n3 c3 e3 g2 A2 n2 c2 e2
      rw [World.size_alloc] at q1 q2 q3
      obtain ⟨l1, l2, l3, t1, s1⟩ := HL.out
      have a1 := below1 w1 (.cells #[.bool g1, .slice A1 n1 c1, .int .i64 e1, .bool g2, .slice A2 n2 c2, .int .i64 e2, .bool g3, .slice A3 n3 c3, .int .i64 e3] 24)
      have a2 := (a1.trans (q4.mono a1.size)).drew
      exact ⟨⟨q1.drew, l1.below a2⟩, ⟨q3.drew, l2.below a2⟩, ⟨q2.drew, l3.below a2⟩, t1.below a2, s1.trans (a2.mono s1.size)⟩
    have P213 : Hid (Law3 w (w1.heap.size + 1 + 1) g1 A1 n1 c1 xs e1 (w1.heap.size + 1) g2 A2 n2 c2 ys e2 (w1.heap.size + 1 + 1 + 1) g3 A3 n3 c3 zs e3 ((((w1.alloc (.cells #[.bool g1, .slice A1 n1 c1, .int .i64 e1, .bool g2, .slice A2 n2 c2, .int .i64 e2, .bool g3, .slice A3 n3 c3, .int .i64 e3] 24)).alloc (.cells #[.bool g2, .slice A2 n2 c2, .int .i64 e2] 28)).alloc (.cells #[.bool g1, .slice A1 n1 c1, .int .i64 e1] 28)).alloc (.cells #[.bool g3, .slice A3 n3 c3, .int .i64 e3] 28)).drew) := by
      obtain ⟨q1, q2, q3, q4⟩ := three_new (w1.alloc (.cells #[.bool g1, .slice A1 n1 c1, .int .i64 e1, .bool g2, .slice A2 n2 c2, .int .i64 e2, .bool g3, .slice A3 n3 c3, .int .i64 e3] 24)) 28 g2 A2 n2 c2 e2 g1 A1 n1 c1 e1 g3 A3 n3 c3 e3
      rw [World.size_alloc] at q1 q2 q3
      obtain ⟨l1, l2, l3, t1, s1⟩ := HL.out
      have a1 := below1 w1 (.cells #[.bool g1, .slice A1 n1 c1, .int .i64 e1, .bool g2, .slice A2 n2 c2, .int .i64 e2, .bool g3, .slice A3 n3 c3, .int .i64 e3] 24)
      have a2 := (a1.trans (q4.mono a1.size)).drew
      exact ⟨⟨q2.drew, l1.below a2⟩, ⟨q1.drew, l2.below a2⟩, ⟨q3.drew, l3.below a2⟩, t1.below a2, s1.trans (a2.mono s1.size)⟩
    have P231 : Hid (Law3 w (w1.heap.size + 1 + 1 + 1) g1 A1 n1 c1 xs e1 (w1.heap.size + 1) g2 A2 n2 c2 ys e2 (w1.heap.size + 1 + 1) g3 A3 n3 c3 zs e3 ((((w1.alloc (.cells #[.bool g1, .slice A1 n1 c1, .int .i64 e1, .bool g2, .slice A2 n2 c2, .int .i64 e2, .bool g3, .slice A3 n3 c3, .int .i64 e3] 24)).alloc (.cells #[.bool g2, .slice A2 n2 c2, .int .i64 e2] 28)).alloc (.cells #[.bool g3, .slice A3 n3 c3, .int .i64 e3] 28)).alloc (.cells #[.bool g1, .slice A1 n1 c1, .int .i64 e1] 28)).drew) := by
      obtain ⟨q1, q2, q3, q4⟩ := three_new (w1.alloc (.cells #[.bool g1, .slice A1 n1 c1, .int .i64 e1, .bool g2, .slice A2 n2 c2, .int .i64 e2, .bool g3, .slice A3 n3 c3, .int .i64 e3] 24)) 28 g2 A2 n2 c2 e2 g3 A3 n3 c3 e3 g1 A1 n1 c1 e1
      rw [World.size_alloc] at q1 q2 q3
      obtain ⟨l1, l2, l3, t1, s1⟩ := HL.out
      have a1 := below1 w1 (.cells #[.bool g1, .slice A1 n1 c1, .int .i64 e1, .bool g2, .slice A2 n2 c2, .int .i64 e2, .bool g3, .slice A3 n3 c3, .int .i64 e3] 24)
      have a2 := (a1.trans (q4.mono a1.size)).drew
      exact ⟨⟨q3.drew, l1.below a2⟩, ⟨q1.drew, l2.below a2⟩, ⟨q2.drew, l3.below a2⟩, t1.below a2, s1.trans (a2.mono s1.size)⟩
    have P312 : Hid (Law3 w (w1.heap.size + 1 + 1) g1 A1 n1 c1 xs e1 (w1.heap.size + 1 + 1 + 1) g2 A2 n2 c2 ys e2 (w1.heap.size + 1) g3 A3 n3 c3 zs e3 ((((w1.alloc (.cells #[.bool g1, .slice A1 n1 c1, .int .i64 e1, .bool g2, .slice A2 n2 c2, .int .i64 e2, .bool g3, .slice A3 n3 c3, .int .i64 e3] 24)).alloc (.cells #[.bool g3, .slice A3 n3 c3, .int .i64 e3] 28)).alloc (.cells #[.bool g1, .slice A1 n1 c1, .int .i64 e1] 28)).alloc (.cells #[.bool g2, .slice A2 n2 c2, .int .i64 e2] 28)).drew) := by
      obtain ⟨q1, q2, q3, q4⟩ := three_new (w1.alloc (.cells #[.bool g1, .slice A1 n1 c1, .int .i64 e1, .bool g2, .slice A2 n2 c2, .int .i64 e2, .bool g3, .slice A3 n3 c3, .int .i64 e3] 24)) 28 g3 A3 n3 c3 e3 g1 A1 n1 c1 e1 g2 A2 n2 c2 e2
      rw [World.size_alloc] at q1 q2 q3
      obtain ⟨l1, l2, l3, t1, s1⟩ := HL.out
      have a1 := below1 w1 (.cells #[.bool g1, .slice A1 n1 c1, .int .i64 e1, .bool g2, .slice A2 n2 c2, .int .i64 e2, .bool g3, .slice A3 n3 c3, .int .i64 e3] 24)
      have a2 := (a1.trans (q4.mono a1.size)).drew
      exact ⟨⟨q2.drew, l1.below a2⟩, ⟨q3.drew, l2.below a2⟩, ⟨q1.drew, l3.below a2⟩, t1.below a2, s1.trans (a2.mono s1.size)⟩
    have P321 : Hid (Law3 w (w1.heap.size + 1 + 1 + 1) g1 A1 n1 c1 xs e1 (w1.heap.size + 1 + 1) g2 A2 n2 c2 ys e2 (w1.heap.size + 1) g3 A3 n3 c3 zs e3 ((((w1.alloc (.cells #[.bool g1, .slice A1 n1 c1, .int .i64 e1, .bool g2, .slice A2 n2 c2, .int .i64 e2, .bool g3, .slice A3 n3 c3, .int .i64 e3] 24)).alloc (.cells #[.bool g3, .slice A3 n3 c3, .int .i64 e3] 28)).alloc (.cells #[.bool g2, .slice A2 n2 c2, .int .i64 e2] 28)).alloc (.cells #[.bool g1, .slice A1 n1 c1, .int .i64 e1] 28)).drew) := by
      obtain ⟨q1, q2, q3, q4⟩ := three_new (w1.alloc (.cells #[.bool g1, .slice A1 n1 c1, .int .i64 e1, .bool g2, .slice A2 n2 c2, .int .i64 e2, .bool g3, .slice A3 n3 c3, .int .i64 e3] 24)) 28 g3 A3 n3 c3 e3 g2 A2 n2 c2 e2 g1 A1 n1 c1 e1
      rw [World.size_alloc] at q1 q2 q3
      obtain ⟨l1, l2, l3, t1, s1⟩ := HL.out
      have a1 := below1 w1 (.cells #[.bool g1, .slice A1 n1 c1, .int .i64 e1, .bool g2, .slice A2 n2 c2, .int .i64 e2, .bool g3, .slice A3 n3 c3, .int .i64 e3] 24)
      have a2 := (a1.trans (q4.mono a1.size)).drew
      exact ⟨⟨q3.drew, l1.below a2⟩, ⟨q2.drew, l2.below a2⟩, ⟨q1.drew, l3.below a2⟩, t1.below a2, s1.trans (a2.mono s1.size)⟩
    go_cut [7, 8, 9] from 24 (fun s7 s8 s9 wx => ∃ p7 p8 p9 : Nat, s7 = .pointer (some ⟨p7, 0, none⟩) ∧ s8 = .pointer (some ⟨p8, 0, none⟩) ∧ s9 = .pointer (some ⟨p9, 0, none⟩) ∧ Hid (Law3 w p7 g1 A1 n1 c1 xs e1 p8 g2 A2 n2 c2 ys e2 p9 g3 A3 n3 c3 zs e3 wx))
    case first =>
      go_region_held3 (fun w' => w'.cell? ⟨w.heap.size, 0, none⟩ = some (.bool g1) ∧ w'.cell? ⟨w.heap.size, 1, none⟩ = some (.slice A1 n1 c1) ∧ w'.cell? ⟨w.heap.size, 2, none⟩ = some (.int .i64 e1) ∧ w'.cell? ⟨w.heap.size + 1, 0, none⟩ = some (.bool g2) ∧ w'.cell? ⟨w.heap.size + 1, 1, none⟩ = some (.slice A2 n2 c2) ∧ w'.cell? ⟨w.heap.size + 1, 2, none⟩ = some (.int .i64 e2) ∧ w'.cell? ⟨w.heap.size + 1 + 1, 0, none⟩ = some (.bool g3) ∧ w'.cell? ⟨w.heap.size + 1 + 1, 1, none⟩ = some (.slice A3 n3 c3) ∧ w'.cell? ⟨w.heap.size + 1 + 1, 2, none⟩ = some (.int .i64 e3)) (first | (with_reducible exact F0.out) | (with_reducible exact F1.out _) | (with_reducible exact F2.out _ _) | (with_reducible exact F3.out _ _ _)) (fail)
      all_goals (go_wp2_with fail)
      all_goals go_meet
      all_goals (refine ⟨_, _, _, rfl, rfl, rfl, ?_⟩)
      all_goals (first | (with_reducible exact P123) | (with_reducible exact P132) | (with_reducible exact P213) | (with_reducible exact P231) | (with_reducible exact P312) | (with_reducible exact P321))
    case rest =>
      obtain ⟨wA, rfl⟩ : ∃ wA, wA = wc := ⟨_, rfl⟩
      obtain ⟨p7, p8, p9, rfl, rfl, rfl, HL3⟩ := hcut
      obtain ⟨hn1, hn2, hn3⟩ := of_decide_eq_true hv
      obtain ⟨⟨bx, lx⟩, ⟨by_, ly⟩, ⟨bz, lz⟩, hT, hS⟩ := HL3.out
      clear HL3 HB HL F0 F1 F2 F3 P123 P132 P213 P231 P312 P321 hv
      obtain ⟨o1, ho1⟩ : ∃ o, addO (mk g1 (val xs) e1) (mk g2 (val ys) e2) = o := ⟨_, rfl⟩
      have Ho1 := Lib.hid ho1
      have Ho1' : Hid (addO (mk g2 (val ys) e2) (mk g1 (val xs) e1) = o1) := addO_comm.trans ho1
      clear ho1
      have x0 := bx.c0
      have x1 := bx.c1
      have x2 := bx.c2
      have y0 := by_.c0
      have y1 := by_.c1
      have y2 := by_.c2
      go_wp2_with fail
      refine (dadd_any o1 g1 A1 n1 c1 xs e1 g2 A2 n2 c2 ys e2 _ lx ly (by omega) (by omega) hT Ho1).mono ?_
      rintro e w2 ⟨gs, As, ms, cs, ss, es, rs, rfl, hms, ls, bs_, hs, hb⟩
      have Hs : Hid (Is o1 gs (val ss) es rs) := hs
      clear x0 x1 x2 y0 y1 y2 hs bs_
      replace hb := hb.trans ((below1 w2 (.cells #[.bool gs, .slice As ms cs, .int .i64 es] 28)).mono hb.size)
      replace bx := bx.below hb
      replace by_ := by_.below hb
      replace bz := bz.below hb
      replace lx := lx.below hb
      replace ly := ly.below hb
      replace lz := lz.below hb
      replace hT := hT.below hb
      replace hS := hS.trans (hb.mono hS.size)
      have bs := Bd.new w2 28 gs As ms cs es
      replace ls := ls.alloc (.cells #[.bool gs, .slice As ms cs, .int .i64 es] 28)
      clear hb
      have x0 := bx.c0
      have x1 := bx.c1
      have x2 := bx.c2
      have y0 := by_.c0
      have y1 := by_.c1
      have y2 := by_.c2
      go_wp2_with fail
      refine (dadd_any o1 g2 A2 n2 c2 ys e2 g1 A1 n1 c1 xs e1 _ ly lx (by omega) (by omega) hT Ho1').mono ?_
      rintro e w3 ⟨gt, At, mt, ct, ts, et, rt, rfl, hmt, lt, bt_, ht, hb⟩
      have Ht : Hid (Is o1 gt (val ts) et rt) := ht
      replace hb := hb.trans ((below1 w3 (.cells #[.bool gt, .slice At mt ct, .int .i64 et] 28)).mono hb.size)
      have HH : Hid (Law5 w (Vd.mk p7 g1 A1 n1 c1 e1 xs) (Vd.mk p8 g2 A2 n2 c2 e2 ys) (Vd.mk p9 g3 A3 n3 c3 e3 zs) (Vd.mk w2.heap.size gs As ms cs es ss) (Vd.mk w3.heap.size gt At mt ct et ts) (w3.alloc (.cells #[.bool gt, .slice At mt ct, .int .i64 et] 28))) := ⟨⟨bx.below hb, lx.below hb⟩, ⟨by_.below hb, ly.below hb⟩, ⟨bz.below hb, lz.below hb⟩, ⟨bs.below hb, ls.below hb⟩, ⟨Bd.new w3 28 gt At mt ct et, lt.alloc (.cells #[.bool gt, .slice At mt ct, .int .i64 et] 28)⟩, hT.below hb, hS.trans (hb.mono hS.size)⟩
      clear x0 x1 x2 y0 y1 y2 ht bt_ hb bx by_ bz lx ly lz bs ls lt hT hS Ho1'
      have HHd := Lib.hid (HH.out.below (below_drew _))
      obtain ⟨v, hv⟩ : ∃ v, cmpI (dw g1 (val xs) e1) (dw g2 (val ys) e2) = v := ⟨_, rfl⟩
      have hu : cmpI (dw g2 (val ys) e2) (dw g1 (val xs) e1) = -v := by rw [cmpI_swap, hv]
      have hvb : -1 ≤ v ∧ v ≤ 1 := by rw [← hv]; exact cmpI_bd _ _
      have hvv : (v != v) = false := by simp
      have hwr : IntKind.i64.wrap v = v := by rw [IntKind.wrap_i64]; omega
      have Hv := Lib.hid hv
      have Hu := Lib.hid hu
      clear hv hu HH
      cases o1 with
      | none =>
        obtain rfl := Hs.out.1
        obtain rfl := Ht.out.1
        have HCxy : Hid (∀ q, Law5 w (Vd.mk p7 g1 A1 n1 c1 e1 xs) (Vd.mk p8 g2 A2 n2 c2 e2 ys) (Vd.mk p9 g3 A3 n3 c3 e3 zs) (Vd.mk w2.heap.size gs As ms cs es ss) (Vd.mk w3.heap.size gt At mt ct et ts) q → Calls Tryd.prog 7 #[.agg #[.bool g1, .slice A1 n1 c1, .int .i64 e1], .agg #[.bool g2, .slice A2 n2 c2, .int .i64 e2]] q fun e w' => e = .returned (.int .i64 v) ∧ Law5 w (Vd.mk p7 g1 A1 n1 c1 e1 xs) (Vd.mk p8 g2 A2 n2 c2 e2 ys) (Vd.mk p9 g3 A3 n3 c3 e3 zs) (Vd.mk w2.heap.size gs As ms cs es ss) (Vd.mk w3.heap.size gt At mt ct et ts) w') := fun q h => by
          refine (dcmp_l v g1 A1 n1 c1 xs e1 g2 A2 n2 c2 ys e2 q h.1.2 h.2.1.2 (by omega) (by omega) h.2.2.2.2.2.1 Hv).mono ?_
          rintro e w' ⟨rfl, hb⟩
          exact ⟨rfl, h.below hb⟩
        have HCyx : Hid (∀ q, Law5 w (Vd.mk p7 g1 A1 n1 c1 e1 xs) (Vd.mk p8 g2 A2 n2 c2 e2 ys) (Vd.mk p9 g3 A3 n3 c3 e3 zs) (Vd.mk w2.heap.size gs As ms cs es ss) (Vd.mk w3.heap.size gt At mt ct et ts) q → Calls Tryd.prog 7 #[.agg #[.bool g2, .slice A2 n2 c2, .int .i64 e2], .agg #[.bool g1, .slice A1 n1 c1, .int .i64 e1]] q fun e w' => e = .returned (.int .i64 (-v)) ∧ Law5 w (Vd.mk p7 g1 A1 n1 c1 e1 xs) (Vd.mk p8 g2 A2 n2 c2 e2 ys) (Vd.mk p9 g3 A3 n3 c3 e3 zs) (Vd.mk w2.heap.size gs As ms cs es ss) (Vd.mk w3.heap.size gt At mt ct et ts) w') := fun q h => by
          refine (dcmp_l (-v) g2 A2 n2 c2 ys e2 g1 A1 n1 c1 xs e1 q h.2.1.2 h.1.2 (by omega) (by omega) h.2.2.2.2.2.1 Hu).mono ?_
          rintro e w' ⟨rfl, hb⟩
          exact ⟨rfl, h.below hb⟩
        clear Hv Hu Hs Ht
        go_wp2_with fail
        refine wp_region_noPanic ?_
        refine wp_region_held_drew (S := fun w' => w'.cell? ⟨p7, 0, none⟩ = some (.bool g1) ∧ w'.cell? ⟨p7, 1, none⟩ = some (.slice A1 n1 c1) ∧ w'.cell? ⟨p7, 2, none⟩ = some (.int .i64 e1) ∧ w'.cell? ⟨p8, 0, none⟩ = some (.bool g2) ∧ w'.cell? ⟨p8, 1, none⟩ = some (.slice A2 n2 c2) ∧ w'.cell? ⟨p8, 2, none⟩ = some (.int .i64 e2) ∧ Hid (Law5 w (Vd.mk p7 g1 A1 n1 c1 e1 xs) (Vd.mk p8 g2 A2 n2 c2 e2 ys) (Vd.mk p9 g3 A3 n3 c3 e3 zs) (Vd.mk w2.heap.size gs As ms cs es ss) (Vd.mk w3.heap.size gt At mt ct et ts) w')) (by kernel_rfl) (cellsQ HHd.out.1 HHd.out.2.1 HHd.out) (fun hHeld => ?_)
        refine wpAnyH_take (i := 0) (v := ?_) rfl (by kernel_rfl) (by kernel_rfl) (by kernel_rfl) (fun _ _ _ h => h) (Or.inl ⟨by rfl, ?_⟩) hHeld ?_
        rotate_left
        · intro w' hSw
          (try dsimp only at hSw)
          go_simp
          all_goals (with_reducible rfl)
        simp only [List.getElem_toArray, List.getElem_cons_zero, Act.put, List.setIfInBounds_toArray, List.set_cons_zero, List.set_cons_succ]
        refine wpAnyH_take (i := 1) (v := ?_) rfl (by kernel_rfl) (by kernel_rfl) (by kernel_rfl) (fun _ _ _ h => h) (Or.inl ⟨by rfl, ?_⟩) hHeld ?_
        rotate_left
        · intro w' hSw
          (try dsimp only at hSw)
          go_simp
          all_goals (with_reducible rfl)
        simp only [List.getElem_toArray, List.getElem_cons_succ, List.getElem_cons_zero, Act.put, List.setIfInBounds_toArray, List.set_cons_zero, List.set_cons_succ]
        refine wpAnyH_take (i := 2) (v := ?_) rfl (by kernel_rfl) (by kernel_rfl) (by kernel_rfl) (fun _ _ _ h => h) (Or.inl ⟨by rfl, ?_⟩) hHeld ?_
        rotate_left
        · intro w' hSw
          (try dsimp only at hSw)
          go_simp
          all_goals (with_reducible rfl)
        simp only [List.getElem_toArray, List.getElem_cons_succ, List.getElem_cons_zero, Act.put, List.setIfInBounds_toArray, List.set_cons_zero, List.set_cons_succ]
        refine wpAnyH_take (i := 3) (v := ?_) rfl (by kernel_rfl) (by kernel_rfl) (by kernel_rfl) (fun _ _ _ h => h) (Or.inl ⟨by rfl, ?_⟩) hHeld ?_
        rotate_left
        · intro w' hSw
          (try dsimp only at hSw)
          go_simp
          all_goals (with_reducible rfl)
        simp only [List.getElem_toArray, List.getElem_cons_succ, List.getElem_cons_zero, Act.put, List.setIfInBounds_toArray, List.set_cons_zero, List.set_cons_succ]
        refine wpAnyH_take (i := 4) (v := ?_) rfl (by kernel_rfl) (by kernel_rfl) (by kernel_rfl) (fun _ _ _ h => h) (Or.inl ⟨by rfl, ?_⟩) hHeld ?_
        rotate_left
        · intro w' hSw
          (try dsimp only at hSw)
          go_simp
          all_goals (with_reducible rfl)
        simp only [List.getElem_toArray, List.getElem_cons_succ, List.getElem_cons_zero, Act.put, List.setIfInBounds_toArray, List.set_cons_zero, List.set_cons_succ]
        refine wpAnyH_take (i := 5) (v := ?_) rfl (by kernel_rfl) (by kernel_rfl) (by kernel_rfl) (fun _ _ _ h => h) (Or.inl ⟨by rfl, ?_⟩) hHeld ?_
        rotate_left
        · intro w' hSw
          (try dsimp only at hSw)
          go_simp
          all_goals (with_reducible rfl)
        simp only [List.getElem_toArray, List.getElem_cons_succ, List.getElem_cons_zero, Act.put, List.setIfInBounds_toArray, List.set_cons_zero, List.set_cons_succ]
        refine wpAnyH_take (i := 6) (v := ?_) rfl (by kernel_rfl) (by kernel_rfl) (by kernel_rfl) (fun _ _ _ h => h) (Or.inl ⟨by rfl, ?_⟩) hHeld ?_
        rotate_left
        · intro w' hSw
          (try dsimp only at hSw)
          go_simp
          all_goals (with_reducible rfl)
        simp only [List.getElem_toArray, List.getElem_cons_succ, List.getElem_cons_zero, Act.put, List.setIfInBounds_toArray, List.set_cons_zero, List.set_cons_succ]
        refine wpAnyH_take (i := 7) (v := undef) rfl (by kernel_rfl) (by kernel_rfl) (by kernel_rfl) (fun _ _ _ h => h) (Or.inr ⟨by rfl, rfl⟩) hHeld ?_
        simp only [List.getElem_toArray, List.getElem_cons_succ, List.getElem_cons_zero, Act.put, List.setIfInBounds_toArray, List.set_cons_zero, List.set_cons_succ]
        refine wpAnyH_take (i := 8) (v := undef) rfl (by kernel_rfl) (by kernel_rfl) (by kernel_rfl) (fun _ _ _ h => h) (Or.inr ⟨by rfl, rfl⟩) hHeld ?_
        simp only [List.getElem_toArray, List.getElem_cons_succ, List.getElem_cons_zero, Act.put, List.setIfInBounds_toArray, List.set_cons_zero, List.set_cons_succ]
        refine wpAnyH_take (i := 9) (v := undef) rfl (by kernel_rfl) (by kernel_rfl) (by kernel_rfl) (fun _ _ _ h => h) (Or.inr ⟨by rfl, rfl⟩) hHeld ?_
        simp only [List.getElem_toArray, List.getElem_cons_succ, List.getElem_cons_zero, Act.put, List.setIfInBounds_toArray, List.set_cons_zero, List.set_cons_succ]
        refine wpAnyH_take (i := 10) (v := undef) rfl (by kernel_rfl) (by kernel_rfl) (by kernel_rfl) (fun _ _ _ h => h) (Or.inr ⟨by rfl, rfl⟩) hHeld ?_
        simp only [List.getElem_toArray, List.getElem_cons_succ, List.getElem_cons_zero, Act.put, List.setIfInBounds_toArray, List.set_cons_zero, List.set_cons_succ]
        refine wpAnyH_take (i := 11) (v := ?_) rfl (by kernel_rfl) (by kernel_rfl) (by kernel_rfl) (fun _ _ _ h => h) (Or.inl ⟨by rfl, ?_⟩) hHeld ?_
        rotate_left
        · intro w' hSw
          (try dsimp only at hSw)
          go_simp
          all_goals (with_reducible rfl)
        simp only [List.getElem_toArray, List.getElem_cons_succ, List.getElem_cons_zero, Act.put, List.setIfInBounds_toArray, List.set_cons_zero, List.set_cons_succ]
        refine wpAnyH_take (i := 12) (v := ?_) rfl (by kernel_rfl) (by kernel_rfl) (by kernel_rfl) (fun _ _ _ h => h) (Or.inl ⟨by rfl, ?_⟩) hHeld ?_
        rotate_left
        · intro w' hSw
          (try dsimp only at hSw)
          go_simp
          all_goals (with_reducible rfl)
        simp only [List.getElem_toArray, List.getElem_cons_succ, List.getElem_cons_zero, Act.put, List.setIfInBounds_toArray, List.set_cons_zero, List.set_cons_succ]
        refine wpAnyH_take (i := 13) (v := ?_) rfl (by kernel_rfl) (by kernel_rfl) (by kernel_rfl) (fun _ _ _ h => h) (Or.inl ⟨by rfl, ?_⟩) hHeld ?_
        rotate_left
        · intro w' hSw
          (try dsimp only at hSw)
          go_simp
          all_goals (with_reducible rfl)
        simp only [List.getElem_toArray, List.getElem_cons_succ, List.getElem_cons_zero, Act.put, List.setIfInBounds_toArray, List.set_cons_zero, List.set_cons_succ]
        refine wpAnyH_take (i := 14) (v := ?_) rfl (by kernel_rfl) (by kernel_rfl) (by kernel_rfl) (fun _ _ _ h => h) (Or.inl ⟨by rfl, ?_⟩) hHeld ?_
        rotate_left
        · intro w' hSw
          (try dsimp only at hSw)
          go_simp
          all_goals (with_reducible rfl)
        simp only [List.getElem_toArray, List.getElem_cons_succ, List.getElem_cons_zero, Act.put, List.setIfInBounds_toArray, List.set_cons_zero, List.set_cons_succ]
        refine wpAnyH_take (i := 15) (v := ?_) rfl (by kernel_rfl) (by kernel_rfl) (by kernel_rfl) (fun _ _ _ h => h) (Or.inl ⟨by rfl, ?_⟩) hHeld ?_
        rotate_left
        · intro w' hSw
          (try dsimp only at hSw)
          go_simp
          all_goals (with_reducible rfl)
        simp only [List.getElem_toArray, List.getElem_cons_succ, List.getElem_cons_zero, Act.put, List.setIfInBounds_toArray, List.set_cons_zero, List.set_cons_succ]
        refine wpAnyH_take (i := 17) (v := ?_) rfl (by kernel_rfl) (by kernel_rfl) (by kernel_rfl) (fun _ _ _ h => h) (Or.inl ⟨by rfl, ?_⟩) hHeld ?_
        rotate_left
        · intro w' hSw
          (try dsimp only at hSw)
          go_simp
          all_goals (with_reducible rfl)
        simp only [List.getElem_toArray, List.getElem_cons_succ, List.getElem_cons_zero, Act.put, List.setIfInBounds_toArray, List.set_cons_zero, List.set_cons_succ]
        refine wpAnyH_take (i := 18) (v := ?_) rfl (by kernel_rfl) (by kernel_rfl) (by kernel_rfl) (fun _ _ _ h => h) (Or.inl ⟨by rfl, ?_⟩) hHeld ?_
        rotate_left
        · intro w' hSw
          (try dsimp only at hSw)
          go_simp
          all_goals (with_reducible rfl)
        simp only [List.getElem_toArray, List.getElem_cons_succ, List.getElem_cons_zero, Act.put, List.setIfInBounds_toArray, List.set_cons_zero, List.set_cons_succ]
        refine wpAnyH_ready (rs := [16]) (by kernel_rfl) (by simp) ?_
        refine AllReadyH.cons rfl (fun K' hK' => ?_) AllReadyH.nil
        go_simp
        refine (HCxy.out _ HHd.out).mono ?_
        rintro e w4 ⟨rfl, h4⟩
        refine hK'.out _ _ ?_ (fun hHeld => ?_)
        · exact cellsQ h4.1 h4.2.1 h4
        clear hK' K'
        refine wpAnyH_ready (rs := [19]) (by kernel_rfl) (by simp) ?_
        refine AllReadyH.cons rfl (fun K' hK' => ?_) AllReadyH.nil
        go_simp
        refine (HCyx.out _ h4).mono ?_
        rintro e w5 ⟨rfl, h5⟩
        refine hK'.out _ _ ?_ (fun hHeld => ?_)
        · exact cellsQ h5.1 h5.2.1 h5
        clear hK' K'
        refine wpAnyH_take (i := 20) (v := ?_) rfl (by kernel_rfl) (by kernel_rfl) (by kernel_rfl) (fun _ _ _ h => h) (Or.inl ⟨by rfl, ?_⟩) hHeld ?_
        rotate_left
        · intro w' hSw
          (try dsimp only at hSw)
          go_simp
          all_goals (with_reducible rfl)
        simp only [List.getElem_toArray, List.getElem_cons_succ, List.getElem_cons_zero, Act.put, List.setIfInBounds_toArray, List.set_cons_zero, List.set_cons_succ]
        refine wpAnyH_take (i := 21) (v := ?_) rfl (by kernel_rfl) (by kernel_rfl) (by kernel_rfl) (fun _ _ _ h => h) (Or.inl ⟨by rfl, ?_⟩) hHeld ?_
        rotate_left
        · intro w' hSw
          (try dsimp only at hSw)
          go_simp
          all_goals (with_reducible rfl)
        simp only [List.getElem_toArray, List.getElem_cons_succ, List.getElem_cons_zero, Act.put, List.setIfInBounds_toArray, List.set_cons_zero, List.set_cons_succ]
        refine wpAnyH_take (i := 22) (v := ?_) rfl (by kernel_rfl) (by kernel_rfl) (by kernel_rfl) (fun _ _ _ h => h) (Or.inl ⟨by rfl, ?_⟩) hHeld ?_
        rotate_left
        · intro w' hSw
          (try dsimp only at hSw)
          go_simp
          all_goals (with_reducible rfl)
        simp only [List.getElem_toArray, List.getElem_cons_succ, List.getElem_cons_zero, Act.put, List.setIfInBounds_toArray, List.set_cons_zero, List.set_cons_succ]
        refine wpAnyH_done (by kernel_rfl) ?_ _
        refine NoPanic.normal ?_
        have HF := Lib.hid h5.2.2.2.2.2.2
        clear h4 h5 HCxy HCyx HHd hHeld
        go_wp2
        go_ret
        exact ⟨rfl, HF.out⟩
      | some d =>
        obtain ⟨rfl, hsd⟩ := Hs.out
        obtain ⟨rfl, htd⟩ := Ht.out
        have Hst : Hid (cmpI (dw gs (val ss) es) (dw gt (val ts) et) = 0) := cmpI_eq (by rw [hsd.1, hsd.2.1, hsd.2.2, htd.1, htd.2.1, htd.2.2])
        have Hd : Hid (gs = d.neg ∧ val ss = d.V ∧ es = d.e) := hsd
        have hms' : ms ≤ 65560 := by omega
        have hmt' : mt ≤ 65560 := by omega
        clear hsd htd Hs Ht hms hmt
        have HCst : Hid (∀ q, CellsR (Vd.mk p7 g1 A1 n1 c1 e1 xs) (Vd.mk p8 g2 A2 n2 c2 e2 ys) (Vd.mk w2.heap.size gs As ms cs es ss) (Vd.mk w3.heap.size gt At mt ct et ts) (Law5 w (Vd.mk p7 g1 A1 n1 c1 e1 xs) (Vd.mk p8 g2 A2 n2 c2 e2 ys) (Vd.mk p9 g3 A3 n3 c3 e3 zs) (Vd.mk w2.heap.size gs As ms cs es ss) (Vd.mk w3.heap.size gt At mt ct et ts)) q → Calls Tryd.prog 7 #[.agg #[.bool gs, .slice As ms cs, .int .i64 es], .agg #[.bool gt, .slice At mt ct, .int .i64 et]] q fun e w' => e = .returned (.int .i64 0) ∧ CellsR (Vd.mk p7 g1 A1 n1 c1 e1 xs) (Vd.mk p8 g2 A2 n2 c2 e2 ys) (Vd.mk w2.heap.size gs As ms cs es ss) (Vd.mk w3.heap.size gt At mt ct et ts) (Law5 w (Vd.mk p7 g1 A1 n1 c1 e1 xs) (Vd.mk p8 g2 A2 n2 c2 e2 ys) (Vd.mk p9 g3 A3 n3 c3 e3 zs) (Vd.mk w2.heap.size gs As ms cs es ss) (Vd.mk w3.heap.size gt At mt ct et ts)) w') := fun q hq => by
          have h := hq.2.2.2.2.2.2.2.2.2.2.2.2.out
          refine (dcmp_l 0 gs As ms cs ss es gt At mt ct ts et q h.2.2.2.1.2 h.2.2.2.2.1.2 (by omega) (by omega) h.2.2.2.2.2.1 Hst).mono ?_
          rintro e w' ⟨rfl, hb⟩
          have h' := h.below hb
          exact ⟨rfl, cellsR h'.1 h'.2.1 h'.2.2.2.1 h'.2.2.2.2.1 h'⟩
        have HCxy : Hid (∀ q, CellsR (Vd.mk p7 g1 A1 n1 c1 e1 xs) (Vd.mk p8 g2 A2 n2 c2 e2 ys) (Vd.mk w2.heap.size gs As ms cs es ss) (Vd.mk w3.heap.size gt At mt ct et ts) (Law5 w (Vd.mk p7 g1 A1 n1 c1 e1 xs) (Vd.mk p8 g2 A2 n2 c2 e2 ys) (Vd.mk p9 g3 A3 n3 c3 e3 zs) (Vd.mk w2.heap.size gs As ms cs es ss) (Vd.mk w3.heap.size gt At mt ct et ts)) q → Calls Tryd.prog 7 #[.agg #[.bool g1, .slice A1 n1 c1, .int .i64 e1], .agg #[.bool g2, .slice A2 n2 c2, .int .i64 e2]] q fun e w' => e = .returned (.int .i64 v) ∧ CellsR (Vd.mk p7 g1 A1 n1 c1 e1 xs) (Vd.mk p8 g2 A2 n2 c2 e2 ys) (Vd.mk w2.heap.size gs As ms cs es ss) (Vd.mk w3.heap.size gt At mt ct et ts) (Law5 w (Vd.mk p7 g1 A1 n1 c1 e1 xs) (Vd.mk p8 g2 A2 n2 c2 e2 ys) (Vd.mk p9 g3 A3 n3 c3 e3 zs) (Vd.mk w2.heap.size gs As ms cs es ss) (Vd.mk w3.heap.size gt At mt ct et ts)) w') := fun q hq => by
          have h := hq.2.2.2.2.2.2.2.2.2.2.2.2.out
          refine (dcmp_l v g1 A1 n1 c1 xs e1 g2 A2 n2 c2 ys e2 q h.1.2 h.2.1.2 (by omega) (by omega) h.2.2.2.2.2.1 Hv).mono ?_
          rintro e w' ⟨rfl, hb⟩
          have h' := h.below hb
          exact ⟨rfl, cellsR h'.1 h'.2.1 h'.2.2.2.1 h'.2.2.2.2.1 h'⟩
        have HCyx : Hid (∀ q, CellsR (Vd.mk p7 g1 A1 n1 c1 e1 xs) (Vd.mk p8 g2 A2 n2 c2 e2 ys) (Vd.mk w2.heap.size gs As ms cs es ss) (Vd.mk w3.heap.size gt At mt ct et ts) (Law5 w (Vd.mk p7 g1 A1 n1 c1 e1 xs) (Vd.mk p8 g2 A2 n2 c2 e2 ys) (Vd.mk p9 g3 A3 n3 c3 e3 zs) (Vd.mk w2.heap.size gs As ms cs es ss) (Vd.mk w3.heap.size gt At mt ct et ts)) q → Calls Tryd.prog 7 #[.agg #[.bool g2, .slice A2 n2 c2, .int .i64 e2], .agg #[.bool g1, .slice A1 n1 c1, .int .i64 e1]] q fun e w' => e = .returned (.int .i64 (-v)) ∧ CellsR (Vd.mk p7 g1 A1 n1 c1 e1 xs) (Vd.mk p8 g2 A2 n2 c2 e2 ys) (Vd.mk w2.heap.size gs As ms cs es ss) (Vd.mk w3.heap.size gt At mt ct et ts) (Law5 w (Vd.mk p7 g1 A1 n1 c1 e1 xs) (Vd.mk p8 g2 A2 n2 c2 e2 ys) (Vd.mk p9 g3 A3 n3 c3 e3 zs) (Vd.mk w2.heap.size gs As ms cs es ss) (Vd.mk w3.heap.size gt At mt ct et ts)) w') := fun q hq => by
          have h := hq.2.2.2.2.2.2.2.2.2.2.2.2.out
          refine (dcmp_l (-v) g2 A2 n2 c2 ys e2 g1 A1 n1 c1 xs e1 q h.2.1.2 h.1.2 (by omega) (by omega) h.2.2.2.2.2.1 Hu).mono ?_
          rintro e w' ⟨rfl, hb⟩
          have h' := h.below hb
          exact ⟨rfl, cellsR h'.1 h'.2.1 h'.2.2.2.1 h'.2.2.2.2.1 h'⟩
        clear Hv Hu Hst
        go_wp2_with fail
        go_region_held3 (fun w' => w'.cell? ⟨w2.heap.size, 0, none⟩ = some (.bool gs) ∧ w'.cell? ⟨w2.heap.size, 1, none⟩ = some (.slice As ms cs) ∧ w'.cell? ⟨w2.heap.size, 2, none⟩ = some (.int .i64 es) ∧ w'.cell? ⟨w3.heap.size, 0, none⟩ = some (.bool gt) ∧ w'.cell? ⟨w3.heap.size, 1, none⟩ = some (.slice At mt ct) ∧ w'.cell? ⟨w3.heap.size, 2, none⟩ = some (.int .i64 et) ∧ w'.cell? ⟨p7, 0, none⟩ = some (.bool g1) ∧ w'.cell? ⟨p7, 1, none⟩ = some (.slice A1 n1 c1) ∧ w'.cell? ⟨p7, 2, none⟩ = some (.int .i64 e1) ∧ w'.cell? ⟨p8, 0, none⟩ = some (.bool g2) ∧ w'.cell? ⟨p8, 1, none⟩ = some (.slice A2 n2 c2) ∧ w'.cell? ⟨p8, 2, none⟩ = some (.int .i64 e2) ∧ Hid (Law5 w (Vd.mk p7 g1 A1 n1 c1 e1 xs) (Vd.mk p8 g2 A2 n2 c2 e2 ys) (Vd.mk p9 g3 A3 n3 c3 e3 zs) (Vd.mk w2.heap.size gs As ms cs es ss) (Vd.mk w3.heap.size gt At mt ct et ts) w')) (first | exact (cellsR HHd.out.1 HHd.out.2.1 HHd.out.2.2.2.1 HHd.out.2.2.2.2.1 HHd.out) | assumption) (first | (go_at_call 7; (with_reducible refine (HCst.out _ (by assumption)).mono ?_); rintro e w4 ⟨rfl, hX⟩) | (go_at_call 7; (with_reducible refine (HCxy.out _ (by assumption)).mono ?_); rintro e w5 ⟨rfl, hY⟩) | (go_at_call 7; (with_reducible refine (HCyx.out _ (by assumption)).mono ?_); rintro e w6 ⟨rfl, hZ⟩))
        have H6 := Lib.hid hZ.2.2.2.2.2.2.2.2.2.2.2.2.out
        clear hX hY hZ HCst HCxy HCyx HHd
        obtain ⟨bb, hbb⟩ := (addO_some Ho1.out).2
        obtain ⟨⟨gm, Vm, em⟩, hmm⟩ := mk_turn hbb
        have Hm : Hid (mk (!g2) (val ys) e2 = some ⟨gm, Vm, em⟩) := hmm
        obtain ⟨o2, ho2⟩ : ∃ o, addO (mk gs (val ss) es) (mk gm Vm em) = o := ⟨_, rfl⟩
        have Ho2 := Lib.hid ho2
        clear hbb hmm ho2
        have HM : Hid (∀ q, Law5 w (Vd.mk p7 g1 A1 n1 c1 e1 xs) (Vd.mk p8 g2 A2 n2 c2 e2 ys) (Vd.mk p9 g3 A3 n3 c3 e3 zs) (Vd.mk w2.heap.size gs As ms cs es ss) (Vd.mk w3.heap.size gt At mt ct et ts) q → Calls Tryd.prog 8 #[.agg #[.bool g2, .slice A2 n2 c2, .int .i64 e2]] q fun e w' => ∃ A7 m7 c7 us, e = .returned (.agg #[.bool gm, .slice A7 m7 c7, .int .i64 em]) ∧ m7 ≤ 20 ∧ Law5 w (Vd.mk p7 g1 A1 n1 c1 e1 xs) (Vd.mk p8 g2 A2 n2 c2 e2 ys) (Vd.mk p9 g3 A3 n3 c3 e3 zs) (Vd.mk w2.heap.size gs As ms cs es ss) (Vd.mk w3.heap.size gt At mt ct et ts) w' ∧ Lim w' A7 m7 c7 us ∧ val us = Vm ∧ Below q.heap.size q w') := fun q h => by
          refine (minus_any ⟨gm, Vm, em⟩ g2 A2 n2 c2 ys e2 q h.2.1.2 (by omega) h.2.2.2.2.2.1 Hm).mono ?_
          rintro e w' ⟨A7, m7, c7, us, rfl, hm7, hl7, hb7, hv7, hb⟩
          exact ⟨A7, m7, c7, us, rfl, by omega, h.below hb, hl7, hv7, hb⟩
        have HA : Hid (∀ q A7 m7 c7 us, Law5 w (Vd.mk p7 g1 A1 n1 c1 e1 xs) (Vd.mk p8 g2 A2 n2 c2 e2 ys) (Vd.mk p9 g3 A3 n3 c3 e3 zs) (Vd.mk w2.heap.size gs As ms cs es ss) (Vd.mk w3.heap.size gt At mt ct et ts) q → Lim q A7 m7 c7 us → m7 ≤ 20 → val us = Vm → Calls Tryd.prog 6 #[.agg #[.bool gs, .slice As ms cs, .int .i64 es], .agg #[.bool gm, .slice A7 m7 c7, .int .i64 em]] q fun e w' => ∃ gb Ab mb cb bs eb rb, e = .returned (.tuple #[.agg #[.bool gb, .slice Ab mb cb, .int .i64 eb], .int .i64 rb]) ∧ mb ≤ 131100 ∧ Law5 w (Vd.mk p7 g1 A1 n1 c1 e1 xs) (Vd.mk p8 g2 A2 n2 c2 e2 ys) (Vd.mk p9 g3 A3 n3 c3 e3 zs) (Vd.mk w2.heap.size gs As ms cs es ss) (Vd.mk w3.heap.size gt At mt ct et ts) w' ∧ Lim w' Ab mb cb bs ∧ Is o2 gb (val bs) eb rb ∧ Below q.heap.size q w') := fun q A7 m7 c7 us h hl hm hvu => by
          refine (dadd_any o2 gs As ms cs ss es gm A7 m7 c7 us em q h.2.2.2.1.2 hl (by omega) (by omega) h.2.2.2.2.2.1 (by rw [hvu]; exact Ho2)).mono ?_
          rintro e w' ⟨gb, Ab, mb, cb, bs, eb, rb, rfl, hmb, hl', hb', his, hb⟩
          exact ⟨gb, Ab, mb, cb, bs, eb, rb, rfl, by omega, h.below hb, hl', his, hb⟩
        go_upto_region 12 with fail
        go_cut [14, 15] from 24 (fun s14 s15 wx => ∃ (p14 : Nat) (gb : Bool) (Ab : Option Addr) (mb cb : Nat) (bs : List Nat) (eb rb : Int), s14 = .pointer (some ⟨p14, 0, none⟩) ∧ s15 = .int .i64 rb ∧ mb ≤ 131100 ∧ Hid (Law5 w (Vd.mk p7 g1 A1 n1 c1 e1 xs) (Vd.mk p8 g2 A2 n2 c2 e2 ys) (Vd.mk p9 g3 A3 n3 c3 e3 zs) (Vd.mk w2.heap.size gs As ms cs es ss) (Vd.mk w3.heap.size gt At mt ct et ts) wx ∧ (Vd.mk p14 gb Ab mb cb eb bs).In wx ∧ Is o2 gb (val bs) eb rb))
        case first =>
          have H6d := Lib.hid (H6.out.below (below_drew _))
          have H6a := Lib.hid ((H6.out.below (below1 _ (.cells #[.bool false, .slice none 0 0, .int .i64 0] 28))).below (below_drew _))
          have K6 : Hid (Six w6.drew w2.heap.size gs As ms cs es p8 g2 A2 n2 c2 e2) := H6d.out.2.2.2.1.1.six H6d.out.2.1.1
          have K6a : Hid (∀ o, Six (w6.alloc o).drew w2.heap.size gs As ms cs es p8 g2 A2 n2 c2 e2) := fun o => by
            have h := (H6.out.below (below1 _ o)).below (below_drew _)
            exact h.2.2.2.1.1.six h.2.1.1
          go_region_held3 (fun w' => w'.cell? ⟨w2.heap.size, 0, none⟩ = some (.bool gs) ∧ w'.cell? ⟨w2.heap.size, 1, none⟩ = some (.slice As ms cs) ∧ w'.cell? ⟨w2.heap.size, 2, none⟩ = some (.int .i64 es) ∧ w'.cell? ⟨p8, 0, none⟩ = some (.bool g2) ∧ w'.cell? ⟨p8, 1, none⟩ = some (.slice A2 n2 c2) ∧ w'.cell? ⟨p8, 2, none⟩ = some (.int .i64 e2)) (first | (with_reducible exact K6.out) | (with_reducible exact K6a.out _) | (with_reducible exact K8p.out) | (with_reducible exact K8.out) | (with_reducible exact K8a.out _) | (with_reducible exact K7.out) | (with_reducible exact K7a.out _)) (first | (go_at_call 8; (with_reducible refine (HM.out _ H6d.out).mono ?_); rintro e w7 ⟨A7, m7, c7, us, rfl, hm7, h7, l7, v7, hb7⟩; have K7 : Hid (Six w7 w2.heap.size gs As ms cs es p8 g2 A2 n2 c2 e2) := h7.2.2.2.1.1.six h7.2.1.1; have K7a : Hid (∀ o, Six (w7.alloc o) w2.heap.size gs As ms cs es p8 g2 A2 n2 c2 e2) := fun o => (h7.below (below1 _ o)).2.2.2.1.1.six (h7.below (below1 _ o)).2.1.1; replace h7 := Lib.hid h7; replace l7 := Lib.hid l7; replace v7 := Lib.hid v7; clear hb7) | (go_at_call 8; (with_reducible refine (HM.out _ H6a.out).mono ?_); rintro e w7 ⟨A7, m7, c7, us, rfl, hm7, h7, l7, v7, hb7⟩; have Z7 := Lib.hid ((Bd.new w6 28 false none 0 0 0).drew.below hb7); have K7 : Hid (Six w7 w2.heap.size gs As ms cs es p8 g2 A2 n2 c2 e2) := h7.2.2.2.1.1.six h7.2.1.1; have K7a : Hid (∀ o, Six (w7.alloc o) w2.heap.size gs As ms cs es p8 g2 A2 n2 c2 e2) := fun o => (h7.below (below1 _ o)).2.2.2.1.1.six (h7.below (below1 _ o)).2.1.1; replace h7 := Lib.hid h7; replace l7 := Lib.hid l7; replace v7 := Lib.hid v7; clear hb7) | (go_at_call 6; (with_reducible refine (HA.out w7 A7 m7 c7 us h7.out l7.out hm7 v7.out).mono ?_); rintro e w8 ⟨gb, Ab, mb, cb, bs, eb, rb, rfl, hmb, h8, l8, i8, hb8⟩; have Z8 := Z7.out.below hb8; have P8 := Law5.put H6.out h8 Z8 (Nat.le_refl _) gb Ab mb cb eb; have K8 : Hid (Six w8 w2.heap.size gs As ms cs es p8 g2 A2 n2 c2 e2) := h8.2.2.2.1.1.six h8.2.1.1; have K8p : Hid (Six (World.put w8 w6.heap.size gb Ab mb cb eb) w2.heap.size gs As ms cs es p8 g2 A2 n2 c2 e2) := P8.2.2.2.1.1.six P8.2.1.1; have R8 : Hid (Law5 w (Vd.mk p7 g1 A1 n1 c1 e1 xs) (Vd.mk p8 g2 A2 n2 c2 e2 ys) (Vd.mk p9 g3 A3 n3 c3 e3 zs) (Vd.mk w2.heap.size gs As ms cs es ss) (Vd.mk w3.heap.size gt At mt ct et ts) (World.put w8 w6.heap.size gb Ab mb cb eb) ∧ (Vd.mk w6.heap.size gb Ab mb cb eb bs).In (World.put w8 w6.heap.size gb Ab mb cb eb) ∧ Is o2 gb (val bs) eb rb) := ⟨P8, ⟨Z8.put _ _ _ _ _, Z8.lim l8 _ _ _ _ _⟩, i8⟩; have z0 := Z8.c0; have z1 := Z8.c1; have z2 := Z8.c2; have zf := Z8.fz; clear Z8 P8 h8 l8 i8 hb8) | (go_at_call 6; (with_reducible refine (HA.out w7 A7 m7 c7 us h7.out l7.out hm7 v7.out).mono ?_); rintro e w8 ⟨gb, Ab, mb, cb, bs, eb, rb, rfl, hmb, h8, l8, i8, hb8⟩; have K8 : Hid (Six w8 w2.heap.size gs As ms cs es p8 g2 A2 n2 c2 e2) := h8.2.2.2.1.1.six h8.2.1.1; have K8a : Hid (∀ o, Six (w8.alloc o) w2.heap.size gs As ms cs es p8 g2 A2 n2 c2 e2) := fun o => (h8.below (below1 _ o)).2.2.2.1.1.six (h8.below (below1 _ o)).2.1.1; have R8 : Hid (Law5 w (Vd.mk p7 g1 A1 n1 c1 e1 xs) (Vd.mk p8 g2 A2 n2 c2 e2 ys) (Vd.mk p9 g3 A3 n3 c3 e3 zs) (Vd.mk w2.heap.size gs As ms cs es ss) (Vd.mk w3.heap.size gt At mt ct et ts) (w8.alloc (.cells #[.bool gb, .slice Ab mb cb, .int .i64 eb] 28)) ∧ (Vd.mk w8.heap.size gb Ab mb cb eb bs).In (w8.alloc (.cells #[.bool gb, .slice Ab mb cb, .int .i64 eb] 28)) ∧ Is o2 gb (val bs) eb rb) := ⟨h8.below (below1 _ _), ⟨Bd.new w8 28 gb Ab mb cb eb, l8.alloc _⟩, i8⟩; clear h8 l8 i8 hb8) | (go_at_call 6; (with_reducible refine (HA.out (w7.alloc (.cells #[.bool false, .slice none 0 0, .int .i64 0] 28)) A7 m7 c7 us (h7.out.below (below1 _ _)) (l7.out.alloc _) hm7 v7.out).mono ?_); rintro e w8 ⟨gb, Ab, mb, cb, bs, eb, rb, rfl, hmb, h8, l8, i8, hb8⟩; have Z8 := (Bd.new w7 28 false none 0 0 0).below hb8; have P8 := Law5.put h7.out h8 Z8 (Nat.le_refl _) gb Ab mb cb eb; have K8 : Hid (Six w8 w2.heap.size gs As ms cs es p8 g2 A2 n2 c2 e2) := h8.2.2.2.1.1.six h8.2.1.1; have K8p : Hid (Six (World.put w8 w7.heap.size gb Ab mb cb eb) w2.heap.size gs As ms cs es p8 g2 A2 n2 c2 e2) := P8.2.2.2.1.1.six P8.2.1.1; have R8 : Hid (Law5 w (Vd.mk p7 g1 A1 n1 c1 e1 xs) (Vd.mk p8 g2 A2 n2 c2 e2 ys) (Vd.mk p9 g3 A3 n3 c3 e3 zs) (Vd.mk w2.heap.size gs As ms cs es ss) (Vd.mk w3.heap.size gt At mt ct et ts) (World.put w8 w7.heap.size gb Ab mb cb eb) ∧ (Vd.mk w7.heap.size gb Ab mb cb eb bs).In (World.put w8 w7.heap.size gb Ab mb cb eb) ∧ Is o2 gb (val bs) eb rb) := ⟨P8, ⟨Z8.put _ _ _ _ _, Z8.lim l8 _ _ _ _ _⟩, i8⟩; have z0 := Z8.c0; have z1 := Z8.c1; have z2 := Z8.c2; have zf := Z8.fz; clear Z8 P8 h8 l8 i8 hb8))
          all_goals (go_wp2_with fail)
          all_goals go_meet
          all_goals (exact ⟨_, _, _, _, _, _, _, _, rfl, rfl, hmb, R8⟩)
        case rest =>
          obtain ⟨wB, rfl⟩ : ∃ wB, wB = wc := ⟨_, rfl⟩
          obtain ⟨p14, gb, Ab, mb, cb, bs, eb, rb, rfl, rfl, hmb, H14⟩ := hcut
          clear HM HA H6
          go_upto_region 13 with fail
          go_cut [86] from 24 (fun s86 wx => s86 = .bool false ∧ Hid (Law5 w (Vd.mk p7 g1 A1 n1 c1 e1 xs) (Vd.mk p8 g2 A2 n2 c2 e2 ys) (Vd.mk p9 g3 A3 n3 c3 e3 zs) (Vd.mk w2.heap.size gs As ms cs es ss) (Vd.mk w3.heap.size gt At mt ct et ts) wx))
          case first =>
            have HL := Lib.hid H14.out.1
            have HI := Lib.hid H14.out.2.2
            have HB := Lib.hid H14.out.2.1
            cases o2 with
            | none =>
              obtain rfl := HI.out.1
              clear HI HB H14
              go_wp2_with fail
              go_meet
              exact ⟨rfl, HL⟩
            | some b =>
              obtain ⟨rfl, hbd⟩ := HI.out
              have Hz : Hid (cmpI (dw gb (val bs) eb) (dw g1 (val xs) e1) = 0) := cmpI_eq (by
                have hd := Hd.out
                have h2 := Ho2.out
                rw [hd.1, hd.2.1, hd.2.2] at h2
                rw [hbd.1, hbd.2.1, hbd.2.2]
                exact back_worth Ho1.out Hm.out h2)
              clear hbd HI H14
              have x0 : wB.cell? ⟨p7, 0, none⟩ = some (.bool g1) := HL.out.1.1.c0
              have x1 : wB.cell? ⟨p7, 1, none⟩ = some (.slice A1 n1 c1) := HL.out.1.1.c1
              have x2 : wB.cell? ⟨p7, 2, none⟩ = some (.int .i64 e1) := HL.out.1.1.c2
              have y0 : wB.cell? ⟨p14, 0, none⟩ = some (.bool gb) := HB.out.1.c0
              have y1 : wB.cell? ⟨p14, 1, none⟩ = some (.slice Ab mb cb) := HB.out.1.c1
              have y2 : wB.cell? ⟨p14, 2, none⟩ = some (.int .i64 eb) := HB.out.1.c2
              go_wp2_with fail
              refine (dcmp_l 0 gb Ab mb cb bs eb g1 A1 n1 c1 xs e1 wB HB.out.2 HL.out.1.2 (by omega) (by omega) HL.out.2.2.2.2.2.1 Hz).mono ?_
              rintro e w9 ⟨rfl, hb⟩
              have HL9 := Lib.hid (HL.out.below hb)
              clear hb HL HB Hz x0 x1 x2 y0 y1 y2
              go_wp2_with fail
              go_meet
              exact ⟨rfl, HL9⟩
          case rest =>
            obtain ⟨wC, rfl⟩ : ∃ wC, wC = wc := ⟨_, rfl⟩
            obtain ⟨rfl, H⟩ := hcut
            clear H14 Ho2 Hm hmb
            obtain ⟨o3, ho3⟩ : ∃ o, mulO (mk gs (val ss) es) (mk g3 (val zs) e3) = o := ⟨_, rfl⟩
            obtain ⟨o4, ho4⟩ : ∃ o, mulO (mk g1 (val xs) e1) (mk g3 (val zs) e3) = o := ⟨_, rfl⟩
            obtain ⟨o5, ho5⟩ : ∃ o, mulO (mk g2 (val ys) e2) (mk g3 (val zs) e3) = o := ⟨_, rfl⟩
            have Ho3 := Lib.hid ho3
            have Ho4 := Lib.hid ho4
            have Ho5 := Lib.hid ho5
            clear ho3 ho4 ho5
            have x0 : wC.cell? ⟨w2.heap.size, 0, none⟩ = some (.bool gs) := H.out.2.2.2.1.1.c0
            have x1 : wC.cell? ⟨w2.heap.size, 1, none⟩ = some (.slice As ms cs) := H.out.2.2.2.1.1.c1
            have x2 : wC.cell? ⟨w2.heap.size, 2, none⟩ = some (.int .i64 es) := H.out.2.2.2.1.1.c2
            have y0 : wC.cell? ⟨p9, 0, none⟩ = some (.bool g3) := H.out.2.2.1.1.c0
            have y1 : wC.cell? ⟨p9, 1, none⟩ = some (.slice A3 n3 c3) := H.out.2.2.1.1.c1
            have y2 : wC.cell? ⟨p9, 2, none⟩ = some (.int .i64 e3) := H.out.2.2.1.1.c2
            go_wp2_with fail
            refine (dmul_any o3 gs As ms cs ss es g3 A3 n3 c3 zs e3 _ H.out.2.2.2.1.2 H.out.2.2.1.2 (by omega) (by omega) H.out.2.2.2.2.2.1 Ho3).mono ?_
            rintro e w10 ⟨gp, Ap, mp, cp, ps, ep, rp, rfl, hm_ps, l_ps, b_ps, i_ps, hb⟩
            have I_ps : Hid (Is o3 gp (val ps) ep rp) := i_ps
            replace hb := hb.trans ((below1 w10 (.cells #[.bool gp, .slice Ap mp cp, .int .i64 ep] 28)).mono hb.size)
            replace H := Lib.hid (H.out.below hb)
            have V_ps : Hid ((Vd.mk w10.heap.size gp Ap mp cp ep ps).In (w10.alloc (.cells #[.bool gp, .slice Ap mp cp, .int .i64 ep] 28))) := ⟨Bd.new w10 28 gp Ap mp cp ep, l_ps.alloc _⟩
            clear hb i_ps l_ps b_ps x0 x1 x2 y0 y1 y2
            have x0 : (w10.alloc (.cells #[.bool gp, .slice Ap mp cp, .int .i64 ep] 28)).cell? ⟨p7, 0, none⟩ = some (.bool g1) := H.out.1.1.c0
            have x1 : (w10.alloc (.cells #[.bool gp, .slice Ap mp cp, .int .i64 ep] 28)).cell? ⟨p7, 1, none⟩ = some (.slice A1 n1 c1) := H.out.1.1.c1
            have x2 : (w10.alloc (.cells #[.bool gp, .slice Ap mp cp, .int .i64 ep] 28)).cell? ⟨p7, 2, none⟩ = some (.int .i64 e1) := H.out.1.1.c2
            have y0 : (w10.alloc (.cells #[.bool gp, .slice Ap mp cp, .int .i64 ep] 28)).cell? ⟨p9, 0, none⟩ = some (.bool g3) := H.out.2.2.1.1.c0
            have y1 : (w10.alloc (.cells #[.bool gp, .slice Ap mp cp, .int .i64 ep] 28)).cell? ⟨p9, 1, none⟩ = some (.slice A3 n3 c3) := H.out.2.2.1.1.c1
            have y2 : (w10.alloc (.cells #[.bool gp, .slice Ap mp cp, .int .i64 ep] 28)).cell? ⟨p9, 2, none⟩ = some (.int .i64 e3) := H.out.2.2.1.1.c2
            go_wp2_with fail
            refine (dmul_any o4 g1 A1 n1 c1 xs e1 g3 A3 n3 c3 zs e3 _ H.out.1.2 H.out.2.2.1.2 (by omega) (by omega) H.out.2.2.2.2.2.1 Ho4).mono ?_
            rintro e w11 ⟨gq, Aq, mq, cq, qs, eq_, rq, rfl, hm_qs, l_qs, b_qs, i_qs, hb⟩
            have I_qs : Hid (Is o4 gq (val qs) eq_ rq) := i_qs
            replace hb := hb.trans ((below1 w11 (.cells #[.bool gq, .slice Aq mq cq, .int .i64 eq_] 28)).mono hb.size)
            replace H := Lib.hid (H.out.below hb)
            have V_qs : Hid ((Vd.mk w11.heap.size gq Aq mq cq eq_ qs).In (w11.alloc (.cells #[.bool gq, .slice Aq mq cq, .int .i64 eq_] 28))) := ⟨Bd.new w11 28 gq Aq mq cq eq_, l_qs.alloc _⟩
            replace V_ps := Lib.hid (V_ps.out.below hb)
            clear hb i_qs l_qs b_qs x0 x1 x2 y0 y1 y2
            have x0 : (w11.alloc (.cells #[.bool gq, .slice Aq mq cq, .int .i64 eq_] 28)).cell? ⟨p8, 0, none⟩ = some (.bool g2) := H.out.2.1.1.c0
            have x1 : (w11.alloc (.cells #[.bool gq, .slice Aq mq cq, .int .i64 eq_] 28)).cell? ⟨p8, 1, none⟩ = some (.slice A2 n2 c2) := H.out.2.1.1.c1
            have x2 : (w11.alloc (.cells #[.bool gq, .slice Aq mq cq, .int .i64 eq_] 28)).cell? ⟨p8, 2, none⟩ = some (.int .i64 e2) := H.out.2.1.1.c2
            have y0 : (w11.alloc (.cells #[.bool gq, .slice Aq mq cq, .int .i64 eq_] 28)).cell? ⟨p9, 0, none⟩ = some (.bool g3) := H.out.2.2.1.1.c0
            have y1 : (w11.alloc (.cells #[.bool gq, .slice Aq mq cq, .int .i64 eq_] 28)).cell? ⟨p9, 1, none⟩ = some (.slice A3 n3 c3) := H.out.2.2.1.1.c1
            have y2 : (w11.alloc (.cells #[.bool gq, .slice Aq mq cq, .int .i64 eq_] 28)).cell? ⟨p9, 2, none⟩ = some (.int .i64 e3) := H.out.2.2.1.1.c2
            go_wp2_with fail
            refine (dmul_any o5 g2 A2 n2 c2 ys e2 g3 A3 n3 c3 zs e3 _ H.out.2.1.2 H.out.2.2.1.2 (by omega) (by omega) H.out.2.2.2.2.2.1 Ho5).mono ?_
            rintro e w12 ⟨gr, Ar, mr, cr, rs_, er, rr, rfl, hm_rs_, l_rs_, b_rs_, i_rs_, hb⟩
            have I_rs_ : Hid (Is o5 gr (val rs_) er rr) := i_rs_
            replace hb := hb.trans ((below1 w12 (.cells #[.bool gr, .slice Ar mr cr, .int .i64 er] 28)).mono hb.size)
            replace H := Lib.hid (H.out.below hb)
            have V_rs_ : Hid ((Vd.mk w12.heap.size gr Ar mr cr er rs_).In (w12.alloc (.cells #[.bool gr, .slice Ar mr cr, .int .i64 er] 28))) := ⟨Bd.new w12 28 gr Ar mr cr er, l_rs_.alloc _⟩
            replace V_ps := Lib.hid (V_ps.out.below hb)
            replace V_qs := Lib.hid (V_qs.out.below hb)
            clear hb i_rs_ l_rs_ b_rs_ x0 x1 x2 y0 y1 y2
            cases o3 with
            | none =>
              obtain rfl := I_ps.out.1
              have HF := Lib.hid H.out.2.2.2.2.2.2
              clear H V_ps V_qs V_rs_ I_ps I_qs I_rs_
              go_wp2
              go_ret
              exact ⟨rfl, HF.out⟩
            | some dp => cases o4 with
              | none =>
                obtain rfl := I_ps.out.1
                obtain rfl := I_qs.out.1
                have HF := Lib.hid H.out.2.2.2.2.2.2
                clear H V_ps V_qs V_rs_ I_ps I_qs I_rs_
                go_wp2
                go_ret
                exact ⟨rfl, HF.out⟩
              | some dq => cases o5 with
                | none =>
                  obtain rfl := I_ps.out.1
                  obtain rfl := I_qs.out.1
                  obtain rfl := I_rs_.out.1
                  have HF := Lib.hid H.out.2.2.2.2.2.2
                  clear H V_ps V_qs V_rs_ I_ps I_qs I_rs_
                  go_wp2
                  go_ret
                  exact ⟨rfl, HF.out⟩
                | some dr =>
                  obtain ⟨rfl, hp1⟩ := I_ps.out
                  obtain ⟨rfl, hq1⟩ := I_qs.out
                  obtain ⟨rfl, hr1⟩ := I_rs_.out
                  obtain ⟨o6, ho6⟩ : ∃ o, addO (mk gq (val qs) eq_) (mk gr (val rs_) er) = o := ⟨_, rfl⟩
                  have Ho6 := Lib.hid ho6
                  have Hp : Hid (gp = dp.neg ∧ val ps = dp.V ∧ ep = dp.e) := hp1
                  have Hq : Hid (gq = dq.neg ∧ val qs = dq.V ∧ eq_ = dq.e) := hq1
                  have Hr : Hid (gr = dr.neg ∧ val rs_ = dr.V ∧ er = dr.e) := hr1
                  clear ho6 hp1 hq1 hr1 I_ps I_qs I_rs_
                  have x0 : (w12.alloc (.cells #[.bool gr, .slice Ar mr cr, .int .i64 er] 28)).cell? ⟨w11.heap.size, 0, none⟩ = some (.bool gq) := V_qs.out.1.c0
                  have x1 : (w12.alloc (.cells #[.bool gr, .slice Ar mr cr, .int .i64 er] 28)).cell? ⟨w11.heap.size, 1, none⟩ = some (.slice Aq mq cq) := V_qs.out.1.c1
                  have x2 : (w12.alloc (.cells #[.bool gr, .slice Ar mr cr, .int .i64 er] 28)).cell? ⟨w11.heap.size, 2, none⟩ = some (.int .i64 eq_) := V_qs.out.1.c2
                  have y0 : (w12.alloc (.cells #[.bool gr, .slice Ar mr cr, .int .i64 er] 28)).cell? ⟨w12.heap.size, 0, none⟩ = some (.bool gr) := V_rs_.out.1.c0
                  have y1 : (w12.alloc (.cells #[.bool gr, .slice Ar mr cr, .int .i64 er] 28)).cell? ⟨w12.heap.size, 1, none⟩ = some (.slice Ar mr cr) := V_rs_.out.1.c1
                  have y2 : (w12.alloc (.cells #[.bool gr, .slice Ar mr cr, .int .i64 er] 28)).cell? ⟨w12.heap.size, 2, none⟩ = some (.int .i64 er) := V_rs_.out.1.c2
                  go_wp2_with fail
                  refine (dadd_any o6 gq Aq mq cq qs eq_ gr Ar mr cr rs_ er _ V_qs.out.2 V_rs_.out.2 (by omega) (by omega) H.out.2.2.2.2.2.1 Ho6).mono ?_
                  rintro e w13 ⟨gu, Au, mu, cu, us, eu, ru, rfl, hm_u, l_u, b_u, i_u, hb⟩
                  have I_u : Hid (Is o6 gu (val us) eu ru) := i_u
                  replace hb := hb.trans ((below1 w13 (.cells #[.bool gu, .slice Au mu cu, .int .i64 eu] 28)).mono hb.size)
                  replace H := Lib.hid (H.out.below hb)
                  replace V_ps := Lib.hid (V_ps.out.below hb)
                  have V_u : Hid ((Vd.mk w13.heap.size gu Au mu cu eu us).In (w13.alloc (.cells #[.bool gu, .slice Au mu cu, .int .i64 eu] 28))) := ⟨Bd.new w13 28 gu Au mu cu eu, l_u.alloc _⟩
                  clear hb i_u l_u b_u x0 x1 x2 y0 y1 y2 V_qs V_rs_
                  cases o6 with
                  | none =>
                    obtain rfl := I_u.out.1
                    have HF := Lib.hid H.out.2.2.2.2.2.2
                    clear H V_ps V_u I_u
                    go_wp2
                    go_ret
                    exact ⟨rfl, HF.out⟩
                  | some du =>
                    obtain ⟨rfl, hu1⟩ := I_u.out
                    have Hz : Hid (cmpI (dw gp (val ps) ep) (dw gu (val us) eu) = 0) := cmpI_eq (by
                      have hd := Hd.out
                      have hq := Hq.out
                      have hr := Hr.out
                      have h3 := Ho3.out
                      have h6 := Ho6.out
                      rw [hd.1, hd.2.1, hd.2.2] at h3
                      rw [hq.1, hq.2.1, hq.2.2, hr.1, hr.2.1, hr.2.2] at h6
                      rw [hu1.1, hu1.2.1, hu1.2.2, Hp.out.1, Hp.out.2.1, Hp.out.2.2]
                      exact shared_out Ho1.out h3 Ho4.out Ho5.out h6)
                    clear hu1 I_u
                    have x0 : (w13.alloc (.cells #[.bool gu, .slice Au mu cu, .int .i64 eu] 28)).cell? ⟨w10.heap.size, 0, none⟩ = some (.bool gp) := V_ps.out.1.c0
                    have x1 : (w13.alloc (.cells #[.bool gu, .slice Au mu cu, .int .i64 eu] 28)).cell? ⟨w10.heap.size, 1, none⟩ = some (.slice Ap mp cp) := V_ps.out.1.c1
                    have x2 : (w13.alloc (.cells #[.bool gu, .slice Au mu cu, .int .i64 eu] 28)).cell? ⟨w10.heap.size, 2, none⟩ = some (.int .i64 ep) := V_ps.out.1.c2
                    have y0 : (w13.alloc (.cells #[.bool gu, .slice Au mu cu, .int .i64 eu] 28)).cell? ⟨w13.heap.size, 0, none⟩ = some (.bool gu) := V_u.out.1.c0
                    have y1 : (w13.alloc (.cells #[.bool gu, .slice Au mu cu, .int .i64 eu] 28)).cell? ⟨w13.heap.size, 1, none⟩ = some (.slice Au mu cu) := V_u.out.1.c1
                    have y2 : (w13.alloc (.cells #[.bool gu, .slice Au mu cu, .int .i64 eu] 28)).cell? ⟨w13.heap.size, 2, none⟩ = some (.int .i64 eu) := V_u.out.1.c2
                    go_wp2_with fail
                    refine (dcmp_l 0 gp Ap mp cp ps ep gu Au mu cu us eu _ V_ps.out.2 V_u.out.2 (by omega) (by omega) H.out.2.2.2.2.2.1 Hz).mono ?_
                    rintro e w14 ⟨rfl, hb⟩
                    have HF := Lib.hid (H.out.below hb).2.2.2.2.2.2
                    clear hb H V_ps V_u Hz x0 x1 x2 y0 y1 y2
                    go_wp2
                    go_ret
                    exact ⟨rfl, HF.out⟩
end Go.Proofs.YtffkddnjgbgfpaaDoor
