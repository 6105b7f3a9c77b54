/- Words for dyads that are laid into new blocks, one or two, in whatever order the blocks came. -/
import Derived.Test.YtpbggonfdaealaaGreatDoorLgLaw
namespace Go.Proofs.YtpbggonfdaealaaGreatDoor
open Go.RowKit

/-- Digits of a value. -/
def Mq (w : World) (V : Nat) (A : Option Addr) (m c : Nat) (es : List Nat) : Prop := Lim w A m c es ∧ Bare es ∧ val es = V
theorem Mq.below {w w' : World} {V : Nat} {A : Option Addr} {m c : Nat} {es : List Nat} (h : Mq w V A m c es) (hb : Below w.heap.size w w') : Mq w' V A m c es := ⟨h.1.below hb, h.2⟩
theorem Mq.put {w : World} {V : Nat} {A : Option Addr} {m c : Nat} {es : List Nat} (h : Mq w V A m c es) {p t : Nat} {g0 : Bool} {A0 : Option Addr} {n0 c0 : Nat} {e0 : Int} (hb : Bd w p t g0 A0 n0 c0 e0) (g : Bool) (A' : Option Addr) (n' c' : Nat) (e : Int) : Mq (World.put w p g A' n' c' e) V A m c es := ⟨hb.lim h.1 _ _ _ _ _, h.2⟩
theorem below_2u (w : World) (o1 o2 : Obj) : Below w.heap.size w ((w.alloc o1).alloc o2) := ((Below.refl _ _).alloc (Nat.le_refl _) _).alloc (by simp) _

/-- New blocks, each with a number that is 0 yet; the newest first. -/
def HoldU (u0 : World) (bs : List Nat) (w : World) : Prop :=
  Below u0.heap.size u0 w ∧ (∀ p ∈ bs, Bd w p 30 false none 0 0 0 ∧ u0.heap.size ≤ p) ∧ bs.Pairwise (fun x y => y < x)
section
variable {u0 : World} {bs : List Nat} {w w' : World}
theorem HoldU.below (hh : HoldU u0 bs w) (hb : Below w.heap.size w w') : HoldU u0 bs w' :=
  ⟨hh.1.trans (hb.mono hh.1.size), fun p hp => ⟨(hh.2.1 p hp).1.below hb, (hh.2.1 p hp).2⟩, hh.2.2⟩
theorem HoldU.one (hh : HoldU u0 bs w) : HoldU u0 (w.heap.size :: bs) (w.alloc (.cells #[.bool false, .slice none 0 0, .int .i64 0] 30)) := by
  have h2 := hh.below (below1 w (.cells #[.bool false, .slice none 0 0, .int .i64 0] 30))
  refine ⟨h2.1, fun p hp => ?_, ?_⟩
  · rcases List.mem_cons.1 hp with rfl | hp
    · exact ⟨Bd.new w _ _ _ _ _ _, hh.1.size⟩
    · exact h2.2.1 p hp
  · exact List.pairwise_cons.2 ⟨fun p hp => (hh.2.1 p hp).1.lt, hh.2.2⟩
theorem HoldU.two (hh : HoldU u0 bs w) : HoldU u0 ((w.heap.size + 1) :: w.heap.size :: bs) ((w.alloc (.cells #[.bool false, .slice none 0 0, .int .i64 0] 30)).alloc (.cells #[.bool false, .slice none 0 0, .int .i64 0] 30)) := by
  have h2 := hh.one.one
  rw [World.size_alloc] at h2
  exact h2
theorem HoldU.start (u0 : World) : HoldU u0 [] u0 := ⟨Below.refl _ _, fun _ hp => absurd hp (List.not_mem_nil), List.Pairwise.nil⟩
theorem HoldU.old (hh : HoldU u0 bs w) : Below u0.heap.size u0 w := hh.1
theorem HoldU.first {X : Nat} (hh : HoldU u0 (X :: bs) w) : Bd w X 30 false none 0 0 0 := (hh.2.1 X (List.mem_cons.2 (Or.inl rfl))).1
theorem HoldU.second {X Y : Nat} (hh : HoldU u0 (Y :: X :: bs) w) : Bd w X 30 false none 0 0 0 ∧ X < Y :=
  ⟨(hh.2.1 X (List.mem_cons.2 (Or.inr (List.mem_cons.2 (Or.inl rfl))))).1, (List.pairwise_cons.1 hh.2.2).1 X (List.mem_cons.2 (Or.inl rfl))⟩
theorem HoldU.a1 (hh : HoldU u0 bs w) (o : Obj) : Below u0.heap.size u0 (w.alloc o) := hh.1.alloc hh.1.size o
theorem HoldU.a2 (hh : HoldU u0 bs w) (o1 o2 : Obj) : Below u0.heap.size u0 ((w.alloc o1).alloc o2) := (hh.1.alloc hh.1.size o1).alloc (hh.1.alloc hh.1.size o1).size o2
variable {X Y : Nat}
theorem HoldU.at1 (hh : HoldU u0 (X :: bs) w) (g : Bool) (A : Option Addr) (n c : Nat) (e : Int) : Below u0.heap.size u0 (World.put w X g A n c e) :=
  below_put hh.1 (hh.2.1 X (List.mem_cons.2 (Or.inl rfl))).2 _ _ _ _ _
theorem HoldU.at1a (hh : HoldU u0 (X :: bs) w) (g : Bool) (A : Option Addr) (n c : Nat) (e : Int) (o : Obj) : Below u0.heap.size u0 ((World.put w X g A n c e).alloc o) := (hh.at1 g A n c e).alloc (hh.at1 g A n c e).size o
theorem HoldU.at2 (hh : HoldU u0 (Y :: X :: bs) w) (g : Bool) (A : Option Addr) (n c : Nat) (e : Int) : Below u0.heap.size u0 (World.put w X g A n c e) :=
  below_put hh.1 (hh.2.1 X (List.mem_cons.2 (Or.inr (List.mem_cons.2 (Or.inl rfl))))).2 _ _ _ _ _
theorem HoldU.at12 (hh : HoldU u0 (Y :: X :: bs) w) (g : Bool) (A : Option Addr) (n c : Nat) (e : Int) (g' : Bool) (A' : Option Addr) (n' c' : Nat) (e' : Int) : Below u0.heap.size u0 (World.put (World.put w Y g A n c e) X g' A' n' c' e') :=
  below_put (hh.at1 g A n c e) (hh.2.1 X (List.mem_cons.2 (Or.inr (List.mem_cons.2 (Or.inl rfl))))).2 _ _ _ _ _
theorem HoldU.at21 (hh : HoldU u0 (Y :: X :: bs) w) (g : Bool) (A : Option Addr) (n c : Nat) (e : Int) (g' : Bool) (A' : Option Addr) (n' c' : Nat) (e' : Int) : Below u0.heap.size u0 (World.put (World.put w X g A n c e) Y g' A' n' c' e') :=
  below_put (hh.at2 g A n c e) (hh.2.1 Y (List.mem_cons.2 (Or.inl rfl))).2 _ _ _ _ _
end
/-- Two numbers in new blocks. -/
def RelU (u0 : World) (p : Nat) (g1 : Bool) (A1 : Option Addr) (m1 c1 : Nat) (E1 : Int) (V1 : Nat) (es1 : List Nat) (q : Nat) (g2 : Bool) (A2 : Option Addr) (m2 c2 : Nat) (E2 : Int) (V2 : Nat) (es2 : List Nat) (w : World) : Prop :=
  Below u0.heap.size u0 w ∧ Bd w p 30 g1 A1 m1 c1 E1 ∧ Mq w V1 A1 m1 c1 es1 ∧ Bd w q 30 g2 A2 m2 c2 E2 ∧ Mq w V2 A2 m2 c2 es2
section
variable {u0 : World} {g1 : Bool} {A1 : Option Addr} {m1 c1 : Nat} {E1 : Int} {V1 : Nat} {es1 : List Nat} {g2 : Bool} {A2 : Option Addr} {m2 c2 : Nat} {E2 : Int} {V2 : Nat} {es2 : List Nat} {w w' : World} {p q : Nat}
theorem RelU.swap (hh : RelU u0 p g1 A1 m1 c1 E1 V1 es1 q g2 A2 m2 c2 E2 V2 es2 w) : RelU u0 q g2 A2 m2 c2 E2 V2 es2 p g1 A1 m1 c1 E1 V1 es1 w :=
  ⟨hh.1, hh.2.2.2.1, hh.2.2.2.2, hh.2.1, hh.2.2.1⟩
theorem RelU.below (hh : RelU u0 p g1 A1 m1 c1 E1 V1 es1 q g2 A2 m2 c2 E2 V2 es2 w) (hb : Below w.heap.size w w') : RelU u0 p g1 A1 m1 c1 E1 V1 es1 q g2 A2 m2 c2 E2 V2 es2 w' :=
  ⟨hh.1.trans (hb.mono hh.1.size), hh.2.1.below hb, hh.2.2.1.below hb, hh.2.2.2.1.below hb, hh.2.2.2.2.below hb⟩
theorem RelU.six (hh : RelU u0 p g1 A1 m1 c1 E1 V1 es1 q g2 A2 m2 c2 E2 V2 es2 w) : Six w p g1 A1 m1 c1 E1 q g2 A2 m2 c2 E2 := hh.2.1.six hh.2.2.2.1
theorem RelU.mem1 (hh : RelU u0 p g1 A1 m1 c1 E1 V1 es1 q g2 A2 m2 c2 E2 V2 es2 w) : Mq w V1 A1 m1 c1 es1 := hh.2.2.1
theorem RelU.mem2 (hh : RelU u0 p g1 A1 m1 c1 E1 V1 es1 q g2 A2 m2 c2 E2 V2 es2 w) : Mq w V2 A2 m2 c2 es2 := hh.2.2.2.2
theorem RelU.old (hh : RelU u0 p g1 A1 m1 c1 E1 V1 es1 q g2 A2 m2 c2 E2 V2 es2 w) : Below u0.heap.size u0 w := hh.1
/-- Both blocks came last. -/
theorem RelU.new2 (hh : HoldU u0 [] w) (h1 : Mq w V1 A1 m1 c1 es1) (h2 : Mq w V2 A2 m2 c2 es2) :
    RelU u0 w.heap.size g1 A1 m1 c1 E1 V1 es1 (w.heap.size + 1) g2 A2 m2 c2 E2 V2 es2 ((w.alloc (.cells #[.bool g1, .slice A1 m1 c1, .int .i64 E1] 30)).alloc (.cells #[.bool g2, .slice A2 m2 c2, .int .i64 E2] 30)) := by
  have hb := below_2u w (.cells #[.bool g1, .slice A1 m1 c1, .int .i64 E1] 30) (.cells #[.bool g2, .slice A2 m2 c2, .int .i64 E2] 30)
  have b2 := Bd.new (w.alloc (.cells #[.bool g1, .slice A1 m1 c1, .int .i64 E1] 30)) 30 g2 A2 m2 c2 E2
  rw [World.size_alloc] at b2
  exact ⟨hh.1.trans (hb.mono hh.1.size), (Bd.new w _ _ _ _ _ _).alloc _, h1.below hb, b2, h2.below hb⟩
/-- One came ahead. -/
theorem RelU.new1 {X : Nat} (hh : HoldU u0 [X] w) (h1 : Mq w V1 A1 m1 c1 es1) (h2 : Mq w V2 A2 m2 c2 es2) :
    RelU u0 X g1 A1 m1 c1 E1 V1 es1 w.heap.size g2 A2 m2 c2 E2 V2 es2 ((World.put w X g1 A1 m1 c1 E1).alloc (.cells #[.bool g2, .slice A2 m2 c2, .int .i64 E2] 30)) := by
  obtain ⟨k1, k2⟩ := hh.2.1 X (List.mem_cons.2 (Or.inl rfl))
  have e1 := below_put hh.1 k2 g1 A1 m1 c1 E1
  have hb := below1 (World.put w X g1 A1 m1 c1 E1) (.cells #[.bool g2, .slice A2 m2 c2, .int .i64 E2] 30)
  have b2 := Bd.new (World.put w X g1 A1 m1 c1 E1) 30 g2 A2 m2 c2 E2
  rw [put_size] at b2
  exact ⟨e1.trans (hb.mono e1.size), (k1.put _ _ _ _ _).below hb, (h1.put k1 _ _ _ _ _).below hb, b2, (h2.put k1 _ _ _ _ _).below hb⟩
/-- Both came ahead. -/
theorem RelU.new0 {X Y : Nat} (hh : HoldU u0 [Y, X] w) (h1 : Mq w V1 A1 m1 c1 es1) (h2 : Mq w V2 A2 m2 c2 es2) :
    RelU u0 X g1 A1 m1 c1 E1 V1 es1 Y g2 A2 m2 c2 E2 V2 es2 (World.put (World.put w X g1 A1 m1 c1 E1) Y g2 A2 m2 c2 E2) ∧
    RelU u0 X g1 A1 m1 c1 E1 V1 es1 Y g2 A2 m2 c2 E2 V2 es2 (World.put (World.put w Y g2 A2 m2 c2 E2) X g1 A1 m1 c1 E1) := by
  obtain ⟨x1, x2⟩ := hh.2.1 X (List.mem_cons.2 (Or.inr (List.mem_cons.2 (Or.inl rfl))))
  obtain ⟨y1, y2⟩ := hh.2.1 Y (List.mem_cons.2 (Or.inl rfl))
  have hXY := (List.pairwise_cons.1 hh.2.2).1 X (List.mem_cons.2 (Or.inl rfl))
  constructor
  · have q1 := x1.put g1 A1 m1 c1 E1
    have q2 := y1.other (b' := X) (by omega) g1 A1 m1 c1 E1
    exact ⟨below_put (below_put hh.1 x2 _ _ _ _ _) y2 _ _ _ _ _, q1.other (by omega) _ _ _ _ _, (h1.put x1 _ _ _ _ _).put q2 _ _ _ _ _, q2.put _ _ _ _ _, (h2.put x1 _ _ _ _ _).put q2 _ _ _ _ _⟩
  · have q1 := y1.put g2 A2 m2 c2 E2
    have q2 := x1.other (b' := Y) (by omega) g2 A2 m2 c2 E2
    exact ⟨below_put (below_put hh.1 y2 _ _ _ _ _) x2 _ _ _ _ _, q2.put _ _ _ _ _, (h1.put y1 _ _ _ _ _).put q2 _ _ _ _ _, q1.other (by omega) _ _ _ _ _, (h2.put y1 _ _ _ _ _).put q2 _ _ _ _ _⟩
end

/-- One dyad in a new block. -/
def RelO (u0 : World) (p : Nat) (g : Bool) (A : Option Addr) (m c : Nat) (E : Int) (V : Nat) (es : List Nat) (w : World) : Prop :=
  Below u0.heap.size u0 w ∧ Bd w p 30 g A m c E ∧ Mq w V A m c es ∧ u0.heap.size ≤ p
section
variable {u0 : World} {g : Bool} {A : Option Addr} {m c : Nat} {E : Int} {V : Nat} {es : List Nat} {w : World}
theorem RelO.last (hh : HoldU u0 [] w) (h1 : Mq w V A m c es) : RelO u0 w.heap.size g A m c E V es (w.alloc (.cells #[.bool g, .slice A m c, .int .i64 E] 30)) :=
  ⟨hh.1.trans ((below1 w _).mono hh.1.size), Bd.new w _ _ _ _ _ _, h1.below (below1 w _), hh.1.size⟩
theorem RelO.ahead {X : Nat} (hh : HoldU u0 [X] w) (h1 : Mq w V A m c es) : RelO u0 X g A m c E V es (World.put w X g A m c E) :=
  ⟨hh.at1 _ _ _ _ _, hh.first.put _ _ _ _ _, h1.put hh.first _ _ _ _ _, (hh.2.1 X (List.mem_cons.2 (Or.inl rfl))).2⟩
end
/-- Three cells of an old block. -/
abbrev Lo3 (w : World) (p : Nat) (g : Bool) (A : Option Addr) (m c : Nat) (E : Int) : Prop := w.cell? ⟨p, 0, none⟩ = some (.bool g) ∧ w.cell? ⟨p, 1, none⟩ = some (.slice A m c) ∧ w.cell? ⟨p, 2, none⟩ = some (.int .i64 E)
abbrev Hi3 (w : World) (p : Nat) (g : Bool) (A : Option Addr) (m c : Nat) (E : Int) : Prop := w.cell? ⟨p, 3, none⟩ = some (.bool g) ∧ w.cell? ⟨p, 4, none⟩ = some (.slice A m c) ∧ w.cell? ⟨p, 5, none⟩ = some (.int .i64 E)
abbrev All6 (w : World) (p : Nat) (g : Bool) (A : Option Addr) (m c : Nat) (E : Int) (g' : Bool) (A' : Option Addr) (m' c' : Nat) (E' : Int) : Prop := w.cell? ⟨p, 0, none⟩ = some (.bool g) ∧ w.cell? ⟨p, 1, none⟩ = some (.slice A m c) ∧ w.cell? ⟨p, 2, none⟩ = some (.int .i64 E) ∧ w.cell? ⟨p, 3, none⟩ = some (.bool g') ∧ w.cell? ⟨p, 4, none⟩ = some (.slice A' m' c') ∧ w.cell? ⟨p, 5, none⟩ = some (.int .i64 E')
section
variable {w u : World} {b : Nat} {g1 : Bool} {A1 : Option Addr} {m1 c1 : Nat} {e1 : Int} {g2 : Bool} {A2 : Option Addr} {m2 c2 : Nat} {e2 : Int}
theorem Ib.lo3 (h : Ib w b g1 A1 m1 c1 e1 g2 A2 m2 c2 e2) (hb : Below w.heap.size w u) : Lo3 u b g1 A1 m1 c1 e1 := ⟨(h.below hb).x0, (h.below hb).x1, (h.below hb).x2⟩
theorem Ib.hi3 (h : Ib w b g1 A1 m1 c1 e1 g2 A2 m2 c2 e2) (hb : Below w.heap.size w u) : Hi3 u b g2 A2 m2 c2 e2 := ⟨(h.below hb).x3, (h.below hb).x4, (h.below hb).x5⟩
theorem Ib.all6 (h : Ib w b g1 A1 m1 c1 e1 g2 A2 m2 c2 e2) (hb : Below w.heap.size w u) : All6 u b g1 A1 m1 c1 e1 g2 A2 m2 c2 e2 := ⟨(h.below hb).x0, (h.below hb).x1, (h.below hb).x2, (h.below hb).x3, (h.below hb).x4, (h.below hb).x5⟩
end
theorem ub_nat_pos : 0 < ub := by rw [ub_eq]; exact Nat.two_pow_pos _
theorem swap_mul (a b c d : Int) : a * b * (c * d) = c * a * b * d := by simp [Int.mul_left_comm, Int.mul_comm]
theorem dw_at (g : Bool) (V : Nat) (e : Int) : dw g V e = (if g then -(V : Int) else (V : Int)) * ((2 ^ sh e : Nat) : Int) := by
  cases g
  · show ((V * 2 ^ sh e : Nat) : Int) = (V : Int) * _
    rw [Int.natCast_mul]
  · show -((V * 2 ^ sh e : Nat) : Int) = -(V : Int) * _
    rw [Int.natCast_mul, Int.neg_mul]
/-- So many times. -/
theorem un_mul {s : Nat} {L : Int} {a b : Dy} {g : Bool} {N : Nat} (ha : Un s L a) (hs : s ≤ 9000) (hL : L.natAbs < 2 ^ (s + 64)) (hb : mk g N 0 = some b) (hN : blen N ≤ 64) : ∃ d, mulO (mk a.neg a.V a.e) (mk b.neg b.V b.e) = some d ∧ Un s (if g then -((N : Int) * L) else (N : Int) * L) d := by
  obtain ⟨k1, k2, k3, k4⟩ := mk_fine hb
  have lb := mk_low hb (by decide) (by decide)
  have hb' : b.V ≠ 0 → b.e ≤ 64 := fun h => by
    obtain ⟨_, j2, j3⟩ := toldD_fine hb
    have := (j3 (by rw [← j2]; exact h)).2
    have := low_le_blen N
    rw [held_id (by decide) (by decide)] at *
    omega
  obtain ⟨a', h1⟩ := un_mkd ha hs hL a.neg
  have bm := blen_mono k4
  obtain ⟨b', h2⟩ : ∃ b', mk b.neg b.V b.e = some b' := mk_some k1.1 k1.2.1 (fun h => by have := hb' h; omega)
  have ua := un_made ha h1
  obtain ⟨m1, m2, m3, m4⟩ := mk_fine h2
  have lb' := mk_low h2 k1.1 k1.2.1
  have sa : blen a'.V ≤ s + 64 := by
    have := un_short ua hs
    exact blen_le_iff.2 (by omega)
  have sb : blen b'.V ≤ 64 := by have := blen_mono m4; omega
  have ea : a'.V ≠ 0 → -(s : Int) ≤ a'.e ∧ a'.e ≤ 64 := fun h => by
    rcases ua.2.1 with h' | h'
    · exact absurd h' h
    · have := un_top ua hs hL h
      have := blen_pos h
      exact ⟨h', by omega⟩
  have eb : b'.V ≠ 0 → 0 ≤ b'.e ∧ b'.e ≤ 200 := fun h => by
    have hbv : b.V ≠ 0 := fun h' => h (m3.2 h')
    have e2 := hb' hbv
    obtain ⟨_, j2, j3⟩ := toldD_fine h2
    have j4 := (j3 (by rw [← j2]; exact h)).2
    have := low_le_blen b.V
    rw [held_id k1.1 k1.2.1] at j4
    rcases lb with h' | h'
    · exact absurd h' hbv
    · omega
  have key : ∀ d, mulB a' b' = some d → (d.V = 0 ∨ -(s : Int) ≤ d.e) → Un s (if g then -((N : Int) * L) else (N : Int) * L) d := fun d hd hl => by
    obtain ⟨f1, f2⟩ := mulB_fine ua.1 m1 hd
    refine ⟨f1, hl, ?_⟩
    have hw : dw g N 0 = (if g then -(N : Int) else (N : Int)) * (ub : Int) := by
      rw [dw_at, ub_eq]
    rw [← ub_eq, ua.2.2, m2, k2, hw] at f2
    have up : (ub : Int) ≠ 0 := by
      have h9 := ub_nat_pos
      omega
    refine Int.eq_of_mul_eq_mul_right up ?_
    rw [f2]
    cases g
    · show L * (us s : Int) * ((N : Int) * (ub : Int)) = (N : Int) * L * (us s : Int) * (ub : Int)
      exact swap_mul _ _ _ _
    · show L * (us s : Int) * (-(N : Int) * (ub : Int)) = -((N : Int) * L) * (us s : Int) * (ub : Int)
      rw [Int.neg_mul, Int.mul_neg, Int.neg_mul, Int.neg_mul]
      rw [swap_mul]
  rw [h1, h2]
  show ∃ d, mulB a' b' = some d ∧ _
  by_cases hz : a'.V * b'.V = 0
  · have e : mulB a' b' = some ⟨false, 0, 0⟩ := by
      unfold mulB
      rw [if_neg (fun h => by rcases Nat.mul_eq_zero.1 hz with h' | h'; exact h.1 h'; exact h.2.1 h'), hz]
      rfl
    exact ⟨_, e, key _ e (Or.inl rfl)⟩
  · have za : a'.V ≠ 0 := fun h => hz (by rw [h, Nat.zero_mul])
    have zb : b'.V ≠ 0 := fun h => hz (by rw [h, Nat.mul_zero])
    have q1 := ea za
    have q2 := eb zb
    have e : mulB a' b' = some ⟨a'.neg != b'.neg, a'.V * b'.V, a'.e + b'.e⟩ := by
      unfold mulB toldD
      rw [if_neg (by omega), if_neg hz, if_neg (by omega)]
    exact ⟨_, e, key _ e (Or.inr (by show -(s : Int) ≤ a'.e + b'.e; omega))⟩

set_option maxHeartbeats 2000000 in
/-- dyad.Of of a number below 0. -/
theorem dof_neg (N : Nat) (h0 : N ≠ 0) (hn : N < 9223372036854775808) (g : Bool) (V : Nat) (E : Int) (w : World) (hT : Tab w) (hd : mk true N 0 = some ⟨g, V, E⟩) : Calls Tryz.prog 17 #[.int .i64 (-(N : Int))] w (Tells1 w g V 1 E) := by
  have a3 := below1 w (.cells #[.bool false, .slice none 0 0, .int .i64 0] 30)
  have HT := Lib.hid (hT.below a3)
  have Hb := Lib.hid (Bd.new w 30 false none 0 0 0)
  have HS := Lib.hid a3
  have Hd := Lib.hid hd
  obtain ⟨x, hx⟩ : ∃ x : Int, -(N : Int) = x := ⟨_, rfl⟩
  have H0 : Hid (∀ u, Calls Tryz.prog 47 #[.int .i64 x] u fun e w' => e = .returned (.int .u64 (N : Int)) ∧ u = w') := fun u => by
    have b1 : decide (x < 0) = true := decide_eq_true (by omega)
    obtain ⟨y, hy⟩ : ∃ y : Int, x + 1 = y := ⟨_, rfl⟩
    obtain ⟨z, hz⟩ : ∃ z : Nat, -y = (z : Int) := ⟨N - 1, by omega⟩
    obtain ⟨v, hv⟩ : ∃ v : Int, (z : Int) + 1 = v := ⟨_, rfl⟩
    have hz9 : z < 9223372036854775807 := by omega
    have hvN : v = (N : Int) := by omega
    have hy1 : -9223372036854775808 ≤ y := by omega
    have hy2 : y ≤ 0 := by omega
    have HvN := Lib.hid hvN
    clear hx hvN
    go_enter Tryz.func47, Tryz.ntmps47
    go_wp2
    go_ret
    exact ⟨ret_int HvN.out, rfl⟩
  have b1 : decide (x < 0) = true := decide_eq_true (by omega)
  rw [hx]
  clear a3 hT hd hx
  go_enter Tryz.func17, Tryz.ntmps17
  go_wp2_with fail
  refine (H0.out _).mono ?_
  rintro e w' ⟨rfl, rfl⟩
  go_wp2_with fail
  refine (of_any N (by omega) _).mono ?_
  rintro e w1 ⟨A1, m1, c1, zs, rfl, hm1, hl1, hb1, hv1, hB1⟩
  have HM := Lib.hid (make_any true A1 m1 c1 zs 0 w1 hl1 (by omega) (HT.out.below hB1))
  rw [hv1, Hd.out] at HM
  have Hb1 := Lib.hid (Hb.out.below hB1)
  have HS1 := Lib.hid (HS.out.trans (hB1.mono HS.out.size))
  clear hl1 hb1 hv1 hB1 HT Hb HS Hd H0
  go_wp2_with fail
  refine HM.out.mono ?_
  rintro e w2 ⟨g2, A2, m2, c2, us, E2, r2, rfl, hm2, hl2, hb2, his, hB2⟩
  obtain ⟨rfl, rfl, hz, rfl⟩ := his
  have k2 := Hb1.out.below hB2
  have Hfin : Hid (Tells1 w g2 V 1 E2 (.returned (.agg #[.bool g2, .slice A2 m2 c2, .int .i64 E2])) (World.put (w2.alloc (.cells #[.bool g2, .slice A2 m2 c2, .int .i64 E2] 30)) w.heap.size g2 A2 m2 c2 E2)) :=
    ⟨A2, m2, c2, us, rfl, by omega, (k2.alloc _).lim (hl2.alloc _) _ _ _ _ _, hb2, hz, below_put ((HS1.out.trans (hB2.mono HS1.out.size)).alloc (HS1.out.trans (hB2.mono HS1.out.size)).size _) (Nat.le_refl _) _ _ _ _ _⟩
  have y0 := fun o => (k2.alloc o).c0
  have y1 := fun o => (k2.alloc o).c1
  have y2 := fun o => (k2.alloc o).c2
  have yf := fun o => (k2.alloc o).fz
  clear k2 hB2 hl2 hb2 HM Hb1 HS1 hz
  go_wp2
  exact bodyPost_ret (v := .agg #[.bool g2, .slice A2 m2 c2, .int .i64 E2]) (by simp [results, Tryz.results17, go_sem, y0, y1, y2]) rfl Hfin.out
/-- A whole number as a dyad, and so many times. -/
theorem of_int (n : Int) (h1 : -1000000 ≤ n) (h2 : n ≤ 1000000) : ∃ b : Dy, (∀ u, Tab u → Calls Tryz.prog 17 #[.int .i64 n] u (Tells1 u b.neg b.V 1 b.e)) ∧
    ∀ (s : Nat) (L : Int) (a : Dy), Un s L a → s ≤ 9000 → L.natAbs < 2 ^ (s + 64) → ∃ d, mulO (mk a.neg a.V a.e) (mk b.neg b.V b.e) = some d ∧ Un s (n * L) d := by
  have hb : ∀ N : Nat, N ≤ 1000000 → blen N ≤ 64 := fun N hN => blen_le_iff.2 (Nat.lt_of_le_of_lt hN (by decide))
  rcases Int.lt_or_le n 0 with h | h
  · obtain ⟨N, hN⟩ : ∃ N : Nat, n = -(N : Int) := ⟨n.natAbs, by omega⟩
    have hN9 : N ≤ 1000000 := by omega
    have b9 := hb N hN9
    obtain ⟨b, hm⟩ := mk_some (g := true) (V := N) (e := 0) (by decide) (by decide) (fun _ => by omega)
    refine ⟨b, fun u hu => ?_, fun s L a ha hs hL => ?_⟩
    · rw [hN]
      exact dof_neg N (by omega) (by omega) b.neg b.V b.e u hu hm
    · obtain ⟨d, k1, k2⟩ := un_mul ha hs hL hm b9
      refine ⟨d, k1, ?_⟩
      rw [hN, Int.neg_mul]
      exact k2
  · obtain ⟨N, rfl⟩ := Int.eq_ofNat_of_zero_le h
    have hN9 : N ≤ 1000000 := by omega
    have b9 := hb N hN9
    obtain ⟨b, hm⟩ := mk_some (g := false) (V := N) (e := 0) (by decide) (by decide) (fun _ => by omega)
    refine ⟨b, fun u hu => dof_nat N (by omega) b.neg b.V b.e u hu hm, fun s L a ha hs hL => ?_⟩
    obtain ⟨d, k1, k2⟩ := un_mul ha hs hL hm b9
    exact ⟨d, k1, k2⟩
theorem mk_one_at {n : Int} (h1 : -1000000 ≤ n) (h2 : n ≤ 1000000) : mk false 1 n = some ⟨false, 1, n⟩ := by
  have e : low 1 = 0 := rfl
  unfold mk toldD
  rw [held_id (by omega) (by omega), e]
  have : (1 : Nat) / 2 ^ 0 = 1 := rfl
  rw [this, if_neg (by decide), if_neg (by omega)]
  congr 2
  omega
end Go.Proofs.YtpbggonfdaealaaGreatDoor
