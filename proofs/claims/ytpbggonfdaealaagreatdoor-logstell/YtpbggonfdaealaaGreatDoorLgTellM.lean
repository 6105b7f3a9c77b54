/- What the walk of LogsTell rests on: the document's logarithm, any sign; how long it is. -/
import Derived.Test.YtpbggonfdaealaaGreatDoorLgHolds
namespace Go.Proofs.YtpbggonfdaealaaGreatDoor
open Go.RowKit

theorem dA_short {m X Y : Nat} (hm : 3 ≤ m) (hY : Y ≠ 0) (h3 : 3 * X ≤ Y) : dA (2 ^ m) X Y (m / 3 + 3) ≤ 2 ^ m := by
  obtain ⟨r, hr⟩ := frac_of (X := X) hY
  obtain ⟨r0, r1⟩ := frac_bd hY h3 hr
  have P8 : 8 ≤ 2 ^ m := by
    have : 2 ^ 3 ≤ 2 ^ m := Nat.pow_le_pow_right (by decide) hm
    omega
  have d := (dA_spec (P := 2 ^ m) (c := m / 3 + 3) P8 (Nat.pos_of_ne_zero hY) hr h3 (at_tail r0 r1 m)).1
  obtain ⟨y0, y1⟩ := third r0 r1
  have b := (hh_bd y0 y1 (m / 3 + 3) 0).2
  have b1 := rmul_le b r0
  have P0 := rnat_nonneg (2 ^ m)
  have a1 : atS r (m / 3 + 3) ≤ 1 := by unfold atS; grind
  have := rmul_le a1 P0
  refine cast_le ?_
  grind
theorem doc_short {A T m : Nat} {t : Int} (hA : A ≤ 2 ^ m) (hT : T ≤ 2 ^ m) (h1 : -1048576 ≤ t) (h2 : t ≤ 1048576) : (docV A T t).natAbs < 2 ^ (m + 30) := by
  have e : 2 ^ (m + 30) = 2 ^ m * 1073741824 := Nat.pow_add ..
  have p := Nat.two_pow_pos m
  rw [e]
  generalize 2 ^ m = P at *
  unfold docV
  have hk : T * t.natAbs ≤ P * 1048576 := Nat.mul_le_mul hT (by omega)
  have c : 2 * (T : Int) * (t.natAbs : Int) = 2 * ((T * t.natAbs : Nat) : Int) := by rw [Int.natCast_mul, Int.mul_assoc]
  rw [c]
  generalize T * t.natAbs = Z at *
  split <;> omega
/-- The document's logarithm. -/
theorem llog_l (V : Nat) (E : Int) (m Av Tv : Nat) (t : Int) (hV : V ≠ 0) (hb : blen V ≤ 4000) (hE1 : -1073741824 ≤ E) (hE2 : E ≤ 1073741824) (ht : rtop V E = t) (h1 : -1048576 ≤ t) (h2 : t ≤ 1048576) (hm3 : 3 ≤ m) (hm : m ≤ 500) (hAv : dA (2 ^ m) (dnX V) (dnY V) (m / 3 + 3) = Av) (hTv : dA (2 ^ m) 1 3 (m / 3 + 3) = Tv) :
    ∃ o : Dy, dw o.neg o.V o.e = docV Av Tv t * (us m : Int) ∧ o.e = -(m : Int) ∧ ∀ (A : Option Addr) (n c : Nat) (ds : List Nat) (w : World), Dig w A n c ds → D.Bare ds → D.val ds = V → n ≤ 290 →
      Calls Tryz.prog 15 #[.agg #[.bool false, .slice A n c, .int .i64 E], .int .i64 (m : Int)] w (NTold w o 60) := by
  obtain ⟨f1, f2, f3, f4⟩ := dn_facts hV
  have sA : Av ≤ 2 ^ m := by rw [← hAv]; exact dA_short hm3 f4 f3
  have sT : Tv ≤ 2 ^ m := by rw [← hTv]; exact dA_short hm3 (by decide) (by decide)
  have sd := doc_short sA sT h1 h2
  obtain ⟨o, o1, _, _, o2, _, _, o3⟩ := gadd_spec false (decide (t < 0)) (Av * 2) (Tv * 2 * t.natAbs) (-(m : Int)) (-(m : Int)) (by omega) (by omega) (by omega) (by omega) (by omega) (by omega)
  have oE : o.e = -(m : Int) := by omega
  have od : dw o.neg o.V o.e = docV Av Tv t * (us m : Int) := by
    rw [o1, dw_us, dw_us, ← Int.add_mul]
    congr 1
    unfold docV
    by_cases h0 : t < 0
    · rw [decide_eq_true h0, if_pos h0]
      show ((Av * 2 : Nat) : Int) + -((Tv * 2 * t.natAbs : Nat) : Int) = _
      rw [Int.natCast_mul, Int.natCast_mul, Int.natCast_mul, Int.mul_comm (Av : Int), Int.mul_comm (Tv : Int)]
      rfl
    · rw [decide_eq_false h0, if_neg h0]
      show ((Av * 2 : Nat) : Int) + ((Tv * 2 * t.natAbs : Nat) : Int) = _
      rw [Int.natCast_mul, Int.natCast_mul, Int.natCast_mul, Int.mul_comm (Av : Int), Int.mul_comm (Tv : Int)]
      rfl
  have oV : o.V < 2 ^ (m + 30) := by
    have h := od
    rw [oE, dw_us] at h
    have u : (us m : Int) ≠ 0 := by have := us_pos m; omega
    have h9 := Int.eq_of_mul_eq_mul_right u h
    have : o.V = (docV Av Tv t).natAbs := by
      rw [← h9]
      cases o.neg
      · exact (Int.natAbs_natCast _).symm
      · show _ = (-(o.V : Int)).natAbs
        rw [Int.natAbs_neg]
        exact (Int.natAbs_natCast _).symm
    rw [this]
    exact sd
  refine ⟨o, od, oE, fun A n c ds w hA ba hv hn => ?_⟩
  have tight : ∀ {w' : World} {e : Ending}, NTold w o 100001 e w' → NTold w o 60 e w' := fun h => by
    obtain ⟨A, m', c, ds, k1, k2, k3, k4, k5, k6⟩ := h
    exact ⟨A, m', c, ds, k1, dlen_le k3 k4 k5 oV (by omega), k3, k4, k5, k6⟩
  rcases Int.lt_or_le t 0 with h0 | h0
  · rw [decide_eq_true h0] at o3
    exact (llog_neg V E t.natAbs m Av Tv t o A n c ds w hA ba hv hn hV hb (by omega) (by omega) ht (by omega) (by omega) (by omega) (by omega) hAv hTv o3).mono fun e w' h => tight h
  · rw [decide_eq_false (by omega)] at o3
    exact (llog_pos V E t.natAbs m Av Tv t o A n c ds w hA ba hv hn hV hb (by omega) (by omega) ht (by omega) (by omega) (by omega) hAv hTv o3).mono fun e w' h => tight h
@[go_sem] theorem run_field_two (g : Bool) (A : Option Addr) (m c : Nat) (E : Int) (w : World) : (Instr.field 28 (.agg #[.bool g, .slice A m c, .int .i64 E]) 2).run Tryz.prog w = .ok (.int .i64 E) w := by kernel_rfl
theorem end_short {w : World} {s : Nat} {L : Int} {g : Bool} {A : Option Addr} {m c : Nat} {zs : List Nat} {e : Int} (hl : Lim w A m c zs) (hb : Bare zs) (h : Un s L ⟨g, val zs, e⟩) (hs : s ≤ 9000) (hL : L.natAbs < 2 ^ (s + 30)) : m ≤ 150 := by
  refine bare_le hl hb ?_
  have h1 := un_short h hs
  dsimp only at h1
  have := blen_le_iff.2 (Nat.lt_of_le_of_lt h1 hL)
  omega
theorem end_nought {w : World} {s : Nat} {g : Bool} {A : Option Addr} {m c : Nat} {zs : List Nat} {e : Int} (hl : Lim w A m c zs) (hb : Bare zs) (h : Un s 0 ⟨g, val zs, e⟩) (hs : s ≤ 9000) : m = 0 := by
  have h1 := un_short h hs
  dsimp only at h1
  have h2 : val zs = 0 := by
    have : (0 : Int).natAbs = 0 := rfl
    omega
  have := bare_le hl hb (k := 0) (by rw [h2]; exact Nat.zero_le _)
  omega
theorem far_up {L : Int} {s : Nat} (h : L.natAbs < 2 ^ (s + 30)) : L.natAbs < 2 ^ (s + 64) := Nat.lt_of_lt_of_le h (Nat.pow_le_pow_right (by decide) (by omega))
end Go.Proofs.YtpbggonfdaealaaGreatDoor
