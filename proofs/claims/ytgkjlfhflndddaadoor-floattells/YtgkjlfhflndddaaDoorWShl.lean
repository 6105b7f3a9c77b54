/- The walk of nat.Shl. -/
import Derived.Test.YtgkjlfhflndddaaDoorWShr
namespace Go.Proofs.YtgkjlfhflndddaaDoor
open Go.RowKit

theorem shl_word (x q p : Nat) (hq : q < 2 ^ p) (hp : p < 64) : x % 2 ^ (64 - p) * 2 ^ p + q < 18446744073709551616 := by
  have h64 := pow64 (p := p) (by omega)
  have h2 : (x % 2 ^ (64 - p) + 1) * 2 ^ p ≤ 2 ^ (64 - p) * 2 ^ p := Nat.mul_le_mul_right _ (Nat.mod_lt _ (Nat.pow_pos (by decide)))
  rw [Nat.add_mul, Nat.one_mul, Nat.mul_comm (2 ^ (64 - p)), ← h64] at h2
  omega
theorem shl_or (x q p : Nat) (hq : q < 2 ^ p) (hp : p < 64) :
    bits BinOp.or IntKind.u64 (q : Int) (IntKind.u64.wrap ((x : Int) * 2 ^ p)) = ((x % 2 ^ (64 - p) * 2 ^ p + q : Nat) : Int) := by
  have h64 := pow64 (p := p) (by omega)
  have e2 : IntKind.u64.wrap ((x : Int) * 2 ^ p) = ((x % 2 ^ (64 - p) * 2 ^ p : Nat) : Int) := by
    rw [IntKind.wrap_u64, show (x : Int) * 2 ^ p = ((x * 2 ^ p : Nat) : Int) from by simp]
    rw [show (18446744073709551616 : Int) = ((18446744073709551616 : Nat) : Int) from rfl, ← Int.natCast_emod, h64, Nat.mul_comm (2 ^ p), Nat.mul_mod_mul_right]
  have hw := shl_word x q p hq hp
  rw [e2, bits_or_u64_nat _ _ (Nat.lt_of_le_of_lt (Nat.le_add_left _ _) hw) (Nat.lt_of_le_of_lt (Nat.le_add_right _ _) hw)]
  have e3 := Nat.shiftLeft_add_eq_or_of_lt hq (x % 2 ^ (64 - p))
  rw [Nat.shiftLeft_eq] at e3
  rw [Nat.or_comm, ← e3]
theorem shl_carry (x p : Nat) (hx : x < 18446744073709551616) (hp : p < 64) : x / 2 ^ (64 - p) < 2 ^ p := by
  have h64 := pow64 (p := p) (by omega)
  rw [Nat.div_lt_iff_lt_mul (Nat.pow_pos (by decide)), ← h64]
  exact hx
theorem shl_step {x q p wh k Z V : Nat} (hp : p < 64) (h : Z + pw (wh + k) * q = 2 ^ (64 * wh + p) * V) :
    Z + pw (wh + k) * (x % 2 ^ (64 - p) * 2 ^ p + q) + pw (wh + k + 1) * (x / 2 ^ (64 - p)) = 2 ^ (64 * wh + p) * (V + pw k * x) := by
  have h64 := pow64 (p := p) (by omega)
  have e1 : pw (wh + k + 1) * (x / 2 ^ (64 - p)) = pw (wh + k) * (2 ^ (64 - p) * (x / 2 ^ (64 - p)) * 2 ^ p) := by
    rw [pw_succ, h64]
    simp only [Nat.mul_assoc, Nat.mul_comm, Nat.mul_left_comm]
  have e2 : pw (wh + k) * (x % 2 ^ (64 - p) * 2 ^ p) + pw (wh + k) * (2 ^ (64 - p) * (x / 2 ^ (64 - p)) * 2 ^ p) = 2 ^ (64 * wh + p) * (pw k * x) := by
    rw [← Nat.mul_add, ← Nat.add_mul, Nat.mod_add_div, pw_add, pw_two wh, Nat.pow_add]
    simp only [Nat.mul_assoc, Nat.mul_comm, Nat.mul_left_comm]
  rw [e1, Nat.mul_add (pw (wh + k)), Nat.mul_add (2 ^ (64 * wh + p)), ← e2, ← h]
  omega
theorem val_zerosL (n : Nat) : val (List.replicate n 0) = 0 := by
  induction n with
  | zero => rfl
  | succ n ih => rw [List.replicate_succ, val, ih]
theorem Fill.zeros {w : World} {t L n : Nat} (hn : n ≤ L) : Fill w (w.alloc (.cells (madeCells #[.int .u64 0] L) t)) w.heap.size t L (List.replicate n 0) :=
  ⟨(Below.refl _ _).alloc (Nat.le_refl _) _, (World.rowIs_made w (.int .u64 0) L t).congr (fun j _ => by
    rw [List.getD_eq_getElem?_getD, List.getElem?_replicate]; split <;> rfl), by simp; omega, fun x hx => by rw [(List.mem_replicate.1 hx).2]; decide⟩






end Go.Proofs.YtgkjlfhflndddaaDoor
