/- What an end becomes by so many bits, as the law IvShort asks it. -/
import Derived.Test.YtnkbdjbcfkflpaaDoorIvShortP
import Derived.Test.YtnkbdjbcfkflpaaDoorIvJ
import Derived.Test.YtnkbdjbcfkflpaaDoorIvEnd
namespace Go.Proofs.YtnkbdjbcfkflpaaDoor
open Go.RowKit

/-- What the law's end asks. -/
def EndF (d X : Dy) (b : Nat) : Prop := (d.V = 0 ∧ X.V = 0) ∨ (d.V ≠ 0 ∧ (X.V = 0 ∨ (blen d.V : Int) + d.e - b ≤ X.e) ∧ (d.e < (blen d.V : Int) + d.e - b ∨ dwD d = dwD X) ∧ (dwD d - dwD X).natAbs < sz 1 ((blen d.V : Int) + d.e - b))
/-- The contract of shorter at a number. -/
def ShC (b : Nat) (dir : Int) (d X : Dy) : Prop := ∀ (g : Bool) (A : Option Addr) (n c : Nat) (xs : List Nat) (e : Int) (u : World), mk g (val xs) e = some d → n ≤ 30000 → Lim u A n c xs → Tab u →
  Calls Tryd.prog 50 #[.agg #[.bool g, .slice A n c, .int .i64 e], .int .i64 (b : Int), .int .i64 dir] u (Told u (some X) 30400)
theorem short_end {d : Dy} {b k : Nat} {dir : Int} (hk : k ≤ 6000) (hd : Sp k d) (hb1 : 1 ≤ b) (hb2 : b ≤ 4096) (hbl : blen d.V ≤ b + 4096) (hdir : dir = 2 ∨ dir = 3) :
    ∃ X, ShC b dir d X ∧ Sp (k + 1) X ∧ blen X.V ≤ b ∧ (blen d.V ≤ b → X = d) ∧ EndF d X b ∧ (dir = 2 → dwD d ≤ dwD X) ∧ (dir = 3 → dwD X ≤ dwD d) := by
  by_cases h0 : d.V = 0
  · have hd9 : d = ⟨false, 0, 0⟩ := by
      have hf := hd.fine.2.2 h0
      obtain ⟨g, V, e⟩ := d
      dsimp only at h0 hf
      rw [h0, hf.1, hf.2]
    refine ⟨d, fun g A n c xs e u hm hn hl hT => ?_, hd.mono (by omega), by rw [h0, blen_nought]; omega, fun _ => rfl, Or.inl ⟨h0, h0⟩, fun _ => Int.le_refl _, fun _ => Int.le_refl _⟩
    have h := shorter_nil b dir d g A n c xs e u hl hn hT hm h0 hb1 hb2 hdir
    rw [← hd9] at h
    exact h
  · obtain ⟨U, H, B, v, V2, o, X, h1, h2, h3, h4, h5, h6, h7, h8, h9, h10⟩ := shx_ex hk hd h0 hb1 hb2 hdir
    refine ⟨X, fun g A n c xs e u hm hn hl hT => ?_, h2, h4, h5, Or.inr ⟨h0, Or.inr h6, h10.imp id fun h => by rw [h], h9⟩, h7, h8⟩
    exact shorter_yes b dir d X U H B v V2 o g A n c xs e u hl hn hT hm h0 hb1 hb2 hbl hdir (hd.mono (by omega)) h1
/-- The law's end of an end and what became of it. -/
theorem end_of {d X : Dy} {b : Nat} (hF : EndF d X b) (hd : Sp 3640 d) (hX : Sp 3641 X) (hb : b ≤ 4096) (A : Option Addr) (n c : Nat) (ds : List Nat) (B : Option Addr) (m k : Nat) (es : List Nat) (w : World) (hA : Dig w A n c ds) (hB : Dig w B m k es) (ba : D.Bare ds) (bb : D.Bare es) (hn : n ≤ 80) (hm : m ≤ 1000) (va : D.val ds = d.V) (vb : D.val es = X.V) :
    Calls Tryd.prog 26 #[.agg #[.bool d.neg, .slice A n c, .int .i64 d.e], .agg #[.bool X.neg, .slice B m k, .int .i64 X.e], .int .i64 (b : Int)] w fun e w' => e = .returned (.bool true) ∧ Below w.heap.size w w' := by
  have s1 := hd.2.1
  have s2 := hd.2.2
  have s3 := hX.2.1
  have s4 := hX.2.2
  rcases hF with ⟨h0, h1⟩ | ⟨h0, h1, h2, h3⟩
  · exact end_nil d.neg A n c ds d.e X.neg B m k es X.e b w hA hB ba bb (va.trans h0) (vb.trans h1)
  · exact end_yes d.neg A n c ds d.e X.neg B m k es X.e b _ w hA hB ba bb hn hm (by omega) (by omega) (by omega) (by omega) hb (by rw [va]; exact h0) (by rw [va]) (by rw [vb]; exact h1) (by rw [va, vb]; exact h2) (by rw [va, vb]; exact h3)
end Go.Proofs.YtnkbdjbcfkflpaaDoor
