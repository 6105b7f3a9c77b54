/- A communication within the walk of a function: a region whose first operation is a send, a receive or a select in one goroutine. No program is named here. -/
import Derived.Conc.LoneCalls
import Derived.Conc.LoneSelectN
import Derived.WalkKit
namespace Go.Proofs.Ytckakdhjnejgmaa
open Go.Conc Go.RowKit

/-- One step of the machine of one at a communication: v is what it hands over, w' the world behind it. -/
def Sel (P : Program) (cases : Array CommCase) (blocking : Bool) (shape : CommShape) (w : World) (v : Value) (w' : World) : Prop :=
  ∀ (fr : Frame) (cs : List Frame) (es : Array Event), stepG P true (G fr cs) w = .comm (G fr cs) cases blocking shape w es → step P (solo (G fr cs) w) = .next (solo (G (fr.finish v) cs) w')

/-- A region that begins with a communication. -/
theorem wp_region_sel {P : Program} {id : Nat} {ops : Array Oper} {Q : Exit → Act → World → Prop} {a : Act} {w w' : World} {o : Oper} {cases : Array CommCase} {blocking : Bool} {shape : CommShape} {v : Value} {rest : List Nat}
    (h0 : ops[0]? = some o) (hl : List.range ops.size = 0 :: rest) (hw : Region.wanted o (yielded ops a.tmps) = true)
    (hr : (execOp a.eval o).run P w = .ok (.comm cases blocking shape) w) (hs : Sel P cases blocking shape w v w')
    (h : wpOps P ops Q rest (a.put o.dst v) w') : (Code.region id ops false).wp P Q a w := by
  intro b k cs
  obtain ⟨e, a', w'', q, r⟩ := wp_ops rest _ _ h b k cs
  refine ⟨e, a', w'', q, .of_steps (.head step_region (.one ?_)) r⟩
  rw [hl]
  have hst : ∃ es, stepG P true (G (b.at a (.inRegion ops (0 :: rest) :: k)) cs) w = .comm (G (b.at a (.inRegion ops (0 :: rest) :: k)) cs) cases blocking shape w es := by
    rw [stepG_oper h0 hw]
    cases hb : (b.kind == CallKind.early) <;> simp [stepG.apply, hr, G, Frame.at, GStep.after, hb]
  obtain ⟨es, hst⟩ := hst
  have := hs _ _ _ hst
  rw [Frame.finish_at, h0] at this
  exact this

section
variable {P : Program} {w : World} {c cap s r : Nat} {buf : Array Value} {closed tm : Bool} {z v : Value}
theorem one_case {c' : CommCase} {m : Nat} {x : CommCase} (hm : m ≠ 0) (h : #[x][m]? = some c') : False := by
  rcases m with _ | m
  · exact hm rfl
  · simp at h
/-- select, one receive: something lies there. -/
theorem sel_recv (blocking : Bool) (hc : w.heap[c]? = some (.chan cap buf closed s r tm)) (hs : 0 < buf.size) :
    Sel P #[rcase c z] blocking .select w (.tuple #[goInt 0, .bool true, buf.getD 0 undef]) (w.setChan c cap (buf.extract 1 buf.size) closed s (r + 1) tm) := fun fr cs es h => by
  have := step_lone_sel_recv_buf (k := 0) h rfl (fun m c' hm hc' => (one_case hm hc').elim) hc hs
  rw [this]
  simp [commResult, rcase, List.zipIdx_cons]
/-- .. nothing lies there: the default. -/
theorem sel_recv_none (hc : w.heap[c]? = some (.chan cap buf false s r tm)) (hs : buf.size = 0) :
    Sel P #[rcase c z] false .select w (.tuple #[goInt (-1), .bool false, z]) w := fun fr cs es h => by
  obtain rfl : buf = #[] := Array.eq_empty_of_size_eq_zero hs
  have := step_lone_sel_default h (fun cc hcc => by
    simp only [List.mem_toArray, List.mem_cons, List.not_mem_nil, or_false] at hcc
    subst hcc
    exact noWay_recv hc)
  rw [this]
  simp [commResult, rcase, List.zipIdx_cons]
/-- select, one send: there is room. -/
theorem sel_send (blocking : Bool) (hc : w.heap[c]? = some (.chan cap buf false s r tm)) (hs : buf.size < cap) :
    Sel P #[scase c v z] blocking .select w (.tuple #[goInt 0, .bool false]) (w.setChan c cap (buf.push v) false (s + 1) r tm) := fun fr cs es h => by
  have := step_lone_sel_send_room (k := 0) h rfl (fun m c' hm hc' => (one_case hm hc').elim) hc hs
  rw [this]
  simp [commResult, scase, List.zipIdx_cons]
/-- .. there is none: the default. -/
theorem sel_send_none (hc : w.heap[c]? = some (.chan cap buf false s r tm)) (hs : cap ≤ buf.size) :
    Sel P #[scase c v z] false .select w (.tuple #[goInt (-1), .bool false]) w := fun fr cs es h => by
  have := step_lone_sel_default h (fun cc hcc => by
    simp only [List.mem_toArray, List.mem_cons, List.not_mem_nil, or_false] at hcc
    subst hcc
    exact noWay_send hc hs)
  rw [this]
  simp [commResult, scase, List.zipIdx_cons]
end

theorem range_cons (n : Nat) : List.range (n + 1) = 0 :: List.range' 1 n := by rw [List.range_eq_range', List.range'_succ]
section
variable {P : Program} {a : Act} {w w' : World} {Q : Exit → Act → World → Prop} {id c : Nat} {dst : Option Tmp} {ty e : TypeId} {pos : String} {os : List Oper} {blocking : Bool} {x y : Operand} {z u v : Value}
theorem run_select_recv {after : Array Edge} {guard : Option (Nat × Bool)} (hz : (zeroValue e).run P w = .ok z w) (hx : a.eval x = .chan (some c)) :
    (execOp a.eval { dst := dst, op := .select #[{ chan := x, send := none, elem := e }] blocking, type := ty, pos := pos, after := after, guard := guard }).run P w = .ok (.comm #[rcase c z] blocking .select) w := by
  generalize a.eval = ρ at hx ⊢
  unfold execOp
  simp [hx, hz, rcase, go_sem]
theorem run_select_send {after : Array Edge} {guard : Option (Nat × Bool)} (hz : (zeroValue e).run P w = .ok z w) (hx : a.eval x = .chan (some c)) (hy : a.eval y = u) :
    (execOp a.eval { dst := dst, op := .select #[{ chan := x, send := some y, elem := e }] blocking, type := ty, pos := pos, after := after, guard := guard }).run P w = .ok (.comm #[scase c u z] blocking .select) w := by
  generalize a.eval = ρ at hx hy ⊢
  unfold execOp
  simp [hx, hy, hz, scase, go_sem]
/-- A region that begins with a select of one receive. -/
theorem wp_sel_recv (hs : Sel P #[rcase c z] blocking .select w v w') (hz : (zeroValue e).run P w = .ok z w) (hx : a.eval x = .chan (some c))
    (h : wpList P ({ dst := dst, op := .select #[{ chan := x, send := none, elem := e }] blocking, type := ty, pos := pos, after := #[], guard := none } :: os).toArray Q os (a.put dst v) w') :
    (Code.region id ({ dst := dst, op := .select #[{ chan := x, send := none, elem := e }] blocking, type := ty, pos := pos, after := #[], guard := none } :: os).toArray false).wp P Q a w :=
  wp_region_sel (o := { dst := dst, op := .select #[{ chan := x, send := none, elem := e }] blocking, type := ty, pos := pos, after := #[], guard := none }) rfl (by simpa using range_cons os.length) rfl (run_select_recv hz hx) hs (by rw [wpOps_eq_wpList os 1 (fun j => by simp [Nat.add_comm 1 j])]; exact h)
/-- .. of one send. -/
theorem wp_sel_send (hs : Sel P #[scase c u z] blocking .select w v w') (hz : (zeroValue e).run P w = .ok z w) (hx : a.eval x = .chan (some c)) (hy : a.eval y = u)
    (h : wpList P ({ dst := dst, op := .select #[{ chan := x, send := some y, elem := e }] blocking, type := ty, pos := pos, after := #[], guard := none } :: os).toArray Q os (a.put dst v) w') :
    (Code.region id ({ dst := dst, op := .select #[{ chan := x, send := some y, elem := e }] blocking, type := ty, pos := pos, after := #[], guard := none } :: os).toArray false).wp P Q a w :=
  wp_region_sel (o := { dst := dst, op := .select #[{ chan := x, send := some y, elem := e }] blocking, type := ty, pos := pos, after := #[], guard := none }) rfl (by simpa using range_cons os.length) rfl (run_select_send hz hx hy) hs (by rw [wpOps_eq_wpList os 1 (fun j => by simp [Nat.add_comm 1 j])]; exact h)
end
end Go.Proofs.Ytckakdhjnejgmaa
