/-
  A region that draws its order and ends in a call and a store: its still head, operation by operation.
-/
import Derived.Test.YtogaakokplobaaaDoorShaPts
import Derived.Test.YtogaakokplobaaaDoorShaEnds
import Derived.Laws.OwnMore
import Derived.StillTailTactics
namespace Go.Proofs.YtogaakokplobaaaDoor
open Go.RowKit

/-- One operation of a still head, by its value. -/
theorem wpStill_yields {P : Program} {ops : Array Oper} {w : World} {S : World → Prop} {o : Oper} {a : Act} {v : Value} {rest : List Oper} {Q : Act → Prop} (hy : YieldsIf P ops S o v a) (hS : S w)
    (h : wpStill P ops w Q rest (a.put o.dst v)) : wpStill P ops w Q (o :: rest) a := by
  refine wpStill_step fun K hK => ?_
  rcases hy with ⟨hw, hv⟩ | ⟨hw, rfl⟩
  · rw [if_pos hw]
    unfold Oper.still
    rw [hv w hS, Oper.stillUpon_value]
    exact hK _ h
  · rw [hw, if_neg (by simp)]
    exact hK _ h
/-- A piece of a slice of one-cell elements. -/
theorem run_slice_both {P : Program} (w : World) (t e : TypeId) (A : Option Addr) (n c lo : Nat) (hi : Int) (k : Nat) (ht : P.underlying t = some (.slice e)) (hsz : ∀ w, (sizeOf e).run P w = .ok 1 w) (hh : hi = (lo : Int) + (k : Int)) (hk : lo + k ≤ c) :
    (Instr.sliceAt t (.slice A n c) (some (.int .i64 (lo : Int))) (some (.int .i64 hi)) none).run P w = .ok (.slice (if c = lo then A else A.map (·.add lo)) k (c - lo)) w := by
  subst hh
  have e1 : lo + k - lo = k := by omega
  have a1 : (0 : Int) ≤ (lo : Int) + (k : Int) := by omega
  have a2 : (lo : Int) + (k : Int) ≤ (c : Int) := by omega
  have a3 : ((lo : Int) + (k : Int)).toNat = lo + k := by omega
  simp [Instr.sliceAt, Instr.slice, run_underlying ht, Instr.sliceBounds, Instr.sliceBound, asIntOf, hsz, a1, a2, a3, e1]
theorem run_add64 (p : Nat) (h : p ≤ 1125899906971) (w : World) : (binOp .add 3 (.int .i64 (p : Int)) (.int .i64 64)).run Tryd.prog w = .ok (.int .i64 ((p : Int) + 64)) w := by
  have e : IntKind.i64.wrap ((p : Int) + 64) = (p : Int) + 64 := IntWalk.i64_in _ (by omega)
  simp [binOp, Op.intArith, e]
theorem yieldsIf_add {P : Program} {ops : Array Oper} {S : World → Prop} {op : Oper} {a : Act} (hw : Region.wanted op (yielded ops a.tmps) = true) (t t2 : TypeId) (x y : Operand) (ho : op.op = .binOp .add t x y t2) (vx vy v : Value)
    (hx : a.eval x = vx) (hy : a.eval y = vy) (hrun : ∀ w, (binOp .add t vx vy).run P w = .ok v w) : YieldsIf P ops S op v a :=
  .inl ⟨hw, fun w _ => by
    unfold execOp
    simp [ho, hx, hy, hrun, eqGuard]⟩
theorem yieldsIf_slice {P : Program} {ops : Array Oper} {S : World → Prop} {op : Oper} {a : Act} (hw : Region.wanted op (yielded ops a.tmps) = true) (t : TypeId) (x lo hi : Operand) (ho : op.op = .slice t x (some lo) (some hi) none) (vx vlo vhi v : Value)
    (hx : a.eval x = vx) (hlo : a.eval lo = vlo) (hhi : a.eval hi = vhi) (hrun : ∀ w, (Instr.sliceAt t vx (some vlo) (some vhi) none).run P w = .ok v w) : YieldsIf P ops S op v a :=
  .inl ⟨hw, fun w _ => by
    unfold execOp
    simp [ho, hx, hlo, hhi, hrun]⟩
end Go.Proofs.YtogaakokplobaaaDoor
