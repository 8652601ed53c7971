/-
  What is wanted for regions that draw their order beside a header: single operations that yield their value, and results of which the first is a cell.
-/
import Derived.Test.YtogaakokplobaaaDoorSealSeal
import Derived.Deep.RegionHeld3
namespace Go.Proofs.YtogaakokplobaaaDoor
open Go.RowKit

theorem yieldsIf_sliceTo {P : Program} {ops : Array Oper} {S : World → Prop} {op : Oper} {a : Act} (hw : Region.wanted op (yielded ops a.tmps) = true) (t : TypeId) (x hi : Operand) (ho : op.op = .slice t x none (some hi) none) (vx vhi v : Value)
    (hx : a.eval x = vx) (hhi : a.eval hi = vhi) (hrun : ∀ w, (Instr.sliceAt t vx none (some vhi) none).run P w = .ok v w) : YieldsIf P ops S op v a :=
  .inl ⟨hw, fun w _ => by
    unfold execOp
    simp [ho, hx, hhi, hrun]⟩
theorem yieldsIf_sliceFrom {P : Program} {ops : Array Oper} {S : World → Prop} {op : Oper} {a : Act} (hw : Region.wanted op (yielded ops a.tmps) = true) (t : TypeId) (x lo : Operand) (ho : op.op = .slice t x (some lo) none none) (vx vlo v : Value)
    (hx : a.eval x = vx) (hlo : a.eval lo = vlo) (hrun : ∀ w, (Instr.sliceAt t vx (some vlo) none none).run P w = .ok v w) : YieldsIf P ops S op v a :=
  .inl ⟨hw, fun w _ => by
    unfold execOp
    simp [ho, hx, hlo, hrun]⟩
theorem yieldsIf_sliceOf {P : Program} {ops : Array Oper} {S : World → Prop} {op : Oper} {a : Act} (hw : Region.wanted op (yielded ops a.tmps) = true) (t : TypeId) (x lo hi : Operand) (ho : op.op = .slice t x (some lo) (some hi) none) (vx vlo vhi v : Value)
    (hx : a.eval x = vx) (hlo : a.eval lo = vlo) (hhi : a.eval hi = vhi) (hrun : ∀ w, (Instr.sliceAt t vx (some vlo) (some vhi) none).run P w = .ok v w) : YieldsIf P ops S op v a :=
  .inl ⟨hw, fun w _ => by
    unfold execOp
    simp [ho, hx, hlo, hhi, hrun]⟩
theorem yieldsIf_pickT {P : Program} {ops : Array Oper} {S : World → Prop} {op : Oper} {a : Act} (hw : Region.wanted op (yielded ops a.tmps) = true) (x y z : Operand) (ho : op.op = .pick x y z) (v : Value)
    (hx : a.eval x = .bool true) (hy : a.eval y = v) : YieldsIf P ops S op v a :=
  .inl ⟨hw, fun w _ => by
    unfold execOp
    simp [ho, hx, hy, asBool]⟩
theorem yieldsIf_pickF {P : Program} {ops : Array Oper} {S : World → Prop} {op : Oper} {a : Act} (hw : Region.wanted op (yielded ops a.tmps) = true) (x y z : Operand) (ho : op.op = .pick x y z) (v : Value)
    (hx : a.eval x = .bool false) (hz : a.eval z = v) : YieldsIf P ops S op v a :=
  .inl ⟨hw, fun w _ => by
    unfold execOp
    simp [ho, hx, hz, asBool]⟩
theorem yieldsIf_set {P : Program} {ops : Array Oper} {S : World → Prop} {op : Oper} {a : Act} (hw : Region.wanted op (yielded ops a.tmps) = true) (x : Operand) (ho : op.op = .assign x) (v : Value) (hx : a.eval x = v) : YieldsIf P ops S op v a :=
  .inl ⟨hw, fun w _ => by
    unfold execOp
    simp [ho, hx]⟩
theorem yieldsIf_leq {P : Program} {ops : Array Oper} {S : World → Prop} {op : Oper} {a : Act} (hw : Region.wanted op (yielded ops a.tmps) = true) (t t2 : TypeId) (x y : Operand) (ho : op.op = .binOp .leq t x y t2) (k : IntKind) (m n : Int) (b : Bool)
    (hx : a.eval x = .int k m) (hy : a.eval y = .int k n) (hb : decide (m ≤ n) = b) (hrun : ∀ w, (binOp .leq t (.int k m) (.int k n)).run P w = .ok (.bool (decide (m ≤ n))) w) : YieldsIf P ops S op (.bool b) a :=
  .inl ⟨hw, fun w _ => by
    unfold execOp
    simp [ho, hx, hy, hrun, hb, eqGuard]⟩
theorem yieldsIf_sub {P : Program} {ops : Array Oper} {S : World → Prop} {op : Oper} {a : Act} (hw : Region.wanted op (yielded ops a.tmps) = true) (t t2 : TypeId) (x y : Operand) (ho : op.op = .binOp .sub t x y t2) (vx vy v : Value)
    (hx : a.eval x = vx) (hy : a.eval y = vy) (hrun : ∀ w, (binOp .sub t vx vy).run P w = .ok v w) : YieldsIf P ops S op v a :=
  .inl ⟨hw, fun w _ => by
    unfold execOp
    simp [ho, hx, hy, hrun, eqGuard]⟩
theorem yieldsIf_no {P : Program} {ops : Array Oper} {S : World → Prop} {op : Oper} {a : Act} (hw : Region.wanted op (yielded ops a.tmps) = true) (t : TypeId) (x : Operand) (ho : op.op = .unOp .not t x) (b : Bool)
    (hx : a.eval x = .bool b) : YieldsIf P ops S op (.bool (!b)) a :=
  .inl ⟨hw, fun w _ => by
    unfold execOp
    simp only [ho, hx]
    rfl⟩
theorem yieldsIf_not {P : Program} {ops : Array Oper} {S : World → Prop} {op : Oper} {a : Act} (hw : Region.wanted op (yielded ops a.tmps) = false) : YieldsIf P ops S op undef a := .inr ⟨hw, rfl⟩

theorem results_cs {P : Program} {fn : Func} {p q : Tmp} {ty : TypeId} (h : fn.results = #[.cell p ty, .tmp q]) (tmps : Array Value) (w : World) (g : Nat) (t : TypeId) (cs : Array Value) (fr : Nat × Nat) (d : TypeDesc)
    (hp : tmps.getD p undef = .pointer (some ⟨g, 0, none⟩)) (hg : w.heap[g]? = some (.cells cs t fr))
    (hu : P.underlying ty = some d) (hd : (match d with | .struct _ | .array _ _ => true | _ => false) = true) (hi : (P.info? ty).map (·.size) = some cs.size) (v : Value) (hv : tmps.getD q undef = v) :
    (results fn tmps).run P w = .ok (.tuple #[.agg cs, v]) w := by
  have hp' : tmps[p]?.getD undef = .pointer (some ⟨g, 0, none⟩) := by simpa using hp
  have hv' : tmps[q]?.getD undef = v := by simpa using hv
  simp [results, h, hp', hv', asAddr, run_loadVar_row w g t ty cs fr d hg hu hd hi]
theorem results_css {P : Program} {fn : Func} {p q r : Tmp} {ty : TypeId} (h : fn.results = #[.cell p ty, .tmp q, .tmp r]) (tmps : Array Value) (w : World) (g : Nat) (t : TypeId) (cs : Array Value) (fr : Nat × Nat) (d : TypeDesc)
    (hp : tmps.getD p undef = .pointer (some ⟨g, 0, none⟩)) (hg : w.heap[g]? = some (.cells cs t fr))
    (hu : P.underlying ty = some d) (hd : (match d with | .struct _ | .array _ _ => true | _ => false) = true) (hi : (P.info? ty).map (·.size) = some cs.size) (v u : Value) (hv : tmps.getD q undef = v) (hr : tmps.getD r undef = u) :
    (results fn tmps).run P w = .ok (.tuple #[.agg cs, v, u]) w := by
  have hp' : tmps[p]?.getD undef = .pointer (some ⟨g, 0, none⟩) := by simpa using hp
  have hv' : tmps[q]?.getD undef = v := by simpa using hv
  have hr' : tmps[r]?.getD undef = u := by simpa using hr
  simp [results, h, hp', hv', hr', asAddr, run_loadVar_row w g t ty cs fr d hg hu hd hi]

theorem num1_len {zs : List Int} {n : Nat} (h1 : 1 ≤ n) (h8 : n ≤ 8) (hl : n ≤ zs.length) : num1 zs 0 (n : Int) = (valL 0 (zs.take n), zs.drop n, 0) := by
  unfold num1
  rw [if_neg (by simp), if_neg (by omega), if_neg (by omega)]
  simp
theorem hdA_one (h : Hd) : (hdA h).all (·.oneCell') = true := by
  simp [hdA, Value.oneCell']
theorem underH : ∃ d, Tryd.prog.underlying 26 = some d ∧ (match d with | .struct _ | .array _ _ => true | _ => false) = true := ⟨_, Tryd.underlying26, rfl⟩

/-- Four cells of a block written. -/
def put4 (w : World) (b : Nat) (v0 v1 v2 v3 : Value) : World :=
  (((w.setCell ⟨b, 0, none⟩ v0).setCell ⟨b, 1, none⟩ v1).setCell ⟨b, 2, none⟩ v2).setCell ⟨b, 3, none⟩ v3
section
variable {w : World} {b : Nat} {v0 v1 v2 v3 : Value}

theorem put4_blk {u0 u1 u2 u3 : Value} {t : TypeId} (h : Blk w b t #[u0, u1, u2, u3]) : Blk (put4 w b v0 v1 v2 v3) b t #[v0, v1, v2, v3] := by
  have e0 := heap_setCell_same w b 0 _ t v0 h
  have e1 := heap_setCell_same _ b 1 _ t v1 e0
  have e2 := heap_setCell_same _ b 2 _ t v2 e1
  have e3 := heap_setCell_same _ b 3 _ t v3 e2
  exact e3
theorem put4_other {k : Nat} (hk : k ≠ b) : (put4 w b v0 v1 v2 v3).heap[k]? = w.heap[k]? := by
  unfold put4
  rw [heap_setCell_other _ _ _ _ hk, heap_setCell_other _ _ _ _ hk, heap_setCell_other _ _ _ _ hk, heap_setCell_other _ _ _ _ hk]
theorem put4_below {w0 : World} {N : Nat} (h : Below N w0 w) (hb : N ≤ b) : Below N w0 (put4 w b v0 v1 v2 v3) :=
  (((h.setCell (p := ⟨b, 0, none⟩) hb v0).setCell (p := ⟨b, 1, none⟩) hb v1).setCell (p := ⟨b, 2, none⟩) hb v2).setCell (p := ⟨b, 3, none⟩) hb v3
end

/-- The cells of a header's block that holds noughts, and that they may be written. -/
theorem Blk.zeros {w : World} {b : Nat} {t : TypeId} (h : Blk w b t (hdA hd0)) :
    (w.cell? ⟨b, 0, none⟩ = some (.int .u8 0) ∧ w.cell? ⟨b, 1, none⟩ = some (.bool false) ∧ w.cell? ⟨b, 2, none⟩ = some (.int .u32 0) ∧ w.cell? ⟨b, 3, none⟩ = some (.int .u64 0)) ∧
      (w.frozen? ⟨b, 0, none⟩ = false ∧ w.frozen? ⟨b, 1, none⟩ = false ∧ w.frozen? ⟨b, 2, none⟩ = false ∧ w.frozen? ⟨b, 3, none⟩ = false) :=
  ⟨⟨(h.cell 0).trans rfl, (h.cell 1).trans rfl, (h.cell 2).trans rfl, (h.cell 3).trans rfl⟩, h.free 0, h.free 1, h.free 2, h.free 3⟩
end Go.Proofs.YtogaakokplobaaaDoor
