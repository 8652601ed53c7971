/-
  The contract of ends: the last blocks.
-/
import Derived.Test.YtogaakokplobaaaDoorShaLaid
import Derived.Lib.SliceRun
import Derived.Deep.MidRow
import Derived.Deep.RegionHeld3
import Derived.Deep.DeepCutAuto
import Derived.Deep.Cut
namespace Go.Proofs.YtogaakokplobaaaDoor
open Go.RowKit

/-- 128 noughts. -/
def z128 : Array Value := u8A (List.replicate 128 0)
theorem zero2 (w : World) : (zeroValue 82).run Tryd.prog w = .ok (.agg z128) w := by kernel_rfl
theorem info2 : (Tryd.prog.info? 82).map (·.size) = some 128 := by kernel_rfl
theorem zero8 (w : World) : (zeroValue 5).run Tryd.prog w = .ok (.int .u8 0) w := by kernel_rfl

/-- clear, at its own run. -/
theorem wpList_clear {P : Program} {w w' : World} {ops : Array Oper} {rest : List Oper} {o : Oper} {a : Act} {Q : Exit → Act → World → Prop} (hgd : o.guard = none) (s : Operand) (t : TypeId)
    (ho : o.op = .call { callee := .builtin .clear, args := #[s], argTypes := #[t] }) (x : Value) (hx : a.eval s = x) (hrun : (Builtin.clear_ #[t] o.type #[x]).run P w = .ok (.tuple #[]) w')
    (h : wpList P ops Q rest (a.put o.dst (.tuple #[])) w') : wpList P ops Q (o :: rest) a w := by
  refine wpList_plain hgd fun K hK => ?_
  unfold Oper.wp
  simp [execOp, ho, resolve, invoke, builtin, hx, hrun, Result.andThen]
  exact hK _ _ h

/-- A block's first a bytes, the mark behind them, and noughts. -/
def markB (bs : List Int) (a : Nat) : List Int := bs.take a ++ 128 :: List.replicate (63 - a) 0
theorem markB_len {bs : List Int} (h : bs.length = 64) {a : Nat} (ha : a < 64) : (markB bs a).length = 64 := by simp [markB, h]; omega

theorem len41 : Tryd.prog.arrayLen 80 = 64 := by kernel_rfl
theorem elem41 : Tryd.prog.elem 80 = 5 := by kernel_rfl
/-- A block from place l on, as a slice. -/
def slB (b l : Nat) : Value := .slice (some (if 64 = l then ⟨b, 0, none⟩ else ⟨b, l, none⟩)) (64 - l) (64 - l)
theorem run_slB (b l : Nat) (h : l ≤ 64) (k : IntKind) (w : World) : (Instr.sliceAt 80 (.pointer (some ⟨b, 0, none⟩)) (some (.int k (l : Int))) none none).run Tryd.prog w = .ok (slB b l) w := by
  have hu : Tryd.prog.underlying 80 = some (.array (Tryd.prog.arrayLen 80) (Tryd.prog.elem 80)) := by rw [len41, elem41]; exact Tryd.underlying80
  rw [run_sliceAt_array_l w _ _ hu k (l : Int) (by omega) (by rw [len41]; omega), len41, elem41]
  have hi : ∀ w, (sizeOf 5).run Tryd.prog w = .ok 1 w := fun w => by kernel_rfl
  rw [hi]
  simp only [Result.andThen_ok, slicedAt, Int.toNat_natCast, Nat.mul_one, slB]
  by_cases e : 64 = l
  · simp [e]
  · rw [if_neg e, if_neg e, addHead]

/-- Cells of a block written one behind the other. -/
theorem Blk.setCells8 {b : Nat} {t : TypeId} : ∀ (vs : List Int) (o : Nat) (w : World) (l : List Int), Blk w b t (u8A l) → o + vs.length ≤ l.length →
    Blk (w.setCells b o (vs.map (Value.int .u8))) b t (u8A (l.take o ++ vs ++ l.drop (o + vs.length)))
  | [], o, _, l, h, _ => by
    simp only [List.length_nil, Nat.add_zero, List.append_nil, List.take_append_drop]
    exact h
  | v :: r, o, _, l, h, hl => by
    simp only [List.length_cons] at hl
    have ih := Blk.setCells8 r (o + 1) _ _ (h.set8 o v) (by simp; omega)
    have e : (l.set o v).take (o + 1) ++ r ++ (l.set o v).drop (o + 1 + r.length) = l.take o ++ v :: r ++ l.drop (o + (v :: r).length) := by
      rw [List.drop_set_of_lt (by omega), List.take_set, List.take_succ_eq_append_getElem (by omega), List.set_append_right _ _ (by simp; omega)]
      have hlt : (l.take o).length = o := by simp; omega
      simp only [hlt, Nat.sub_self, List.set_cons_zero, List.append_assoc, List.cons_append, List.nil_append, List.length_cons]
      have e2 : o + 1 + r.length = o + (r.length + 1) := by omega
      rw [e2]
    rw [e] at ih
    exact ih
theorem below_cells {B b : Nat} (hB : B ≤ b) : ∀ (vs : List Value) (o : Nat) (a w : World), Below B a w → Below B a (w.setCells b o vs)
  | [], _, _, _, h => h
  | v :: r, o, a, _, h => below_cells hB r (o + 1) a _ (h.setCell hB v)
theorem Blk.otherCells {b g : Nat} {t : TypeId} {cs : Array Value} (hne : b ≠ g) : ∀ (vs : List Value) (o : Nat) (w : World), Blk w b t cs → Blk (w.setCells g o vs) b t cs
  | [], _, _, h => h
  | v :: r, o, _, h => Blk.otherCells hne r (o + 1) _ (h.other v hne)

/-- The mark set, and what is behind it cleared. -/
theorem Blk.marked {w : World} {b : Nat} {t : TypeId} {bs : List Int} (h : Blk w b t (u8A bs)) (hb : bs.length = 64) {a : Nat} (ha : a < 64) :
    Blk ((w.setCell ⟨b, a, none⟩ (.int .u8 128)).setCells b (a + 1) (List.replicate (63 - a) (.int .u8 0))) b t (u8A (markB bs a)) := by
  have h1 := Blk.setCells8 (List.replicate (63 - a) 0) (a + 1) _ _ (h.set8 a 128) (by simp [hb]; omega)
  have e : (bs.set a 128).take (a + 1) ++ List.replicate (63 - a) 0 ++ (bs.set a 128).drop (a + 1 + (List.replicate (63 - a) (0 : Int)).length) = markB bs a := by
    rw [List.drop_eq_nil_of_le (by simp [hb]; omega), List.take_set, List.take_succ_eq_append_getElem (by omega), List.set_append_right _ _ (by simp; omega)]
    have hlt : (bs.take a).length = a := by simp; omega
    simp only [hlt, Nat.sub_self, List.set_cons_zero, List.append_nil, List.append_assoc, List.cons_append, List.nil_append]
    rfl
  rw [e, List.map_replicate] at h1
  exact h1
theorem run_clear_slB {w : World} {b l : Nat} {t : TypeId} {cs : List Int} (h : Blk w b t (u8A cs)) (hl : cs.length = 64) (h64 : l ≤ 64) (ty : TypeId) :
    (Builtin.clear_ #[22] ty #[slB b l]).run Tryd.prog w = .ok (.tuple #[]) (w.setCells b l (List.replicate (64 - l) (.int .u8 0))) := by
  unfold slB
  by_cases e : 64 = l
  · subst e
    simp [Builtin.clear_, run_underlying Tryd.underlying22, World.setCells]
  · rw [if_neg e]
    exact Lib.run_clear_slice w _ _ ty (.int .u8 0) Tryd.underlying22 zero8 rfl rfl b l (64 - l) (64 - l) (by omega) (fun j hj => by rw [h.cell8 (by omega)]; rfl) (fun j _ => h.free _)

/-- A block's cells written over others, one by one, as a literal of arrays is filled. -/
theorem fold8 (off : Nat) : ∀ (l : List Int) (i : Nat) (m : List Int), off + i + l.length ≤ m.length →
    ((l.map (Value.int .u8)).zipIdx i).foldl (fun cs x => cs.setIfInBounds (off + x.2) x.1) (u8A m) = u8A (m.take (off + i) ++ l ++ m.drop (off + i + l.length))
  | [], i, m, _ => by simp
  | v :: r, i, m, hl => by
    simp only [List.length_cons] at hl
    simp only [List.map_cons, List.zipIdx_cons, List.foldl_cons]
    rw [u8A_set, fold8 off r (i + 1) _ (by simp; omega)]
    have e : (m.set (off + i) v).take (off + (i + 1)) ++ r ++ (m.set (off + i) v).drop (off + (i + 1) + r.length) = m.take (off + i) ++ v :: r ++ m.drop (off + i + (v :: r).length) := by
      have e1 : off + (i + 1) = off + i + 1 := by omega
      rw [e1, List.drop_set_of_lt (by omega), List.take_set, List.take_succ_eq_append_getElem (by omega), List.set_append_right _ _ (by simp; omega)]
      have hlt : (m.take (off + i)).length = off + i := by simp; omega
      simp only [hlt, Nat.sub_self, List.set_cons_zero, List.append_assoc, List.cons_append, List.nil_append, List.length_cons]
      have e2 : off + i + 1 + r.length = off + i + (r.length + 1) := by omega
      rw [e2]
    rw [e]
theorem fill8 (off : Nat) (l m : List Int) (h : off + l.length ≤ m.length) :
    (u8A l).zipIdx.foldl (fun cs x => cs.setIfInBounds (off + x.2) x.1) (u8A m) = u8A (m.take off ++ l ++ m.drop (off + l.length)) := by
  have := fold8 off l 0 m (by omega)
  rw [Nat.add_zero] at this
  rw [← this, ← Array.foldl_toList]
  simp [u8A]
theorem info2z : (Tryd.prog.info? 82).map (fun i => i.zero) = some (some (.agg z128)) := by kernel_rfl
theorem built_two (l1 l2 : List Int) (h1 : l1.length = 64) (h2 : l2.length = 64) : Tryd.prog.built 82 [(0, .agg (u8A l1)), (1, .agg (u8A l2))] = some (u8A (l1 ++ l2)) := by
  have hu : Tryd.prog.underlying 82 = some (.array 2 80) := Tryd.underlying82
  obtain ⟨it, hit, hz⟩ := Option.map_eq_some_iff.1 info2z
  obtain ⟨ie, hie, hs⟩ := Option.map_eq_some_iff.1 infoB
  have hz2 : z128 = u8A (List.replicate 128 0) := rfl
  unfold Program.built
  simp only [hit, hu, hz, hie, hs, hz2, Instr.fill, Value.cells, Nat.zero_mul, Nat.one_mul, u8A_size, h1, h2]
  rw [fill8 0 l1 _ (by simp [h1])]
  rw [fill8 64 l2 _ (by simp [h1, h2])]
  have e : ∀ X : List Int, X.length = 128 → X.take 64 = l1 → X.take 64 ++ l2 ++ X.drop (64 + l2.length) = l1 ++ l2 := fun X hX hT => by
    rw [hT, List.drop_eq_nil_of_le (by omega), List.append_nil]
  rw [e _ (by simp [h1]) (by rw [h1, List.take_zero, List.nil_append, List.take_append_of_le_length (by omega), List.take_of_length_le (by omega)]), u8A_size]
  simp [h1]
theorem built_one (l1 : List Int) (h1 : l1.length = 64) : Tryd.prog.built 82 [(0, .agg (u8A l1))] = some (u8A (l1 ++ List.replicate 64 0)) := by
  have hu : Tryd.prog.underlying 82 = some (.array 2 80) := Tryd.underlying82
  obtain ⟨it, hit, hz⟩ := Option.map_eq_some_iff.1 info2z
  obtain ⟨ie, hie, hs⟩ := Option.map_eq_some_iff.1 infoB
  have hz2 : z128 = u8A (List.replicate 128 0) := rfl
  unfold Program.built
  simp only [hit, hu, hz, hie, hs, hz2, Instr.fill, Value.cells, Nat.zero_mul, u8A_size, h1]
  rw [fill8 0 l1 _ (by simp [h1])]
  simp [h1]

/-- A literal of one part, or two, of whatever many cells. -/
theorem wpList_build1 {P : Program} {ops : Array Oper} {rest : List Oper} {o : Oper} {a : Act} {w : World} {Q : Exit → Act → World → Prop} (hg : o.guard = none) (t : TypeId) (i : Nat) (x : Operand) (ho : o.op = .build t #[(i, x)])
    (v : Value) (hx : a.eval x = v) (cells : Array Value) (hb : P.built t [(i, v)] = some cells) (h : wpList P ops Q rest (a.put o.dst (.agg cells)) w) : wpList P ops Q (o :: rest) a w := by
  have e : (#[(i, x)].map fun (p : Nat × Operand) => (p.1, a.eval p.2)).toList = [(i, v)] := by simp [hx]
  exact wpList_build hg t #[(i, x)] ho (by rw [e, hb]; rfl) (by rw [e, hb]; exact h)
theorem wpList_build2 {P : Program} {ops : Array Oper} {rest : List Oper} {o : Oper} {a : Act} {w : World} {Q : Exit → Act → World → Prop} (hg : o.guard = none) (t : TypeId) (i j : Nat) (x y : Operand) (ho : o.op = .build t #[(i, x), (j, y)])
    (v u : Value) (hx : a.eval x = v) (hy : a.eval y = u) (cells : Array Value) (hb : P.built t [(i, v), (j, u)] = some cells) (h : wpList P ops Q rest (a.put o.dst (.agg cells)) w) : wpList P ops Q (o :: rest) a w := by
  have e : (#[(i, x), (j, y)].map fun (p : Nat × Operand) => (p.1, a.eval p.2)).toList = [(i, v), (j, u)] := by simp [hx, hy]
  exact wpList_build hg t #[(i, x), (j, y)] ho (by rw [e, hb]; rfl) (by rw [e, hb]; exact h)

/-- In a region that draws: what yields its value wherever S holds. -/
theorem yieldsIf_row {P : Program} {ops : Array Oper} {S : World → Prop} {op : Oper} {a : Act} (hw : Region.wanted op (yielded ops a.tmps) = true) (ty : TypeId) (x : Operand) (ho : op.op = .load ty x)
    (g : Nat) (hx : a.eval x = .pointer (some ⟨g, 0, none⟩)) (t : TypeId) (cs : Array Value) (d : TypeDesc) (hS : ∀ w, S w → Blk w g t cs)
    (hu : P.underlying ty = some d) (hd : (match d with | .struct _ | .array _ _ => true | _ => false) = true) (hi : (P.info? ty).map (·.size) = some cs.size) : YieldsIf P ops S op (.agg cs) a :=
  .inl ⟨hw, fun w hw' => by
    unfold execOp
    simp only [ho, hx, Instr.loadAt, Instr.sureAddr, Sem.run_bind, Sem.run_pure, Result.andThen_ok, run_loadVar_row w g t ty cs (0, 0) d (hS w hw') hu hd hi]⟩
theorem yieldsIf_build0 {P : Program} {ops : Array Oper} {S : World → Prop} {op : Oper} {a : Act} (hw : Region.wanted op (yielded ops a.tmps) = true) (t : TypeId) (ho : op.op = .build t #[]) (cells : Array Value) (hb : P.built t [] = some cells) :
    YieldsIf P ops S op (.agg cells) a :=
  .inl ⟨hw, fun w _ => by
    unfold execOp
    simp only [ho, Sem.run_bind, List.map_toArray, List.map_nil, run_build w t #[] cells hb, Result.andThen_ok]
    rfl⟩
theorem yieldsIf_move {P : Program} {ops : Array Oper} {S : World → Prop} {op : Oper} {a : Act} (hw : Region.wanted op (yielded ops a.tmps) = true) (x : Operand) (ho : op.op = .move x) (v : Value) (hx : a.eval x = v) : YieldsIf P ops S op v a :=
  .inl ⟨hw, fun w _ => by
    unfold execOp
    simp only [ho, hx]
    rfl⟩
theorem yieldsIf_build2 {P : Program} {ops : Array Oper} {S : World → Prop} {op : Oper} {a : Act} (hw : Region.wanted op (yielded ops a.tmps) = true) (t : TypeId) (i j : Nat) (x y : Operand) (ho : op.op = .build t #[(i, x), (j, y)])
    (v u : Value) (hx : a.eval x = v) (hy : a.eval y = u) (cells : Array Value) (hb : P.built t [(i, v), (j, u)] = some cells) : YieldsIf P ops S op (.agg cells) a :=
  .inl ⟨hw, fun w _ => by
    have e : #[(i, x), (j, y)].map (fun (p : Nat × Operand) => (p.1, a.eval p.2)) = #[(i, v), (j, u)] := by simp [hx, hy]
    unfold execOp
    simp only [ho, e, Sem.run_bind, run_build w t #[(i, v), (j, u)] cells hb, Result.andThen_ok]
    rfl⟩
/-- 64 noughts. -/
def z64 : List Int := List.replicate 64 0
theorem built_none : Tryd.prog.built 80 [] = some (u8A z64) := by kernel_rfl

/-- The last blocks, one behind the other. -/
def endsS (bs : List Int) (n : Nat) : List Int :=
  if n % 64 < 56 then lenK (markB bs (n % 64)) n 8 ++ List.replicate 64 0 else markB bs (n % 64) ++ lenK z64 n 8
theorem endsS_len {bs : List Int} (h : bs.length = 64) (n : Nat) : (endsS bs n).length = 128 := by
  unfold endsS
  have := markB_len h (a := n % 64) (by omega)
  split <;> simp [lenK_len, this, z64]

set_option maxRecDepth 100000 in
theorem ends_any (bs : List Int) (n : Nat) (w : World) (hb : bs.length = 64) (hn : n ≤ 1125899906842624) :
    Calls Tryd.prog 52 #[.agg (u8A bs), .int .u64 n] w fun e w' => e = .returned (.agg (u8A (endsS bs n))) ∧ Below w.heap.size w w' := by
  have H := Lib.hid hb
  have h1 : n % 64 < 64 := by omega
  have hz := zero2
  have HB0 := Lib.hid (show Blk ((w.alloc (.cells (u8A bs) 80)).alloc (.cells z128 82)) w.heap.size 80 (u8A bs) ∧ Blk ((w.alloc (.cells (u8A bs) 80)).alloc (.cells z128 82)) (w.heap.size + 1) 82 z128 ∧ Below w.heap.size w ((w.alloc (.cells (u8A bs) 80)).alloc (.cells z128 82)) from
    ⟨(Blk.new _ _ _).alloc _, Blk.new' (by simp) _ _, ((Below.refl _ _).alloc (Nat.le_refl _) _).alloc (by simp) _⟩)
  clear hb
  go_enter Tryd.func52, Tryd.ntmps52
  go_upto_region 1 with fail
  clear hz
  generalize (w.alloc (.cells (u8A bs) 80)).alloc (.cells z128 82) = w2 at HB0 ⊢
  have hc := HB0.out.1.cell8 (k := n % 64) (by rw [H.out]; exact h1)
  have hf := HB0.out.1.free (n % 64)
  have hsl := fun w' => run_slB w.heap.size (n % 64 + 1) (by omega) .u64 w'
  have e1 : ((n % 64 + 1 : Nat) : Int) = (n : Int) % 64 + 1 := by omega
  rw [e1] at hsl
  have hcl := run_clear_slB (HB0.out.1.set8 (n % 64) 128) (by simp [H.out]) (show n % 64 + 1 ≤ 64 by omega) 0
  have e2 : 64 - (n % 64 + 1) = 63 - n % 64 := by omega
  rw [e2] at hcl
  obtain ⟨w3, hw3⟩ : ∃ w3, w3 = (w2.setCell ⟨w.heap.size, n % 64, none⟩ (.int .u8 128)).setCells w.heap.size (n % 64 + 1) (List.replicate (63 - n % 64) (.int .u8 0)) := ⟨_, rfl⟩
  rw [← hw3] at hcl
  obtain ⟨ms, hms⟩ : ∃ ms, ms = markB bs (n % 64) := ⟨_, rfl⟩
  have HM := Lib.hid (show Blk w3 w.heap.size 80 (u8A ms) ∧ Blk w3 (w.heap.size + 1) 82 z128 ∧ Below w.heap.size w w3 ∧ ms.length = 64 ∧ ms = markB bs (n % 64) from by
    rw [hw3, hms]
    exact ⟨HB0.out.1.marked H.out h1, Blk.otherCells (by omega) _ _ _ (HB0.out.2.1.other _ (by simp)), below_cells (Nat.le_refl _) _ _ _ _ (HB0.out.2.2.setCell (Nat.le_refl _) _), markB_len H.out h1, rfl⟩)
  clear hw3 e1 e2 hms
  by_cases h56 : (n : Int) % 64 < 56
  · have hd : decide ((n : Int) % 64 < 56) = true := by simpa using h56
    have HE := Lib.hid (show endsS bs n = lenK ms n 8 ++ List.replicate 64 0 from by unfold endsS; rw [if_pos (by omega), ← HM.out.2.2.2.2])
    have HL := Lib.hid (show (lenK ms n 8).length = 64 from by rw [lenK_len]; exact HM.out.2.2.2.1)
    go_wp2_with (refine wpList_load_row rfl 80 (.tmp 2) rfl w.heap.size rfl 80 (u8A ms) (0, 0) _ HM.out.1 Tryd.underlying80 rfl (by rw [u8A_size, HM.out.2.2.2.1]; exact infoB) ?_)
    refine (withLength_any ms n _ HM.out.2.2.2.1 hn).mono ?_
    rintro e w4 ⟨rfl, hb4⟩
    have H4 := Lib.hid (show Blk w4 (w.heap.size + 1) 82 z128 ∧ Below w.heap.size w w4 from ⟨HM.out.2.1.below hb4 HM.out.2.1.lt, HM.out.2.2.1.trans (hb4.mono HM.out.2.2.1.size)⟩)
    clear hb4 hc hf hsl hcl hd h56
    go_wp2_with (first
      | (refine wpList_build1 rfl 82 0 (.tmp 17) rfl _ rfl _ (built_one (lenK ms n 8) HL.out) ?_)
      | (refine wpList_store_row rfl 82 (.tmp 4) (.tmp 18) rfl (w.heap.size + 1) (u8A (lenK ms n 8 ++ List.replicate 64 0)) rfl rfl 82 z128 H4.out.1 (by rw [u8A_size, List.length_append, HL.out]; exact info2) (by show (u8A _).size = _; rw [u8A_size, u8A_size, List.length_append, HL.out]; simp) (u8A_one _) ?_))
    rw [← HE.out] at *
    refine bodyPost_ret (v := .agg (u8A (endsS bs n))) (results_cell_row Tryd.results52 _ _ (w.heap.size + 1) 82 _ (0, 0) _ rfl (H4.out.1.setRow _) Tryd.underlying82 rfl (by rw [u8A_size, endsS_len H.out]; exact info2)) rfl ⟨rfl, below_setRow H4.out.2 (by omega) _⟩
  · have hd : decide ((n : Int) % 64 < 56) = false := by simpa using h56
    have HL := Lib.hid (show (lenK z64 n 8).length = 64 from by rw [lenK_len]; rfl)
    have HE := Lib.hid (show endsS bs n = ms ++ lenK z64 n 8 from by unfold endsS; rw [if_neg (by omega), ← HM.out.2.2.2.2])
    go_wp2_with fail
    clear hc hf hsl hcl hd h56
    refine wp_region_held_drew (S := fun w' => Blk w' w.heap.size 80 (u8A ms) ∧ (∃ cs : Array Value, cs.size = 128 ∧ Blk w' (w.heap.size + 1) 82 cs) ∧ Below w.heap.size w w') (by kernel_rfl) ⟨HM.out.1.drew, ⟨z128, (u8A_size _).trans (by simp), HM.out.2.1.drew⟩, HM.out.2.2.1.drew⟩ (fun hHeld => ?_)
    refine wpAnyH_take (i := 0) (v := .agg (u8A ms)) rfl (by kernel_rfl) (by kernel_rfl) (by kernel_rfl) (fun _ _ _ h => h) (yieldsIf_row (by rfl) 80 (.tmp 2) rfl w.heap.size rfl 80 (u8A ms) _ (fun _ h => h.1) Tryd.underlying80 rfl (by rw [u8A_size, HM.out.2.2.2.1]; exact infoB)) hHeld ?_
    simp only [Act.put, List.setIfInBounds_toArray]
    refine wpAnyH_take (i := 1) (v := .agg (u8A z64)) rfl (by kernel_rfl) (by kernel_rfl) (by kernel_rfl) (fun _ _ _ h => h) (yieldsIf_build0 (by rfl) 80 rfl _ built_none) hHeld ?_
    simp only [Act.put]
    refine wpAnyH_take (i := 2) (v := .int .u64 n) rfl (by kernel_rfl) (by kernel_rfl) (by kernel_rfl) (fun _ _ _ h => h) (yieldsIf_move (by rfl) (.tmp 1) rfl _ rfl) hHeld ?_
    simp only [Act.put]
    refine wpAnyH_ready (rs := [3]) (by kernel_rfl) (by simp) (AllReadyH.cons rfl (fun K hK => ?_) AllReadyH.nil)
    rw [if_pos (by rfl)]
    go_simp
    refine (withLength_any z64 n _ rfl hn).mono ?_
    rintro e w4 ⟨rfl, hb4⟩
    obtain ⟨cs0, hcs0, hblk0⟩ := hHeld.2.1
    refine hK.out _ _ ⟨hHeld.1.below hb4 hHeld.1.lt, ⟨cs0, hcs0, hblk0.below hb4 hblk0.lt⟩, hHeld.2.2.trans (hb4.mono hHeld.2.2.size)⟩ (fun hHeld => ?_)
    clear hK K hb4
    refine wpAnyH_take (i := 4) (v := .agg (u8A (ms ++ lenK z64 n 8))) rfl (by kernel_rfl) (by kernel_rfl) (by kernel_rfl) (fun _ _ _ h => h) (yieldsIf_build2 (by rfl) 82 0 1 (.tmp 19) (.tmp 22) rfl _ _ rfl rfl _ (built_two ms (lenK z64 n 8) HM.out.2.2.2.1 HL.out)) hHeld ?_
    refine wpAnyH_ready (rs := [5]) (by kernel_rfl) (by simp) (AllReadyH.cons rfl (fun K hK => ?_) AllReadyH.nil)
    rw [if_pos (by rfl)]
    have hlen : (ms ++ lenK z64 n 8).length = 128 := by rw [List.length_append, HL.out, HM.out.2.2.2.1]
    obtain ⟨cs1, hcs1, hblk1⟩ := hHeld.2.1
    refine wp_store_row 82 (.tmp 4) (.tmp 23) rfl (w.heap.size + 1) (u8A (ms ++ lenK z64 n 8)) rfl rfl 82 cs1 hblk1 (by rw [u8A_size, hlen]; exact info2) (by rw [hcs1, u8A_size, hlen]) (u8A_one _) ?_
    have hres := hblk1.setRow (u8A (ms ++ lenK z64 n 8))
    have hbel := below_setRow hHeld.2.2 (show w.heap.size ≤ w.heap.size + 1 by omega) (u8A (ms ++ lenK z64 n 8))
    refine hK.out _ _ ⟨hHeld.1.otherRow _ (by omega), ⟨_, (u8A_size _).trans hlen, hres⟩, hbel⟩ (fun _ => ?_)
    refine wpAnyH_done (by kernel_rfl) ?_ _
    clear hK K hHeld
    rw [← HE.out] at hres hbel ⊢
    go_wp2_with fail
    refine bodyPost_ret (v := .agg (u8A (endsS bs n))) (results_cell_row Tryd.results52 _ _ (w.heap.size + 1) 82 _ (0, 0) _ rfl hres Tryd.underlying82 rfl (by rw [u8A_size, endsS_len H.out]; exact info2)) rfl ⟨rfl, hbel⟩
end Go.Proofs.YtogaakokplobaaaDoor
