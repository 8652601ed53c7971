/-
  Pens, cells: compared by value.
-/
import Derived.Test.YtbjgjhhombalpaaCellLeaf
import Derived.Laws.StructEq
namespace Go.Proofs.Ytbjgjhhombalpaa
open Go.RowKit

theorem fieldsPn : ((Try.prog.fieldsOf 49).toList.map fun f => (f.name != "_", f.type, f.offset)) = [(true, 47, 0), (true, 47, 1), (true, 5, 2), (true, 31, 3)] := by kernel_rfl
theorem fieldsCe : ((Try.prog.fieldsOf 51).toList.map fun f => (f.name != "_", f.type, f.offset)) = [(true, 21, 0), (true, 5, 1), (true, 49, 2)] := by kernel_rfl
theorem beqB (x y : Bool) (w : World) (e : x = y) : (Result.ok x w : Result Bool) = .ok y w := by rw [e]
theorem pn_equal (a b : Pn) (d : Nat) (w : World) : (Op.equalIn (d + 2) 49 (.agg (pnA a)) (.agg (pnA b))).run Try.prog w = .ok (decide (a = b)) w := by
  rw [run_equalIn_agg w (d + 1) 49 _ _ (by kernel_rfl) (by kernel_rfl)]
  have hf := fieldsPn
  obtain ⟨fs, hfs⟩ : ∃ fs, fs = (Try.prog.fieldsOf 49).toList := ⟨_, rfl⟩
  rw [← hfs] at hf ⊢
  clear hfs
  obtain ⟨f0, f1, f2, f3, rfl⟩ : ∃ f0 f1 f2 f3, fs = [f0, f1, f2, f3] := by
    match fs, (show fs.length = 4 by simpa using congrArg List.length hf) with
    | [f0, f1, f2, f3], _ => exact ⟨f0, f1, f2, f3, rfl⟩
  simp only [List.map_cons, List.map_nil, List.cons.injEq, Prod.mk.injEq, and_true, bne_iff_ne] at hf
  obtain ⟨⟨h0, h1, h2⟩, ⟨h3, h4, h5⟩, ⟨h6, h7, h8⟩, h9, h10, h11⟩ := hf
  have p0 : ∀ (x : Pn) (w : World), (part 47 (pnA x) 0).run Try.prog w = .ok (.int .u32 x.fg) w := fun x w => by kernel_rfl
  have p1 : ∀ (x : Pn) (w : World), (part 47 (pnA x) 1).run Try.prog w = .ok (.int .u32 x.bg) w := fun x w => by kernel_rfl
  have p2 : ∀ (x : Pn) (w : World), (part 5 (pnA x) 2).run Try.prog w = .ok (.int .u8 x.st) w := fun x w => by kernel_rfl
  have p3 : ∀ (x : Pn) (w : World), (part 31 (pnA x) 3).run Try.prog w = .ok (.int .u16 x.lk) w := fun x w => by kernel_rfl
  have q0 : ∀ (x y : Int) (w : World), (Op.equalIn (d + 1) 47 (.int .u32 x) (.int .u32 y)).run Try.prog w = .ok (x == y) w := fun x y w => run_equalIn_int w d _ _ _ _ _ Try.underlying47
  have q2 : ∀ (x y : Int) (w : World), (Op.equalIn (d + 1) 5 (.int .u8 x) (.int .u8 y)).run Try.prog w = .ok (x == y) w := fun x y w => run_equalIn_int w d _ _ _ _ _ Try.underlying5
  have q3 : ∀ (x y : Int) (w : World), (Op.equalIn (d + 1) 31 (.int .u16 x) (.int .u16 y)).run Try.prog w = .ok (x == y) w := fun x y w => run_equalIn_int w d _ _ _ _ _ Try.underlying31
  simp only [Op.eqFields, h0, h1, h2, h3, h4, h5, h6, h7, h8, h9, h10, h11, ne_eq, not_false_eq_true, if_true, Sem.run_bind, p0, q0, Result.andThen_ok]
  have hab : (a = b) ↔ (a.fg = b.fg ∧ a.bg = b.bg ∧ a.st = b.st ∧ a.lk = b.lk) := ⟨fun e => by rw [e]; exact ⟨rfl, rfl, rfl, rfl⟩, fun h => Pn.ext' h.1 h.2.1 h.2.2.1 h.2.2.2⟩
  by_cases e0 : a.fg = b.fg <;> by_cases e1 : a.bg = b.bg <;> by_cases e2 : a.st = b.st <;> by_cases e3 : a.lk = b.lk <;> simp [e0, e1, e2, e3, hab, p1, p2, p3, q0, q2, q3]
theorem ce_equal (a b : Ce) (d : Nat) (w : World) : (Op.equalIn (d + 3) 51 (.agg (ceA a)) (.agg (ceA b))).run Try.prog w = .ok (decide (a = b)) w := by
  rw [run_equalIn_agg w (d + 2) 51 _ _ (by kernel_rfl) (by kernel_rfl)]
  have hf := fieldsCe
  obtain ⟨fs, hfs⟩ : ∃ fs, fs = (Try.prog.fieldsOf 51).toList := ⟨_, rfl⟩
  rw [← hfs] at hf ⊢
  clear hfs
  obtain ⟨f0, f1, f2, rfl⟩ : ∃ f0 f1 f2, fs = [f0, f1, f2] := by
    match fs, (show fs.length = 3 by simpa using congrArg List.length hf) with
    | [f0, f1, f2], _ => exact ⟨f0, f1, f2, rfl⟩
  simp only [List.map_cons, List.map_nil, List.cons.injEq, Prod.mk.injEq, and_true, bne_iff_ne] at hf
  obtain ⟨⟨h0, h1, h2⟩, ⟨h3, h4, h5⟩, h6, h7, h8⟩ := hf
  have p0 : ∀ (x : Ce) (w : World), (part 21 (ceA x) 0).run Try.prog w = .ok (.int .i32 x.r) w := fun x w => by kernel_rfl
  have p1 : ∀ (x : Ce) (w : World), (part 5 (ceA x) 1).run Try.prog w = .ok (.int .u8 x.wd) w := fun x w => by kernel_rfl
  have p2 : ∀ (x : Ce) (w : World), (part 49 (ceA x) 2).run Try.prog w = .ok (.agg (pnA x.p)) w := fun x w => by kernel_rfl
  have q0 : ∀ (x y : Int) (w : World), (Op.equalIn (d + 2) 21 (.int .i32 x) (.int .i32 y)).run Try.prog w = .ok (x == y) w := fun x y w => run_equalIn_int w (d + 1) _ _ _ _ _ Try.underlying21
  have q1 : ∀ (x y : Int) (w : World), (Op.equalIn (d + 2) 5 (.int .u8 x) (.int .u8 y)).run Try.prog w = .ok (x == y) w := fun x y w => run_equalIn_int w (d + 1) _ _ _ _ _ Try.underlying5
  simp only [Op.eqFields, h0, h1, h2, h3, h4, h5, h6, h7, h8, ne_eq, not_false_eq_true, if_true, Sem.run_bind, p0, q0, Result.andThen_ok]
  have hab : (a = b) ↔ (a.r = b.r ∧ a.wd = b.wd ∧ a.p = b.p) := ⟨fun e => by rw [e]; exact ⟨rfl, rfl, rfl⟩, fun h => Ce.ext' h.1 h.2.1 h.2.2⟩
  by_cases e0 : a.r = b.r <;> by_cases e1 : a.wd = b.wd <;> by_cases e2 : a.p = b.p <;> simp [e0, e1, e2, hab, p1, p2, q1, pn_equal]
theorem ce_eql (a b : Ce) (w : World) : (binOp .eql 51 (.agg (ceA a)) (.agg (ceA b))).run Try.prog w = .ok (.bool (decide (a = b))) w := by
  rw [run_eql_struct, ce_equal a b 9997 w]; rfl
theorem ce_neq (a b : Ce) (w : World) : (binOp .neq 51 (.agg (ceA a)) (.agg (ceA b))).run Try.prog w = .ok (.bool (!decide (a = b))) w := by
  rw [run_neq_struct, ce_equal a b 9997 w]; rfl
theorem pn_neq (a b : Pn) (w : World) : (binOp .neq 49 (.agg (pnA a)) (.agg (pnA b))).run Try.prog w = .ok (.bool (!decide (a = b))) w := by
  rw [run_neq_struct, pn_equal a b 9998 w]; rfl
theorem guardCe : Try.prog.eqGuardType Try.prog.depth 51 = false := by kernel_rfl
theorem guardPn : Try.prog.eqGuardType Try.prog.depth 49 = false := by kernel_rfl
end Go.Proofs.Ytbjgjhhombalpaa
