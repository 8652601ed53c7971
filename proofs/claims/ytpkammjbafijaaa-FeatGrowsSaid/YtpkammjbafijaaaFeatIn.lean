/-
  How offers and choices are opened and compared; two cells side by side; the chapter's examples.
-/
import Derived.Test.YtpkammjbafijaaaFeatRef
import Derived.Test.YtpkammjbafijaaaColorIn
import Derived.Deep.Fields
import Derived.OpenShut
import Derived.Laws.StructEq
namespace Go.Proofs.Ytpkammjbafijaaa
open Go.ChangeShapes Go.WideShapes Go.ChangeAt Go.RowKit Go.Deep

theorem cellsOf1 : Try.prog.cellsOf 24 = 2 := by kernel_rfl
theorem cellsCh : Try.prog.cellsOf 26 = 2 := by kernel_rfl
theorem cellsI1 : Try.prog.cellsOf 3 = 1 := by kernel_rfl
theorem cellsU1 : Try.prog.cellsOf 22 = 1 := by kernel_rfl
section
variable {H : Type} {enc : TypeId × Value → H} {W : World} {base : Nat} {v : Value} {d : DataW H} {p : List MemPlace}

set_option maxRecDepth 100000 in
theorem open_offer (hv : Value.okWide Try.prog W .any base 24 v) (h : DataW.Trod enc Try.prog W 0 (fun _ => true) true 24 v d p) :
    ∃ k f : Int, v = .agg #[.int .i64 k, .int .u32 f] ∧ ((-9223372036854775808 ≤ k ∧ k ≤ 9223372036854775807) ∧ (0 ≤ f ∧ f < 4294967296)) := by
  obtain ⟨cs, rfl, hcs⟩ := okWide_struct Try.underlying24 hv
  rw [cellsOf1] at hcs
  obtain ⟨fuel, hf⟩ := h
  obtain ⟨ys, n1, hn1, hys, _, hyl, hf⟩ := DataW.trod_struct Try.underlying24 hf
  obtain ⟨l⟩ := cs
  match l, hcs with
  | [v0, v1], _ =>
    match ys, hyl with
    | [y0, y1], _ =>
      have f0 : DataW.trod enc Try.prog W 0 (fun _ => true) true n1 3 [v0] = some y0 := by simpa [cellsI1, Value.cells] using hf 0 _ rfl
      have f1 : DataW.trod enc Try.prog W 0 (fun _ => true) true n1 22 [v1] = some y1 := by simpa [cellsU1, Value.cells] using hf 1 _ rfl
      obtain ⟨a, e0, _, w0⟩ := DataW.trod_int Try.underlying3 f0
      obtain ⟨b, e1, _, w1⟩ := DataW.trod_int Try.underlying22 f1
      injection e0 with e0
      injection e1 with e1
      subst e0 e1
      have b0 := bounds_i64 w0
      have b1 := bounds_u32 w1
      exact ⟨a, b, rfl, ⟨b0.1, b0.2⟩, b1.1, by have := b1.2; omega⟩
set_option maxRecDepth 100000 in
theorem open_choice (hv : Value.okWide Try.prog W .any base 26 v) (h : DataW.Trod enc Try.prog W 0 (fun _ => true) true 26 v d p) :
    ∃ k f : Int, v = .agg #[.int .i64 k, .int .u32 f] ∧ ((-9223372036854775808 ≤ k ∧ k ≤ 9223372036854775807) ∧ (0 ≤ f ∧ f < 4294967296)) := by
  obtain ⟨cs, rfl, hcs⟩ := okWide_struct Try.underlying26 hv
  rw [cellsCh] at hcs
  obtain ⟨fuel, hf⟩ := h
  obtain ⟨ys, n1, hn1, hys, _, hyl, hf⟩ := DataW.trod_struct Try.underlying26 hf
  obtain ⟨l⟩ := cs
  match l, hcs with
  | [v0, v1], _ =>
    match ys, hyl with
    | [y0, y1], _ =>
      have f0 : DataW.trod enc Try.prog W 0 (fun _ => true) true n1 3 [v0] = some y0 := by simpa [cellsI1, Value.cells] using hf 0 _ rfl
      have f1 : DataW.trod enc Try.prog W 0 (fun _ => true) true n1 22 [v1] = some y1 := by simpa [cellsU1, Value.cells] using hf 1 _ rfl
      obtain ⟨a, e0, _, w0⟩ := DataW.trod_int Try.underlying3 f0
      obtain ⟨b, e1, _, w1⟩ := DataW.trod_int Try.underlying22 f1
      injection e0 with e0
      injection e1 with e1
      subst e0 e1
      have b0 := bounds_i64 w0
      have b1 := bounds_u32 w1
      exact ⟨a, b, rfl, ⟨b0.1, b0.2⟩, b1.1, by have := b1.2; omega⟩
end

theorem fieldsCh : ((Try.prog.fieldsOf 26).toList.map fun f => (f.name != "_", f.type, f.offset)) = [(true, 3, 0), (true, 22, 1)] := by kernel_rfl
def chA (v f : Int) : Array Value := #[.int .i64 v, .int .u32 f]
theorem ch_equal (v f : Int) (d : Nat) (w : World) : (Op.equalIn (d + 2) 26 (.agg (chA v f)) (.agg (chA v f))).run Try.prog w = .ok true w := by
  rw [run_equalIn_agg w (d + 1) 26 _ _ (by kernel_rfl) (by kernel_rfl)]
  have hf := fieldsCh
  obtain ⟨fs, hfs⟩ : ∃ fs, fs = (Try.prog.fieldsOf 26).toList := ⟨_, rfl⟩
  rw [← hfs] at hf ⊢
  clear hfs
  obtain ⟨f0, f1, rfl⟩ : ∃ f0 f1, fs = [f0, f1] := by
    match fs, (show fs.length = 2 by simpa using congrArg List.length hf) with
    | [f0, f1], _ => exact ⟨f0, f1, rfl⟩
  simp only [List.map_cons, List.map_nil, List.cons.injEq, Prod.mk.injEq, and_true, bne_iff_ne] at hf
  obtain ⟨⟨h0, h1, h2⟩, h3, h4, h5⟩ := hf
  have p0 : ∀ (x y : Int) (w : World), (part 3 (chA x y) 0).run Try.prog w = .ok (.int .i64 x) w := fun x y w => by kernel_rfl
  have p1 : ∀ (x y : Int) (w : World), (part 22 (chA x y) 1).run Try.prog w = .ok (.int .u32 y) w := fun x y w => by kernel_rfl
  have q0 : ∀ (x y : Int) (w : World), (Op.equalIn (d + 1) 3 (.int .i64 x) (.int .i64 y)).run Try.prog w = .ok (x == y) w := fun x y w => run_equalIn_int w d _ _ _ _ _ Try.underlying3
  have q1 : ∀ (x y : Int) (w : World), (Op.equalIn (d + 1) 22 (.int .u32 x) (.int .u32 y)).run Try.prog w = .ok (x == y) w := fun x y w => run_equalIn_int w d _ _ _ _ _ Try.underlying22
  simp [Op.eqFields, h0, h1, h2, h3, h4, h5, p0, q0, p1, q1]
theorem ch_eql (v f : Int) (w : World) : (binOp .eql 26 (.agg #[.int .i64 v, .int .u32 f]) (.agg #[.int .i64 v, .int .u32 f])).run Try.prog w = .ok (.bool true) w := by
  rw [run_eql_struct, show #[Value.int .i64 v, .int .u32 f] = chA v f from rfl, ch_equal v f 9998 w]; rfl
theorem guardCh : Try.prog.eqGuardType Try.prog.depth 26 = false := by kernel_rfl

/-- Two cells side by side. -/
structure Two (w : World) (b : Nat) (u v : Value) : Prop where
  c0 : w.cell? ⟨b, 0, none⟩ = some u
  c1 : w.cell? ⟨b, 1, none⟩ = some v
  lt : b < w.heap.size
theorem Two.below {w w' : World} {b B : Nat} {u v : Value} (h : Two w b u v) (hb : Below B w w') (hB : b < B) : Two w' b u v := by
  have e : ∀ o, w'.cell? ⟨b, o, none⟩ = w.cell? ⟨b, o, none⟩ := fun o => by simp only [World.cell?]; rw [hb.block _ hB]
  exact ⟨(e 0).trans h.c0, (e 1).trans h.c1, Nat.lt_of_lt_of_le h.lt hb.size⟩
theorem Two.on {w w' : World} {b : Nat} {u v : Value} (h : Two w b u v) (hb : Below w.heap.size w w') : Two w' b u v := h.below hb h.lt
theorem two_new (w : World) (u v : Value) (t : TypeId) : Two (w.alloc (.cells #[u, v] t)) w.heap.size u v := by
  have g := heap_alloc_new w (.cells #[u, v] t)
  refine ⟨?_, ?_, by simp⟩
  · rw [cell_of_row _ _ 0 _ _ _ g]; rfl
  · rw [cell_of_row _ _ 1 _ _ _ g]; rfl
theorem Two.alloc {w : World} {b : Nat} {u v : Value} (h : Two w b u v) (o : Obj) : Two (w.alloc o) b u v := h.on ((Below.refl _ _).alloc (Nat.le_refl _) _)

theorem two_boxes (w : World) (u v u' v' : Value) (t1 t2 : TypeId) : let W := (w.alloc (.cells #[u, v] t1)).alloc (.cells #[u', v'] t2)
    Two W w.heap.size u v ∧ Two W (w.heap.size + 1) u' v' ∧ Below w.heap.size w W := by
  intro W
  have s1 : (w.alloc (.cells #[u, v] t1)).heap.size = w.heap.size + 1 := by simp
  refine ⟨(two_new w _ _ _).alloc _, ?_, ((Below.refl _ _).alloc (Nat.le_refl _) _).alloc (by simp) _⟩
  have := two_new (w.alloc (.cells #[u, v] t1)) u' v' t2
  rw [s1] at this
  exact this
theorem three_boxes (w : World) (u v u' v' u'' v'' : Value) (t1 t2 t3 : TypeId) : let W := ((w.alloc (.cells #[u, v] t1)).alloc (.cells #[u', v'] t2)).alloc (.cells #[u'', v''] t3)
    Two W w.heap.size u v ∧ Two W (w.heap.size + 1) u' v' ∧ Two W (w.heap.size + 1 + 1) u'' v'' ∧ Below w.heap.size w W := by
  intro W
  have s2 : ((w.alloc (.cells #[u, v] t1)).alloc (.cells #[u', v'] t2)).heap.size = w.heap.size + 1 + 1 := by simp
  obtain ⟨h1, h2, h3⟩ := two_boxes w u v u' v' t1 t2
  refine ⟨h1.alloc _, h2.alloc _, ?_, h3.alloc (by simp; omega) _⟩
  have := two_new ((w.alloc (.cells #[u, v] t1)).alloc (.cells #[u', v'] t2)) u'' v'' t3
  rw [s2] at this
  exact this
theorem chS_fix : chS 3 63 2 11 = .tuple #[.agg #[.int .i64 2, .int .u32 3], .int .i64 0] := by
  rw [chS_yes (by decide)]
  rfl
theorem fixedF_any (w : World) : Calls Try.prog 9 #[] w fun e w' => e = .returned (.bool true) ∧ Below w.heap.size w w' := by
  have hq : ∀ w, (binOp .eql 26 (.agg #[.int .i64 2, .int .u32 3]) (.agg #[.int .i64 2, .int .u32 3])).run Try.prog w = .ok (.bool true) w := fun w => ch_eql 2 3 w
  have hgd := guardCh
  go_enter Try.func9, Try.ntmps9
  go_wp2_with fail
  refine (choose_any w (by omega) (by omega)).mono ?_
  rintro e w1 ⟨rfl, hb⟩
  rw [chS_fix]
  have HB := Lib.hid hb
  clear hb
  go_wp2_with fail
  refine (ceil_any _).mono ?_
  rintro e w2 ⟨rfl, rfl⟩
  rw [show ceilN 1 = 17 from rfl]
  go_wp2_with fail
  go_ret
  exact ⟨rfl, HB.out.alloc HB.out.size _⟩
end Go.Proofs.Ytpkammjbafijaaa
