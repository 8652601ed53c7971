/-
  The parts of a colour, of the reference.
-/
import Derived.Test.YtfbfidlgfdnneaaDoorColorPartsA
import Derived.Laws.Rows
import Derived.Deep.DeepCutAuto
namespace Go.Proofs.YtfbfidlgfdnneaaDoor
open Go.RowKit

def RPartsEnd (c : Int) (w : World) (e : Ending) (w' : World) : Prop :=
  e = .returned (.tuple #[.agg #[.int .i64 (pT c).1, .int .i64 (pT c).2.1, .int .i64 (pT c).2.2], .bool (hasS c)]) ∧ Below w.heap.size w w'
set_option maxHeartbeats 3200000 in
set_option maxRecDepth 100000 in
theorem rpartsW_zero  {w : World}  : Calls Tryd.prog 9 #[.int .u32 0] w fun e w' => RPartsEnd 0 w e w' := by
  unfold RPartsEnd
  obtain ⟨e1, e2⟩ := parts_no (c := 0) (by omega) (by unfold threeS; omega)
  rw [e1, e2]
  clear e1 e2
  go_enter Tryd.func9, Tryd.ntmps9
  go_wp2_with fail
  exact bodyPost_ret (v := .tuple #[.agg #[.int .i64 (0), .int .i64 (0), .int .i64 (0)], .bool false]) (by simp [results, Tryd.results9, go_sem]) rfl ⟨rfl, (Below.refl _ _).alloc (Nat.le_refl _) _⟩
set_option maxHeartbeats 3200000 in
set_option maxRecDepth 100000 in
theorem rpartsW_none {c : Int} {w : World} (hz : 256 < c) (h3 : ¬ threeS c) : Calls Tryd.prog 9 #[.int .u32 c] w fun e w' => RPartsEnd c w e w' := by
  unfold RPartsEnd
  obtain ⟨e1, e2⟩ := parts_no (c := c) (by omega) h3
  rw [e1, e2]
  clear e1 e2
  have hz1 : ¬ c = 0 := by omega
  have hm : hueMay c = false := by unfold threeS at h3; simp [hueMay]; omega
  clear h3
  go_enter Tryd.func9, Tryd.ntmps9
  go_wp2_with fail
  refine (hueMay_ref _ _).mono ?_
  rintro e w1 ⟨rfl, rfl⟩
  rw [hm]
  go_wp2_with fail
  exact bodyPost_ret (v := .tuple #[.agg #[.int .i64 (0), .int .i64 (0), .int .i64 (0)], .bool false]) (by simp [results, Tryd.results9, go_sem]) rfl ⟨rfl, (Below.refl _ _).alloc (Nat.le_refl _) _⟩
set_option maxHeartbeats 3200000 in
set_option maxRecDepth 100000 in
theorem rpartsW_rgb {c : Int} {w : World} (h3 : threeS c) : Calls Tryd.prog 9 #[.int .u32 c] w fun e w' => RPartsEnd c w e w' := by
  unfold RPartsEnd
  obtain ⟨e1, e2⟩ := parts_three (c := c) h3
  rw [e1, e2]
  clear e1 e2
  have ht := h3
  unfold threeS at ht
  have hz1 : ¬ c = 0 := by omega
  have hz2 : 16777216 ≤ c := by omega
  have hm : hueMay c = true := by simp [hueMay]; omega
  have hw1 : IntKind.i64.wrap c = c := by rw [IntKind.wrap_i64]; omega
  have hw2 : IntKind.i64.wrap (c - 16777216) = c - 16777216 := by rw [IntKind.wrap_i64]; omega
  have hd1 : (c - 16777216).tdiv 65536 = (c - 16777216) / 65536 := Int.tdiv_eq_ediv_of_nonneg (by omega)
  have hd2 : (c - 16777216).tdiv 256 = (c - 16777216) / 256 := Int.tdiv_eq_ediv_of_nonneg (by omega)
  have hd3 : ((c - 16777216) / 256).tmod 256 = (c - 16777216) / 256 % 256 := Int.tmod_eq_emod_of_nonneg (by omega)
  have hd4 : (c - 16777216).tmod 256 = (c - 16777216) % 256 := Int.tmod_eq_emod_of_nonneg (by omega)
  clear h3
  go_enter Tryd.func9, Tryd.ntmps9
  go_wp2_with fail
  refine (hueMay_ref _ _).mono ?_
  rintro e w1 ⟨rfl, rfl⟩
  rw [hm]
  go_wp2_with fail
  exact bodyPost_ret (v := .tuple #[.agg #[.int .i64 ((c - 16777216) / 65536), .int .i64 ((c - 16777216) / 256 % 256), .int .i64 ((c - 16777216) % 256)], .bool true]) (by simp [results, Tryd.results9, go_sem]) rfl ⟨rfl, (Below.refl _ _).alloc (Nat.le_refl _) _⟩
set_option maxHeartbeats 3200000 in
set_option maxRecDepth 100000 in
theorem rpartsW_grey {c : Int} {w : World} (h233 : 233 ≤ c) (h256 : c ≤ 256) : Calls Tryd.prog 9 #[.int .u32 c] w fun e w' => RPartsEnd c w e w' := by
  unfold RPartsEnd
  obtain ⟨e1, e2⟩ := parts_grey (c := c) h233 h256
  rw [e1, e2]
  clear e1 e2
  have hz1 : ¬ c = 0 := by omega
  have hz2 : ¬ 16777216 ≤ c := by omega
  have hz3 : 232 ≤ c - 1 := by omega
  have hm : hueMay c = true := by simp [hueMay]; omega
  have hw1 : IntKind.i64.wrap c = c := by rw [IntKind.wrap_i64]; omega
  have hw2 : IntKind.i64.wrap (c - 1) = c - 1 := by rw [IntKind.wrap_i64]; omega
  have hw3 : IntKind.i64.wrap (10 * (c - 1)) = 10 * (c - 1) := by rw [IntKind.wrap_i64]; omega
  have hw4 : IntKind.i64.wrap (10 * (c - 1) - 2312) = 10 * (c - 1) - 2312 := by rw [IntKind.wrap_i64]; omega
  go_enter Tryd.func9, Tryd.ntmps9
  go_wp2_with fail
  refine (hueMay_ref _ _).mono ?_
  rintro e w1 ⟨rfl, rfl⟩
  rw [hm]
  go_wp2_with fail
  exact bodyPost_ret (v := .tuple #[.agg #[.int .i64 (10 * (c - 1) - 2312), .int .i64 (10 * (c - 1) - 2312), .int .i64 (10 * (c - 1) - 2312)], .bool true]) (by simp [results, Tryd.results9, go_sem]) rfl ⟨rfl, (Below.refl _ _).alloc (Nat.le_refl _) _⟩
theorem parts_six2 {c : Int} {k : Nat} (h : k < 16) (hc : (c - 1).toNat = k) (hc1 : 1 ≤ c) : pT c = sixS.getD k (0, 0, 0) ∧ hasS c = true := by
  obtain rfl : c = (k : Int) + 1 := by omega
  exact parts_six h
set_option maxHeartbeats 3200000 in
set_option maxRecDepth 100000 in
theorem rpartsW_cube {c : Int} {w : World} (h17 : 17 ≤ c) (h233 : c < 233) : Calls Tryd.prog 9 #[.int .u32 c] w fun e w' => RPartsEnd c w e w' := by
  unfold RPartsEnd
  obtain ⟨e1, e2⟩ := parts_cube (c := c) h17 h233
  rw [e1, e2]
  clear e1 e2
  have hz1 : ¬ c = 0 := by omega
  have hz2 : ¬ 16777216 ≤ c := by omega
  have hz3 : ¬ 232 ≤ c - 1 := by omega
  have hz4 : 16 ≤ c - 1 := by omega
  have hm : hueMay c = true := by simp [hueMay]; omega
  have hw1 : IntKind.i64.wrap c = c := by rw [IntKind.wrap_i64]; omega
  have hw2 : IntKind.i64.wrap (c - 1) = c - 1 := by rw [IntKind.wrap_i64]; omega
  have hw3 : IntKind.i64.wrap (c - 1 - 16) = c - 17 := by rw [IntKind.wrap_i64]; omega
  have hd1 : (c - 17).tdiv 36 = (c - 17) / 36 := Int.tdiv_eq_ediv_of_nonneg (by omega)
  have hd2 : (c - 17).tdiv 6 = (c - 17) / 6 := Int.tdiv_eq_ediv_of_nonneg (by omega)
  have hd3 : ((c - 17) / 6).tmod 6 = (c - 17) / 6 % 6 := Int.tmod_eq_emod_of_nonneg (by omega)
  have hd4 : (c - 17).tmod 6 = (c - 17) % 6 := Int.tmod_eq_emod_of_nonneg (by omega)
  go_enter Tryd.func9, Tryd.ntmps9
  go_wp2_with fail
  refine (hueMay_ref _ _).mono ?_
  rintro e w1 ⟨rfl, rfl⟩
  rw [hm]
  go_wp2_with fail
  refine (level_any (by omega) (by omega) _).mono ?_
  rintro e w1 ⟨rfl, rfl⟩
  go_wp2_with fail
  refine (level_any (by omega) (by omega) _).mono ?_
  rintro e w1 ⟨rfl, rfl⟩
  go_wp2_with fail
  refine (level_any (by omega) (by omega) _).mono ?_
  rintro e w1 ⟨rfl, rfl⟩
  go_wp2_with fail
  exact bodyPost_ret (v := .tuple #[.agg #[.int .i64 (levelS ((c - 17) / 36)), .int .i64 (levelS ((c - 17) / 6 % 6)), .int .i64 (levelS ((c - 17) % 6))], .bool true]) (by simp [results, Tryd.results9, go_sem]) rfl ⟨rfl, (Below.refl _ _).alloc (Nat.le_refl _) _⟩
theorem wpList_builtAs {P : Program} {ops : Array Oper} {rest : List Oper} {o : Oper} {a : Act} {w : World} {Q : Exit → Act → World → Prop} (hg : o.guard = none) (t : TypeId) (parts : Array (Nat × Operand)) (ho : o.op = .build t parts)
    (cells : Array Value) (hb : P.built t (parts.map fun (i, x) => (i, a.eval x)).toList = some cells) (h : wpList P ops Q rest (a.put o.dst (.agg cells)) w) : wpList P ops Q (o :: rest) a w :=
  wpList_build hg t parts ho (by rw [hb]; rfl) (by rw [hb]; exact h)
def z48A : Array Value := #[.int .i64 0, .int .i64 0, .int .i64 0, .int .i64 0, .int .i64 0, .int .i64 0, .int .i64 0, .int .i64 0, .int .i64 0, .int .i64 0, .int .i64 0, .int .i64 0, .int .i64 0, .int .i64 0, .int .i64 0, .int .i64 0, .int .i64 0, .int .i64 0, .int .i64 0, .int .i64 0, .int .i64 0, .int .i64 0, .int .i64 0, .int .i64 0, .int .i64 0, .int .i64 0, .int .i64 0, .int .i64 0, .int .i64 0, .int .i64 0, .int .i64 0, .int .i64 0, .int .i64 0, .int .i64 0, .int .i64 0, .int .i64 0, .int .i64 0, .int .i64 0, .int .i64 0, .int .i64 0, .int .i64 0, .int .i64 0, .int .i64 0, .int .i64 0, .int .i64 0, .int .i64 0, .int .i64 0, .int .i64 0]
theorem one3 (a b c : Int) : (#[.int .i64 a, .int .i64 b, .int .i64 c] : Array Value).all (·.oneCell') = true := by
  rw [Array.all_eq_true_iff_forall_mem]
  intro v hv
  simp only [List.mem_toArray, List.mem_cons, List.not_mem_nil, or_false] at hv
  rcases hv with rfl | rfl | rfl <;> rfl
theorem six_one : sixCells.toArray.all (·.oneCell') = true := by kernel_rfl
theorem info48 : (Tryd.prog.info? 39).map (·.size) = some sixCells.toArray.size := by kernel_rfl
theorem info3 : (Tryd.prog.info? 26).map (·.size) = some 3 := by kernel_rfl
set_option maxHeartbeats 3200000 in
set_option maxRecDepth 100000 in
theorem rpartsW_six {c : Int} {w : World} {k : Nat} (hk : k < 16) (hc : (c - 1).toNat = k) (hc1 : 1 ≤ c) (hc2 : c ≤ 16) : Calls Tryd.prog 9 #[.int .u32 c] w fun e w' => RPartsEnd c w e w' := by
  unfold RPartsEnd
  obtain ⟨e1, e2⟩ := parts_six2 hk hc hc1
  rw [e1, e2]
  clear e1 e2
  have hz1 : ¬ c = 0 := by omega
  have hz2 : ¬ 16777216 ≤ c := by omega
  have hz3 : ¬ 232 ≤ c - 1 := by omega
  have hz4 : ¬ 16 ≤ c - 1 := by omega
  have hm : hueMay c = true := by simp [hueMay]; omega
  have hw1 : IntKind.i64.wrap c = c := by rw [IntKind.wrap_i64]; omega
  have hw2 : IntKind.i64.wrap (c - 1) = c - 1 := by rw [IntKind.wrap_i64]; omega
  have HV := Lib.hid (six_val hk)
  generalize sixS.getD k (0, 0, 0) = p at HV ⊢
  obtain ⟨p1, p2, p3⟩ := p
  obtain ⟨w1, hw⟩ : ∃ w1, w1 = w.alloc (.cells #[.int .i64 0, .int .i64 0, .int .i64 0] 26) := ⟨_, rfl⟩
  have H1 := Lib.hid (show Below w.heap.size w w1 ∧ w1.heap[w.heap.size]? = some (.cells #[.int .i64 0, .int .i64 0, .int .i64 0] 26 (0, 0)) ∧ w1.heap.size = w.heap.size + 1 from by rw [hw]; exact ⟨(Below.refl _ _).alloc (Nat.le_refl _) _, heap_alloc_new w _, by simp⟩)
  go_enter Tryd.func9, Tryd.ntmps9
  go_upto_region 1 with fail
  rw [← hw]
  clear hw
  go_wp2_with fail
  refine (hueMay_ref _ _).mono ?_
  rintro e w2 ⟨rfl, rfl⟩
  rw [hm]
  go_upto_region 11 with fail
  have HW := Lib.hid (show ∀ w3, w3 = (w1.alloc (.cells z48A 39)).setRow w1.heap.size sixCells.toArray → Below w.heap.size w w3 ∧ w3.heap[w.heap.size]? = some (.cells #[.int .i64 0, .int .i64 0, .int .i64 0] 26 (0, 0)) ∧ w3.heap[w1.heap.size]? = some (.cells sixCells.toArray 39 (0, 0)) from by
    rintro w3 rfl
    refine ⟨below_setRow (H1.out.1.alloc (by have := H1.out.2.2; omega) _) (by have := H1.out.2.2; omega) _, ?_, setRow_heap _ _ _ _ _ _ (heap_alloc_new w1 _)⟩
    rw [setRow_other _ _ _ _ (by have := H1.out.2.2; omega), heap_alloc_old _ _ (by have := H1.out.2.2; omega)]
    exact H1.out.2.1)
  go_upto_region 12 with (first
    | (refine wpList_builtAs rfl 39 _ rfl sixCells.toArray (by kernel_rfl) ?_)
    | (refine wpList_store_row rfl 39 (.tmp 6) (.tmp 75) rfl w1.heap.size sixCells.toArray rfl rfl 39 _ (heap_alloc_new w1 _) info48 rfl six_one ?_; (change wpList _ _ _ _ _ ((w1.alloc (.cells z48A 39)).setRow w1.heap.size sixCells.toArray)); generalize hW : (w1.alloc (.cells z48A 39)).setRow w1.heap.size sixCells.toArray = w3))
  have H3 := Lib.hid (HW.out w3 hW.symm)
  clear hW HW
  have hcell : ∀ j, j < 3 → w3.cell? ⟨w1.heap.size, k * 3 + j, none⟩ = some (sixCells.getD (k * 3 + j) undef) := fun j hj => by
    have hl : sixCells.length = 48 := by rfl
    rw [cell_of_row _ _ _ _ _ _ H3.out.2.2, List.getElem?_toArray, List.getD_eq_getElem?_getD, List.getElem?_eq_getElem (by omega)]
    rfl
  have b1 := (hcell 0 (by omega)).trans (congrArg some HV.out.1)
  have b2 := (hcell 1 (by omega)).trans (congrArg some HV.out.2.1)
  have b3 := (hcell 2 (by omega)).trans (congrArg some HV.out.2.2)
  rw [Nat.add_zero] at b1
  clear hcell HV
  go_wp2_with (first
    | (refine wpList_store_row rfl 26 (.tmp 2) (.tmp 78) rfl w.heap.size #[.int .i64 p1, .int .i64 p2, .int .i64 p3] rfl rfl 26 _ H3.out.2.1 info3 rfl (one3 _ _ _) ?_))
  have HR := setRow_heap w3 _ _ #[.int .i64 p1, .int .i64 p2, .int .i64 p3] _ _ H3.out.2.1
  have y0 := cell_of_row _ _ 0 _ _ _ HR
  have y1 := cell_of_row _ _ 1 _ _ _ HR
  have y2 := cell_of_row _ _ 2 _ _ _ HR
  simp only [List.getElem?_toArray, List.getElem?_cons_zero, List.getElem?_cons_succ] at y0 y1 y2
  exact bodyPost_ret (v := .tuple #[.agg #[.int .i64 p1, .int .i64 p2, .int .i64 p3], .bool true]) (by simp [results, Tryd.results9, go_sem, y0, y1, y2]) rfl ⟨rfl, below_setRow H3.out.1 (Nat.le_refl _) _⟩
theorem rparts_any {c : Int} {w : World} (h0 : 0 ≤ c) : Calls Tryd.prog 9 #[.int .u32 c] w fun e w' => RPartsEnd c w e w' := by
  by_cases h3 : threeS c
  · exact rpartsW_rgb h3
  by_cases h1 : c = 0
  · subst h1; exact rpartsW_zero
  by_cases h2 : 256 < c
  · exact rpartsW_none h2 h3
  by_cases h4 : c < 17
  · exact rpartsW_six (k := (c - 1).toNat) (by omega) rfl (by omega) (by omega)
  by_cases h5 : c < 233
  · exact rpartsW_cube (by omega) h5
  · exact rpartsW_grey (by omega) (by omega)
end Go.Proofs.YtfbfidlgfdnneaaDoor
