/-
  The parts of a colour, of the code.
-/
import Derived.Test.YtfbfidlgfdnneaaDoorColorSmall
import Derived.Laws.BitsAllLaws
import Derived.Deep.QuietTactic
import Derived.WalkSpells
namespace Go.Proofs.YtfbfidlgfdnneaaDoor
open Go.RowKit

theorem i64_and255 (n : Int) : bits .and .i64 n 255 = n % 256 := by
  have h127 : (BitVec.ofInt 64 255).toNat = 2 ^ 8 - 1 := by decide
  have key : (BitVec.ofInt 64 n &&& BitVec.ofInt 64 255).toNat = (n % ((2 ^ 64 : Nat) : Int)).toNat % 2 ^ 8 := by
    rw [BitVec.toNat_and, BitVec.toNat_ofInt, h127, Nat.and_two_pow_sub_one_eq_mod]
  show IntKind.i64.wrap ((BitVec.ofInt 64 n &&& BitVec.ofInt 64 255).toNat : Nat) = n % 256
  rw [key, IntKind.wrap_i64]
  omega
theorem pT_none {c : Int} (h : partsS c = none) : pT c = (0, 0, 0) ∧ hasS c = false := by unfold pT hasS; rw [h]; exact ⟨rfl, rfl⟩
theorem pT_some {c : Int} {p : Int × Int × Int} (h : partsS c = some p) : pT c = p ∧ hasS c = true := by unfold pT hasS; rw [h]; exact ⟨rfl, rfl⟩
theorem parts_no {c : Int} (h : c < 1 ∨ 256 < c) (h3 : ¬ threeS c) : pT c = (0, 0, 0) ∧ hasS c = false := pT_none (by unfold partsS; rw [if_neg h3, if_pos h])
theorem parts_three {c : Int} (h3 : threeS c) : pT c = ((c - 16777216) / 65536, (c - 16777216) / 256 % 256, (c - 16777216) % 256) ∧ hasS c = true := pT_some (by unfold partsS; rw [if_pos h3])
theorem parts_grey {c : Int} (h : 233 ≤ c) (h2 : c ≤ 256) : pT c = (10 * (c - 1) - 2312, 10 * (c - 1) - 2312, 10 * (c - 1) - 2312) ∧ hasS c = true :=
  pT_some (by unfold partsS; rw [if_neg (by unfold threeS; omega), if_neg (by omega), if_pos h])
theorem parts_cube {c : Int} (h : 17 ≤ c) (h2 : c < 233) : pT c = (levelS ((c - 17) / 36), levelS ((c - 17) / 6 % 6), levelS ((c - 17) % 6)) ∧ hasS c = true :=
  pT_some (by unfold partsS; rw [if_neg (by unfold threeS; omega), if_neg (by omega), if_neg (by omega), if_pos h])
theorem parts_cubeK {k : Nat} (h : k < 216) : pT ((k : Int) + 17) = (levelS ((k : Int) / 36), levelS ((k : Int) / 6 % 6), levelS ((k : Int) % 6)) ∧ hasS ((k : Int) + 17) = true := by
  have := parts_cube (c := (k : Int) + 17) (by omega) (by omega)
  rw [show (k : Int) + 17 - 17 = k by omega] at this
  exact this
theorem parts_six {k : Nat} (h : k < 16) : pT ((k : Int) + 1) = sixS.getD k (0, 0, 0) ∧ hasS ((k : Int) + 1) = true :=
  pT_some (by unfold partsS; rw [if_neg (by unfold threeS; omega), if_neg (by omega), if_neg (by omega), if_neg (by omega)]; congr 2; omega)
def PartsEnd (c : Int) (w : World) (e : Ending) (w' : World) : Prop :=
  e = .returned (.tuple #[.int .i64 (pT c).1, .int .i64 (pT c).2.1, .int .i64 (pT c).2.2, .bool (hasS c)]) ∧ Below w.heap.size w w'
theorem six_at {w : World} (hT : CTabs w) {k : Nat} (hk : k < 48) : w.cell? ⟨0, k, none⟩ = some (sixCells.getD k undef) := by
  obtain ⟨t, fr, h⟩ := hT.six
  have hl : sixCells.length = 48 := by rfl
  rw [cell_of_row _ _ _ _ _ _ h, List.getElem?_toArray, List.getD_eq_getElem?_getD, List.getElem?_eq_getElem (by omega)]
  rfl
theorem six_val {k : Nat} (hk : k < 16) : sixCells.getD (k * 3) undef = .int .i64 (sixS.getD k (0, 0, 0)).1 ∧ sixCells.getD (k * 3 + 1) undef = .int .i64 (sixS.getD k (0, 0, 0)).2.1 ∧ sixCells.getD (k * 3 + 2) undef = .int .i64 (sixS.getD k (0, 0, 0)).2.2 := by
  have h16 : k = 0 ∨ k = 1 ∨ k = 2 ∨ k = 3 ∨ k = 4 ∨ k = 5 ∨ k = 6 ∨ k = 7 ∨ k = 8 ∨ k = 9 ∨ k = 10 ∨ k = 11 ∨ k = 12 ∨ k = 13 ∨ k = 14 ∨ k = 15 := by omega
  rcases h16 with rfl | rfl | rfl | rfl | rfl | rfl | rfl | rfl | rfl | rfl | rfl | rfl | rfl | rfl | rfl | rfl <;> exact ⟨rfl, rfl, rfl⟩
theorem six_cells3 {w : World} (hT : CTabs w) {k : Nat} (hk : k < 16) : w.cell? ⟨0, k * 3, none⟩ = some (.int .i64 (sixS.getD k (0, 0, 0)).1) ∧ w.cell? ⟨0, k * 3 + 1, none⟩ = some (.int .i64 (sixS.getD k (0, 0, 0)).2.1) ∧ w.cell? ⟨0, k * 3 + 2, none⟩ = some (.int .i64 (sixS.getD k (0, 0, 0)).2.2) := by
  obtain ⟨a, b, d⟩ := six_val hk
  exact ⟨(six_at hT (by omega)).trans (congrArg some a), (six_at hT (by omega)).trans (congrArg some b), (six_at hT (by omega)).trans (congrArg some d)⟩
theorem lev_at {w : World} (hT : CTabs w) {k : Nat} (hk : k < 6) : w.cell? ⟨1, k, none⟩ = some (.int .i64 (levelS (k : Int))) := by
  obtain ⟨t, fr, h⟩ := hT.lev
  have hl : levCells.length = 6 := by rfl
  rw [cell_of_row _ _ _ _ _ _ h, List.getElem?_toArray, List.getElem?_eq_getElem (by omega)]
  have h6 : k = 0 ∨ k = 1 ∨ k = 2 ∨ k = 3 ∨ k = 4 ∨ k = 5 := by omega
  rcases h6 with rfl | rfl | rfl | rfl | rfl | rfl <;> rfl
theorem partsW_zero {c : Int} {w : World} (hz : c < 1) : Calls Tryd.prog 8 #[.int .u32 c] w fun e w' => PartsEnd c w e w' := by
  unfold PartsEnd
  obtain ⟨e1, e2⟩ := parts_no (c := c) (by omega) (by unfold threeS; omega)
  rw [e1, e2]
  clear e1 e2
  go_enter Tryd.func8, Tryd.ntmps8
  go_wp2_with fail
  exact bodyPost_ret (v := .tuple #[.int .i64 (0), .int .i64 (0), .int .i64 (0), .bool false]) (by simp [results, Tryd.results8, go_sem]) rfl ⟨rfl, Below.refl _ _⟩
theorem partsW_none {c : Int} {w : World} (hz : 256 < c) (h3 : ¬ threeS c) : Calls Tryd.prog 8 #[.int .u32 c] w fun e w' => PartsEnd c w e w' := by
  unfold PartsEnd
  obtain ⟨e1, e2⟩ := parts_no (c := c) (by omega) h3
  rw [e1, e2]
  clear e1 e2
  have hz1 : ¬ c < 1 := by omega
  have hm : hueMay c = false := by unfold threeS at h3; simp [hueMay]; omega
  clear h3
  go_enter Tryd.func8, Tryd.ntmps8
  go_wp2_with fail
  refine (hueMay_code _ _).mono ?_
  rintro e w1 ⟨rfl, rfl⟩
  rw [hm]
  go_wp2_with fail
  exact bodyPost_ret (v := .tuple #[.int .i64 (0), .int .i64 (0), .int .i64 (0), .bool false]) (by simp [results, Tryd.results8, go_sem]) rfl ⟨rfl, Below.refl _ _⟩
theorem partsW_rgb {c : Int} {w : World} (h3 : threeS c) : Calls Tryd.prog 8 #[.int .u32 c] w fun e w' => PartsEnd c w e w' := by
  unfold PartsEnd
  obtain ⟨e1, e2⟩ := parts_three (c := c) h3
  rw [e1, e2]
  clear e1 e2
  have ht := h3
  unfold threeS at ht
  have hz1 : ¬ c < 1 := by omega
  have hm : hueMay c = true := by simp [hueMay]; omega
  have hd : decide (threeS c) = true := decide_eq_true h3
  have hw1 : IntKind.u32.wrap (c - 16777216) = c - 16777216 := by rw [IntKind.wrap_u32]; omega
  have hw2 : IntKind.i64.wrap (c - 16777216) = c - 16777216 := by rw [IntKind.wrap_i64]; omega
  have hb1 := i64_and255 ((c - 16777216) / 256)
  have hb2 := i64_and255 (c - 16777216)
  clear h3
  go_enter Tryd.func8, Tryd.ntmps8
  go_wp2_with fail
  refine (hueMay_code _ _).mono ?_
  rintro e w1 ⟨rfl, rfl⟩
  rw [hm]
  go_wp2_with fail
  refine (ofThree_any _).mono ?_
  rintro e w1 ⟨rfl, rfl⟩
  rw [hd]
  go_wp2_with fail
  exact bodyPost_ret (v := .tuple #[.int .i64 ((c - 16777216) / 65536), .int .i64 ((c - 16777216) / 256 % 256), .int .i64 ((c - 16777216) % 256), .bool true]) (by simp [results, Tryd.results8, go_sem]) rfl ⟨rfl, Below.refl _ _⟩
set_option maxRecDepth 100000 in
theorem partsW_six {k : Nat} {w : World} (hT : CTabs w) (hk : k < 16) : Calls Tryd.prog 8 #[.int .u32 ((k : Int) + 1)] w fun e w' => PartsEnd ((k : Int) + 1) w e w' := by
  unfold PartsEnd
  obtain ⟨e1, e2⟩ := parts_six hk
  rw [e1, e2]
  clear e1 e2
  have hz1 : ¬ (k : Int) + 1 < 1 := by omega
  have hz2 : (k : Int) + 1 < 17 := by omega
  have hm : hueMay ((k : Int) + 1) = true := by simp [hueMay]; omega
  have hd : decide (threeS ((k : Int) + 1)) = false := decide_eq_false (by unfold threeS; omega)
  have hw1 : IntKind.u32.wrap ((k : Int) + 1 - 1) = (k : Int) := by rw [IntKind.wrap_u32]; omega
  obtain ⟨b1, b2, b3⟩ := six_cells3 hT hk
  generalize sixS.getD k (0, 0, 0) = p at b1 b2 b3 ⊢
  obtain ⟨p1, p2, p3⟩ := p
  go_enter Tryd.func8, Tryd.ntmps8
  go_wp2_with fail
  refine (hueMay_code _ _).mono ?_
  rintro e w1 ⟨rfl, rfl⟩
  rw [hm]
  go_wp2_with fail
  refine (ofThree_any _).mono ?_
  rintro e w1 ⟨rfl, rfl⟩
  rw [hd]
  go_wp2_with fail
  go_quiet (fail)
  go_wp2_with fail
  exact bodyPost_ret (v := .tuple #[.int .i64 p1, .int .i64 p2, .int .i64 p3, .bool true]) (by simp [results, Tryd.results8, go_sem]) rfl ⟨rfl, belowNc ((Below.refl _ _).alloc (Nat.le_refl _) _) _⟩
set_option maxRecDepth 100000 in
theorem partsW_cube {k : Nat} {w : World} (hT : CTabs w) (hk : k < 216) : Calls Tryd.prog 8 #[.int .u32 ((k : Int) + 17)] w fun e w' => PartsEnd ((k : Int) + 17) w e w' := by
  unfold PartsEnd
  obtain ⟨e1, e2⟩ := parts_cubeK hk
  rw [e1, e2]
  clear e1 e2
  have hz1 : ¬ (k : Int) + 17 < 1 := by omega
  have hz2 : ¬ (k : Int) + 17 < 17 := by omega
  have hz3 : (k : Int) + 17 < 233 := by omega
  have hm : hueMay ((k : Int) + 17) = true := by simp [hueMay]; omega
  have hd : decide (threeS ((k : Int) + 17)) = false := decide_eq_false (by unfold threeS; omega)
  have hw1 : IntKind.u32.wrap ((k : Int) + 17 - 17) = (k : Int) := by rw [IntKind.wrap_u32]; omega
  have hl1 := lev_at hT (k := k / 36) (by omega)
  have hl2 := lev_at hT (k := k / 6 % 6) (by omega)
  have hl3 := lev_at hT (k := k % 6) (by omega)
  go_enter Tryd.func8, Tryd.ntmps8
  go_wp2_with fail
  refine (hueMay_code _ _).mono ?_
  rintro e w1 ⟨rfl, rfl⟩
  rw [hm]
  go_wp2_with fail
  refine (ofThree_any _).mono ?_
  rintro e w1 ⟨rfl, rfl⟩
  rw [hd]
  go_wp2_with fail
  go_quiet (fail)
  go_wp2_with fail
  exact bodyPost_ret (v := .tuple #[.int .i64 (levelS ((k : Int) / 36)), .int .i64 (levelS ((k : Int) / 6 % 6)), .int .i64 (levelS ((k : Int) % 6)), .bool true]) (by simp [results, Tryd.results8, go_sem]) rfl ⟨rfl, belowNc (Below.refl _ _) _⟩
theorem partsW_grey {c : Int} {w : World} (h233 : 233 ≤ c) (h256 : c ≤ 256) : Calls Tryd.prog 8 #[.int .u32 c] w fun e w' => PartsEnd c w e w' := by
  unfold PartsEnd
  obtain ⟨e1, e2⟩ := parts_grey (c := c) h233 h256
  rw [e1, e2]
  clear e1 e2
  have hz1 : ¬ c < 1 := by omega
  have hz2 : ¬ c < 17 := by omega
  have hz3 : ¬ c < 233 := by omega
  have hm : hueMay c = true := by simp [hueMay]; omega
  have hd : decide (threeS c) = false := decide_eq_false (by unfold threeS; omega)
  have hw1 : IntKind.u32.wrap (c - 233) = c - 233 := by rw [IntKind.wrap_u32]; omega
  have hw2 : IntKind.i64.wrap (c - 233) = c - 233 := by rw [IntKind.wrap_i64]; omega
  have hw3 : IntKind.i64.wrap (10 * (c - 233)) = 10 * (c - 233) := by rw [IntKind.wrap_i64]; omega
  have hw4 : IntKind.i64.wrap (8 + 10 * (c - 233)) = 10 * (c - 1) - 2312 := by rw [IntKind.wrap_i64]; omega
  go_enter Tryd.func8, Tryd.ntmps8
  go_wp2_with fail
  refine (hueMay_code _ _).mono ?_
  rintro e w1 ⟨rfl, rfl⟩
  rw [hm]
  go_wp2_with fail
  refine (ofThree_any _).mono ?_
  rintro e w1 ⟨rfl, rfl⟩
  rw [hd]
  go_wp2_with fail
  exact bodyPost_ret (v := .tuple #[.int .i64 (10 * (c - 1) - 2312), .int .i64 (10 * (c - 1) - 2312), .int .i64 (10 * (c - 1) - 2312), .bool true]) (by simp [results, Tryd.results8, go_sem]) rfl ⟨rfl, Below.refl _ _⟩
theorem parts_any {c : Int} {w : World} (hT : CTabs w) (h0 : 0 ≤ c) : Calls Tryd.prog 8 #[.int .u32 c] w fun e w' => PartsEnd c w e w' := by
  by_cases h3 : threeS c
  · exact partsW_rgb h3
  by_cases h1 : c < 1
  · exact partsW_zero h1
  by_cases h2 : 256 < c
  · exact partsW_none h2 h3
  by_cases h4 : c < 17
  · obtain ⟨k, rfl⟩ : ∃ k : Nat, c = (k : Int) + 1 := ⟨(c - 1).toNat, by omega⟩
    exact partsW_six hT (by omega)
  by_cases h5 : c < 233
  · obtain ⟨k, rfl⟩ : ∃ k : Nat, c = (k : Int) + 17 := ⟨(c - 17).toNat, by omega⟩
    exact partsW_cube hT (by omega)
  · exact partsW_grey (by omega) (by omega)
end Go.Proofs.YtfbfidlgfdnneaaDoor
