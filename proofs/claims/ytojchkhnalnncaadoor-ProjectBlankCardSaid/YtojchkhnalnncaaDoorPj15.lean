/-
  Part 15 of what the laws of emul want: ColorTab, ColorSmall, ColorPartsA, ColorPartsR.
-/
import Derived.Test.YtojchkhnalnncaaDoorRows
import Derived.Lib.LaidU8
import Derived.Lib.LaidTab
import Derived.LaidMore
import Derived.Lay
import Derived.Stop.Joined
import Derived.Handed
import Derived.BigQuiet
import Derived.Handy
import Derived.Laws.BitsAllLaws
import Derived.Deep.QuietTactic
import Derived.WalkSpells
import Derived.Laws.Rows
import Derived.Deep.DeepCutAuto
import Derived.Test.YtojchkhnalnncaaDoorPj01
import Derived.Test.YtojchkhnalnncaaDoorPj06
namespace Go.Proofs.YtojchkhnalnncaaDoor
open Go.ChangeShapes Go.WideShapes Go.ChangeAt Go.RowKit
def sixZ : List (List Int) := [[0, 0, 0], [205, 0, 0], [0, 205, 0], [205, 205, 0], [0, 0, 238], [205, 0, 205], [0, 205, 205], [229, 229, 229], [127, 127, 127], [255, 0, 0], [0, 255, 0], [255, 255, 0], [92, 92, 255], [255, 0, 255], [0, 255, 255], [255, 255, 255]]
def sixCells : List Value := (sixZ.map fun x => x.map fun z => Value.int .i64 z).flatten
def levZ : List Int := [0, 95, 135, 175, 215, 255]
def levCells : List Value := levZ.map fun z => Value.int .i64 z
structure CTabs (w : World) : Prop where
 six : ∃ t fr, w.heap[3]? = some (.cells sixCells.toArray t fr)
 lev : ∃ t fr, w.heap[4]? = some (.cells levCells.toArray t fr)
theorem CTabs.below {w w' : World} (h : CTabs w) {B : Nat} (hb : Below B w w') (hB : w.heap.size ≤ B) : CTabs w' := by
 have hb' : Below w.heap.size w w' := ⟨hb.os, hb.tape, hb.output, hb.size, fun k hk => hb.block k (by omega)⟩
 obtain ⟨t, fr, hs⟩ := h.six
 obtain ⟨t2, fr2, hs2⟩ := h.lev
 have hl : 3 < w.heap.size := (Array.getElem?_eq_some_iff.1 hs).1
 have hl2 : 4 < w.heap.size := (Array.getElem?_eq_some_iff.1 hs2).1
 exact ⟨⟨t, fr, (hb'.block _ hl).trans hs⟩, ⟨t2, fr2, (hb'.block _ hl2).trans hs2⟩⟩
theorem rows_flatten {α : Type} (m : Nat) : ∀ (L : List (List α)) (cs : List α), cs.length = L.length * m → (∀ i, (h : i < L.length) → (cs.drop (i * m)).take m = L[i]) → cs = L.flatten
 | [], cs, hc, _ => by simpa using hc
 | x :: L, cs, hc, h => by
  have h0 := h 0 (by simp)
  simp only [Nat.zero_mul, List.drop_zero, List.getElem_cons_zero] at h0
  have ih := rows_flatten m L (cs.drop m) (by simp only [List.length_drop, hc, List.length_cons, Nat.succ_mul]; omega) (fun i hi => by
   have := h (i + 1) (by simpa using hi)
   rw [List.drop_drop, show m + i * m = (i + 1) * m by rw [Nat.succ_mul]; omega, this]
   rfl)
  conv => lhs; rw [← List.take_append_drop m cs]
  rw [h0, ih]; rfl
theorem six_cells {w : World} {fuel : Nat} {cs : List Value} {p : List MemPlace}
  (h : DataW.trod (fun _ => ()) Tryd.prog w 0 (fun _ => true) false fuel 144 cs = some (Rows.laid_spyglass_color_sixteen, p)) : cs = sixCells := by
 have c48 : Tryd.prog.cellsOf 144 = 48 := by kernel_rfl
 have c3 : Tryd.prog.cellsOf 137 = 3 := by kernel_rfl
 have c1 : Tryd.prog.cellsOf 3 = 1 := by kernel_rfl
 have hl : cs.length = 48 := by
  obtain ⟨xs, m, _, _, hl, _⟩ := DataW.trod_array Tryd.underlying144 h
  rw [hl, c48]
 refine rows_flatten 3 _ cs hl ?_
 intro i hi
 have hi' : i < 16 := hi
 obtain ⟨fuel', d, q, hdi, hd'⟩ := Lib.array_elem Tryd.underlying144 h i hi'
 rw [c3] at hd'
 have e : d = Lib.tabData .i64 (sixZ.getD i []) := by
  have h16 : i = 0 ∨ i = 1 ∨ i = 2 ∨ i = 3 ∨ i = 4 ∨ i = 5 ∨ i = 6 ∨ i = 7 ∨ i = 8 ∨ i = 9 ∨ i = 10 ∨ i = 11 ∨ i = 12 ∨ i = 13 ∨ i = 14 ∨ i = 15 := by omega
  rcases h16 with rfl | rfl | rfl | rfl | rfl | rfl | rfl | rfl | rfl | rfl | rfl | rfl | rfl | rfl | rfl | rfl <;> (cases hdi; rfl)
 subst e
 have := Lib.cells_of_tab Tryd.underlying137 Tryd.underlying3 c1 c3 hd'
 rw [this, List.getElem_map]
 have hz : i < sixZ.length := hi'
 rw [List.getD_eq_getElem?_getD, List.getElem?_eq_getElem hz]
 rfl
theorem lev_cells {w : World} {fuel : Nat} {cs : List Value} {p : List MemPlace}
  (h : DataW.trod (fun _ => ()) Tryd.prog w 0 (fun _ => true) false fuel 147 cs = some (Rows.laid_spyglass_color_levels, p)) : cs = levCells :=
 Lib.cells_of_tab Tryd.underlying147 Tryd.underlying3 (by kernel_rfl) (by kernel_rfl) (show DataW.trod (fun _ => ()) Tryd.prog w 0 (fun _ => true) false fuel 147 cs = some (Lib.tabData .i64 levZ, p) from h)
theorem ctabs_of_laid {W : World} (h : laidMetH Tryd.prog laidL W) : CTabs W := by
 rw [MakeChecks.laidMetH_plain _ _ _ (by kernel_rfl)] at h
 have h5 : Lib.VarReads Tryd.prog W "spyglass/color.sixteen" Rows.laid_spyglass_color_sixteen := Lib.laidMet.reads h (by simp [laidL])
 have h6 : Lib.VarReads Tryd.prog W "spyglass/color.levels" Rows.laid_spyglass_color_levels := Lib.laidMet.reads h (by simp [laidL])
 constructor
 · obtain ⟨g, t, cs, fuel, p, hg, hty, hvar, hd⟩ := h5
   obtain rfl := Option.some.inj ((show Tryd.prog.globalNamed "spyglass/color.sixteen" = some 3 by kernel_rfl).symm.trans hg)
   obtain rfl := Option.some.inj ((show (Tryd.prog.globals[3]?).map (·.type) = some 144 by kernel_rfl).symm.trans hty)
   have hcs : cs.toList = sixCells := six_cells hd
   unfold World.var? at hvar
   rw [hg] at hvar
   simp only [Option.bind_some] at hvar
   split at hvar
   · rename_i c t' fr hc
     cases hvar
     exact ⟨t', fr, by rw [hc, ← hcs]⟩
   · cases hvar
 · obtain ⟨g, t, cs, fuel, p, hg, hty, hvar, hd⟩ := h6
   obtain rfl := Option.some.inj ((show Tryd.prog.globalNamed "spyglass/color.levels" = some 4 by kernel_rfl).symm.trans hg)
   obtain rfl := Option.some.inj ((show (Tryd.prog.globals[4]?).map (·.type) = some 147 by kernel_rfl).symm.trans hty)
   have hcs : cs.toList = levCells := lev_cells hd
   unfold World.var? at hvar
   rw [hg] at hvar
   simp only [Option.bind_some] at hvar
   split at hvar
   · rename_i c t' fr hc
     cases hvar
     exact ⟨t', fr, by rw [hc, ← hcs]⟩
   · cases hvar
open Go.RowKit
theorem belowNc {B : Nat} {a w : World} (h : Below B a w) (n : Nat) : Below B a (w.drewN n) := ⟨h.os, h.tape, h.output, h.size, h.block⟩
theorem hueMay_code (c : Int) (w : World) : Calls Tryd.prog 91 #[.int .u32 c] w fun e w' => e = .returned (.bool (hueMay c)) ∧ w = w' := by
 obtain ⟨B, hB⟩ : ∃ B, hueMay c = B := ⟨_, rfl⟩
 rw [hB]
 have HB := Lib.hid hB
 clear hB
 by_cases h1 : c ≤ 256
 · have hb : B = true := by rw [← HB.out]; simp [hueMay]; omega
   subst hb
   go_enter Tryd.func91, Tryd.ntmps91
   go_wp2_with fail
   go_ret
   exact ⟨rfl, rfl⟩
 · by_cases h2 : 16777216 ≤ c
   · by_cases h3 : c ≤ 33554431
     · have hb : B = true := by rw [← HB.out]; simp [hueMay]; omega
       subst hb
       go_enter Tryd.func91, Tryd.ntmps91
       go_wp2_with fail
       go_ret
       exact ⟨rfl, rfl⟩
     · have hb : B = false := by rw [← HB.out]; simp [hueMay]; omega
       subst hb
       go_enter Tryd.func91, Tryd.ntmps91
       go_wp2_with fail
       go_ret
       exact ⟨rfl, rfl⟩
   · have hb : B = false := by rw [← HB.out]; simp [hueMay]; omega
     subst hb
     go_enter Tryd.func91, Tryd.ntmps91
     go_wp2_with fail
     go_ret
     exact ⟨rfl, rfl⟩
theorem hueMay_ref (c : Int) (w : World) : Calls Tryd.prog 95 #[.int .u32 c] w fun e w' => e = .returned (.bool (hueMay c)) ∧ w = w' := by
 obtain ⟨B, hB⟩ : ∃ B, hueMay c = B := ⟨_, rfl⟩
 rw [hB]
 have HB := Lib.hid hB
 clear hB
 by_cases h1 : c ≤ 256
 · have hb : B = true := by rw [← HB.out]; simp [hueMay]; omega
   subst hb
   go_enter Tryd.func95, Tryd.ntmps95
   go_wp2_with fail
   go_ret
   exact ⟨rfl, rfl⟩
 · by_cases h2 : 16777216 ≤ c
   · by_cases h3 : c < 33554432
     · have hb : B = true := by rw [← HB.out]; simp [hueMay]; omega
       subst hb
       go_enter Tryd.func95, Tryd.ntmps95
       go_wp2_with fail
       go_ret
       exact ⟨rfl, rfl⟩
     · have hb : B = false := by rw [← HB.out]; simp [hueMay]; omega
       subst hb
       go_enter Tryd.func95, Tryd.ntmps95
       go_wp2_with fail
       go_ret
       exact ⟨rfl, rfl⟩
   · have hb : B = false := by rw [← HB.out]; simp [hueMay]; omega
     subst hb
     go_enter Tryd.func95, Tryd.ntmps95
     go_wp2_with fail
     go_ret
     exact ⟨rfl, rfl⟩
theorem ofThree_any {c : Int} (w : World) : Calls Tryd.prog 82 #[.int .u32 c] w fun e w' => e = .returned (.bool (decide (threeS c))) ∧ w = w' := by
 obtain ⟨B, hB⟩ : ∃ B, decide (threeS c) = B := ⟨_, rfl⟩
 rw [hB]
 have HB := Lib.hid hB
 clear hB
 by_cases h1 : 16777216 ≤ c
 · by_cases h2 : c ≤ 33554431
   · have hb : B = true := by rw [← HB.out]; exact decide_eq_true (by unfold threeS; omega)
     subst hb
     have hm : hueMay c = true := by simp [hueMay]; omega
     go_enter Tryd.func82, Tryd.ntmps82
     go_wp2_with fail
     refine (hueMay_code _ _).mono ?_
     rintro e w1 ⟨rfl, rfl⟩
     rw [hm]
     go_wp2_with fail
     go_ret
     exact ⟨rfl, rfl⟩
   · have hb : B = false := by rw [← HB.out]; exact decide_eq_false (by unfold threeS; omega)
     subst hb
     have hm : hueMay c = false := by simp [hueMay]; omega
     go_enter Tryd.func82, Tryd.ntmps82
     go_wp2_with fail
     refine (hueMay_code _ _).mono ?_
     rintro e w1 ⟨rfl, rfl⟩
     rw [hm]
     go_wp2_with fail
     go_ret
     exact ⟨rfl, rfl⟩
 · have hb : B = false := by rw [← HB.out]; exact decide_eq_false (by unfold threeS; omega)
   subst hb
   go_enter Tryd.func82, Tryd.ntmps82
   go_wp2_with fail
   go_ret
   exact ⟨rfl, rfl⟩
theorem beyond_any {c : Int} (w : World) : Calls Tryd.prog 93 #[.int .u32 c] w fun e w' => e = .returned (.bool (decide (17 ≤ c ∧ c ≤ 256))) ∧ w = w' := by
 obtain ⟨B, hB⟩ : ∃ B, decide (17 ≤ c ∧ c ≤ 256) = B := ⟨_, rfl⟩
 rw [hB]
 have HB := Lib.hid hB
 clear hB
 by_cases h1 : 17 ≤ c
 · by_cases h2 : c ≤ 256
   · have hb : B = true := by rw [← HB.out]; simp; omega
     subst hb
     go_enter Tryd.func93, Tryd.ntmps93
     go_wp2_with fail
     go_ret
     exact ⟨rfl, rfl⟩
   · have hb : B = false := by rw [← HB.out]; simp; omega
     subst hb
     go_enter Tryd.func93, Tryd.ntmps93
     go_wp2_with fail
     go_ret
     exact ⟨rfl, rfl⟩
 · have hb : B = false := by rw [← HB.out]; simp; omega
   subst hb
   go_enter Tryd.func93, Tryd.ntmps93
   go_wp2_with fail
   go_ret
   exact ⟨rfl, rfl⟩
theorem level_any {k : Int} (h0 : 0 ≤ k) (h1 : k ≤ 5) (w : World) : Calls Tryd.prog 98 #[.int .i64 k] w fun e w' => e = .returned (.int .i64 (levelS k)) ∧ w = w' := by
 obtain ⟨V, hV⟩ : ∃ V, levelS k = V := ⟨_, rfl⟩
 rw [hV]
 have HV := Lib.hid hV
 clear hV
 by_cases h : k = 0
 · subst h
   obtain rfl : V = 0 := HV.out.symm
   go_enter Tryd.func98, Tryd.ntmps98
   go_wp2_with fail
   go_ret
   exact ⟨rfl, rfl⟩
 · have hV2 : V = 55 + 40 * k := by rw [← HV.out]; simp [levelS, h]
   have HV2 := Lib.hid hV2
   clear hV2
   have hw1 : IntKind.i64.wrap (40 * k) = 40 * k := by rw [IntKind.wrap_i64]; omega
   have hw2 : IntKind.i64.wrap (55 + 40 * k) = 55 + 40 * k := by rw [IntKind.wrap_i64]; omega
   go_enter Tryd.func98, Tryd.ntmps98
   go_wp2_with fail
   go_ret
   rw [HV2.out]
   exact ⟨rfl, rfl⟩
theorem square_any {n : Int} (h0 : -255 ≤ n) (h1 : n ≤ 255) (w : World) : Calls Tryd.prog 101 #[.int .i64 n] w fun e w' => e = .returned (.int .i64 (n * n)) ∧ w = w' := by
 have hb : 0 ≤ n * n ∧ n * n ≤ 65025 := by
  rcases Int.le_total 0 n with h | h
  · exact ⟨Int.mul_nonneg h h, by have := Int.mul_le_mul h1 h1 h (by omega); omega⟩
  · have e : n * n = (-n) * (-n) := by rw [Int.neg_mul_neg]
    rw [e]
    exact ⟨Int.mul_nonneg (by omega) (by omega), by have := Int.mul_le_mul (show -n ≤ 255 by omega) (show -n ≤ 255 by omega) (by omega) (by omega); omega⟩
 generalize hm : n * n = m at hb ⊢
 have HM := Lib.hid hm
 have hw1 : IntKind.i64.wrap (n * n) = m := by rw [HM.out, IntKind.wrap_i64]; omega
 clear hm
 go_enter Tryd.func101, Tryd.ntmps101
 go_wp2_with fail
 go_ret
 exact ⟨rfl, rfl⟩
open Go.RowKit
theorem i64_and255 (n : Int) : bits .and .i64 n 255 = n % 256 := by
 have h127 : (BitVec.ofInt 64 255).toNat = 2 ^ 8 - 1 := by decide
 have key : (BitVec.ofInt 64 n &&& BitVec.ofInt 64 255).toNat = (n % ((2 ^ 64 : Nat) : Int)).toNat % 2 ^ 8 := by
  rw [BitVec.toNat_and, BitVec.toNat_ofInt, h127, Nat.and_two_pow_sub_one_eq_mod]
 show IntKind.i64.wrap ((BitVec.ofInt 64 n &&& BitVec.ofInt 64 255).toNat : Nat) = n % 256
 rw [key, IntKind.wrap_i64]
 omega
theorem pT_none {c : Int} (h : partsS c = none) : pT c = (0, 0, 0) ∧ hasS c = false := by unfold pT hasS; rw [h]; exact ⟨rfl, rfl⟩
theorem pT_some {c : Int} {p : Int × Int × Int} (h : partsS c = some p) : pT c = p ∧ hasS c = true := by unfold pT hasS; rw [h]; exact ⟨rfl, rfl⟩
theorem parts_no {c : Int} (h : c < 1 ∨ 256 < c) (h3 : ¬ threeS c) : pT c = (0, 0, 0) ∧ hasS c = false := pT_none (by unfold partsS; rw [if_neg h3, if_pos h])
theorem parts_three {c : Int} (h3 : threeS c) : pT c = ((c - 16777216) / 65536, (c - 16777216) / 256 % 256, (c - 16777216) % 256) ∧ hasS c = true := pT_some (by unfold partsS; rw [if_pos h3])
theorem parts_grey {c : Int} (h : 233 ≤ c) (h2 : c ≤ 256) : pT c = (10 * (c - 1) - 2312, 10 * (c - 1) - 2312, 10 * (c - 1) - 2312) ∧ hasS c = true :=
 pT_some (by unfold partsS; rw [if_neg (by unfold threeS; omega), if_neg (by omega), if_pos h])
theorem parts_cube {c : Int} (h : 17 ≤ c) (h2 : c < 233) : pT c = (levelS ((c - 17) / 36), levelS ((c - 17) / 6 % 6), levelS ((c - 17) % 6)) ∧ hasS c = true :=
 pT_some (by unfold partsS; rw [if_neg (by unfold threeS; omega), if_neg (by omega), if_neg (by omega), if_pos h])
theorem parts_cubeK {k : Nat} (h : k < 216) : pT ((k : Int) + 17) = (levelS ((k : Int) / 36), levelS ((k : Int) / 6 % 6), levelS ((k : Int) % 6)) ∧ hasS ((k : Int) + 17) = true := by
 have := parts_cube (c := (k : Int) + 17) (by omega) (by omega)
 rw [show (k : Int) + 17 - 17 = k by omega] at this
 exact this
theorem parts_six {k : Nat} (h : k < 16) : pT ((k : Int) + 1) = sixS.getD k (0, 0, 0) ∧ hasS ((k : Int) + 1) = true :=
 pT_some (by unfold partsS; rw [if_neg (by unfold threeS; omega), if_neg (by omega), if_neg (by omega), if_neg (by omega)]; congr 2; omega)
def PartsEnd (c : Int) (w : World) (e : Ending) (w' : World) : Prop :=
 e = .returned (.tuple #[.int .i64 (pT c).1, .int .i64 (pT c).2.1, .int .i64 (pT c).2.2, .bool (hasS c)]) ∧ Below w.heap.size w w'
theorem six_at {w : World} (hT : CTabs w) {k : Nat} (hk : k < 48) : w.cell? ⟨3, k, none⟩ = some (sixCells.getD k undef) := by
 obtain ⟨t, fr, h⟩ := hT.six
 have hl : sixCells.length = 48 := by rfl
 rw [cell_of_row _ _ _ _ _ _ h, List.getElem?_toArray, List.getD_eq_getElem?_getD, List.getElem?_eq_getElem (by omega)]
 rfl
theorem six_val {k : Nat} (hk : k < 16) : sixCells.getD (k * 3) undef = .int .i64 (sixS.getD k (0, 0, 0)).1 ∧ sixCells.getD (k * 3 + 1) undef = .int .i64 (sixS.getD k (0, 0, 0)).2.1 ∧ sixCells.getD (k * 3 + 2) undef = .int .i64 (sixS.getD k (0, 0, 0)).2.2 := by
 have h16 : k = 0 ∨ k = 1 ∨ k = 2 ∨ k = 3 ∨ k = 4 ∨ k = 5 ∨ k = 6 ∨ k = 7 ∨ k = 8 ∨ k = 9 ∨ k = 10 ∨ k = 11 ∨ k = 12 ∨ k = 13 ∨ k = 14 ∨ k = 15 := by omega
 rcases h16 with rfl | rfl | rfl | rfl | rfl | rfl | rfl | rfl | rfl | rfl | rfl | rfl | rfl | rfl | rfl | rfl <;> exact ⟨rfl, rfl, rfl⟩
theorem six_cells3 {w : World} (hT : CTabs w) {k : Nat} (hk : k < 16) : w.cell? ⟨3, k * 3, none⟩ = some (.int .i64 (sixS.getD k (0, 0, 0)).1) ∧ w.cell? ⟨3, k * 3 + 1, none⟩ = some (.int .i64 (sixS.getD k (0, 0, 0)).2.1) ∧ w.cell? ⟨3, k * 3 + 2, none⟩ = some (.int .i64 (sixS.getD k (0, 0, 0)).2.2) := by
 obtain ⟨a, b, d⟩ := six_val hk
 exact ⟨(six_at hT (by omega)).trans (congrArg some a), (six_at hT (by omega)).trans (congrArg some b), (six_at hT (by omega)).trans (congrArg some d)⟩
theorem lev_at {w : World} (hT : CTabs w) {k : Nat} (hk : k < 6) : w.cell? ⟨4, k, none⟩ = some (.int .i64 (levelS (k : Int))) := by
 obtain ⟨t, fr, h⟩ := hT.lev
 have hl : levCells.length = 6 := by rfl
 rw [cell_of_row _ _ _ _ _ _ h, List.getElem?_toArray, List.getElem?_eq_getElem (by omega)]
 have h6 : k = 0 ∨ k = 1 ∨ k = 2 ∨ k = 3 ∨ k = 4 ∨ k = 5 := by omega
 rcases h6 with rfl | rfl | rfl | rfl | rfl | rfl <;> rfl
theorem partsW_zero {c : Int} {w : World} (hz : c < 1) : Calls Tryd.prog 99 #[.int .u32 c] w fun e w' => PartsEnd c w e w' := by
 unfold PartsEnd
 obtain ⟨e1, e2⟩ := parts_no (c := c) (by omega) (by unfold threeS; omega)
 rw [e1, e2]
 clear e1 e2
 go_enter Tryd.func99, Tryd.ntmps99
 go_wp2_with fail
 exact bodyPost_ret (v := .tuple #[.int .i64 (0), .int .i64 (0), .int .i64 (0), .bool false]) (by simp [results, Tryd.results99, go_sem]) rfl ⟨rfl, Below.refl _ _⟩
theorem partsW_none {c : Int} {w : World} (hz : 256 < c) (h3 : ¬ threeS c) : Calls Tryd.prog 99 #[.int .u32 c] w fun e w' => PartsEnd c w e w' := by
 unfold PartsEnd
 obtain ⟨e1, e2⟩ := parts_no (c := c) (by omega) h3
 rw [e1, e2]
 clear e1 e2
 have hz1 : ¬ c < 1 := by omega
 have hm : hueMay c = false := by unfold threeS at h3; simp [hueMay]; omega
 clear h3
 go_enter Tryd.func99, Tryd.ntmps99
 go_wp2_with fail
 refine (hueMay_code _ _).mono ?_
 rintro e w1 ⟨rfl, rfl⟩
 rw [hm]
 go_wp2_with fail
 exact bodyPost_ret (v := .tuple #[.int .i64 (0), .int .i64 (0), .int .i64 (0), .bool false]) (by simp [results, Tryd.results99, go_sem]) rfl ⟨rfl, Below.refl _ _⟩
theorem partsW_rgb {c : Int} {w : World} (h3 : threeS c) : Calls Tryd.prog 99 #[.int .u32 c] w fun e w' => PartsEnd c w e w' := by
 unfold PartsEnd
 obtain ⟨e1, e2⟩ := parts_three (c := c) h3
 rw [e1, e2]
 clear e1 e2
 have ht := h3
 unfold threeS at ht
 have hz1 : ¬ c < 1 := by omega
 have hm : hueMay c = true := by simp [hueMay]; omega
 have hd : decide (threeS c) = true := decide_eq_true h3
 have hw1 : IntKind.u32.wrap (c - 16777216) = c - 16777216 := by rw [IntKind.wrap_u32]; omega
 have hw2 : IntKind.i64.wrap (c - 16777216) = c - 16777216 := by rw [IntKind.wrap_i64]; omega
 have hb1 := i64_and255 ((c - 16777216) / 256)
 have hb2 := i64_and255 (c - 16777216)
 clear h3
 go_enter Tryd.func99, Tryd.ntmps99
 go_wp2_with fail
 refine (hueMay_code _ _).mono ?_
 rintro e w1 ⟨rfl, rfl⟩
 rw [hm]
 go_wp2_with fail
 refine (ofThree_any _).mono ?_
 rintro e w1 ⟨rfl, rfl⟩
 rw [hd]
 go_wp2_with fail
 exact bodyPost_ret (v := .tuple #[.int .i64 ((c - 16777216) / 65536), .int .i64 ((c - 16777216) / 256 % 256), .int .i64 ((c - 16777216) % 256), .bool true]) (by simp [results, Tryd.results99, go_sem]) rfl ⟨rfl, Below.refl _ _⟩
set_option maxRecDepth 100000 in
theorem partsW_six {k : Nat} {w : World} (hT : CTabs w) (hk : k < 16) : Calls Tryd.prog 99 #[.int .u32 ((k : Int) + 1)] w fun e w' => PartsEnd ((k : Int) + 1) w e w' := by
 unfold PartsEnd
 obtain ⟨e1, e2⟩ := parts_six hk
 rw [e1, e2]
 clear e1 e2
 have hz1 : ¬ (k : Int) + 1 < 1 := by omega
 have hz2 : (k : Int) + 1 < 17 := by omega
 have hm : hueMay ((k : Int) + 1) = true := by simp [hueMay]; omega
 have hd : decide (threeS ((k : Int) + 1)) = false := decide_eq_false (by unfold threeS; omega)
 have hw1 : IntKind.u32.wrap ((k : Int) + 1 - 1) = (k : Int) := by rw [IntKind.wrap_u32]; omega
 obtain ⟨b1, b2, b3⟩ := six_cells3 hT hk
 generalize sixS.getD k (0, 0, 0) = p at b1 b2 b3 ⊢
 obtain ⟨p1, p2, p3⟩ := p
 go_enter Tryd.func99, Tryd.ntmps99
 go_wp2_with fail
 refine (hueMay_code _ _).mono ?_
 rintro e w1 ⟨rfl, rfl⟩
 rw [hm]
 go_wp2_with fail
 refine (ofThree_any _).mono ?_
 rintro e w1 ⟨rfl, rfl⟩
 rw [hd]
 go_wp2_with fail
 go_quiet (fail)
 go_wp2_with fail
 exact bodyPost_ret (v := .tuple #[.int .i64 p1, .int .i64 p2, .int .i64 p3, .bool true]) (by simp [results, Tryd.results99, go_sem]) rfl ⟨rfl, belowNc ((Below.refl _ _).alloc (Nat.le_refl _) _) _⟩
set_option maxRecDepth 100000 in
theorem partsW_cube {k : Nat} {w : World} (hT : CTabs w) (hk : k < 216) : Calls Tryd.prog 99 #[.int .u32 ((k : Int) + 17)] w fun e w' => PartsEnd ((k : Int) + 17) w e w' := by
 unfold PartsEnd
 obtain ⟨e1, e2⟩ := parts_cubeK hk
 rw [e1, e2]
 clear e1 e2
 have hz1 : ¬ (k : Int) + 17 < 1 := by omega
 have hz2 : ¬ (k : Int) + 17 < 17 := by omega
 have hz3 : (k : Int) + 17 < 233 := by omega
 have hm : hueMay ((k : Int) + 17) = true := by simp [hueMay]; omega
 have hd : decide (threeS ((k : Int) + 17)) = false := decide_eq_false (by unfold threeS; omega)
 have hw1 : IntKind.u32.wrap ((k : Int) + 17 - 17) = (k : Int) := by rw [IntKind.wrap_u32]; omega
 have hl1 := lev_at hT (k := k / 36) (by omega)
 have hl2 := lev_at hT (k := k / 6 % 6) (by omega)
 have hl3 := lev_at hT (k := k % 6) (by omega)
 go_enter Tryd.func99, Tryd.ntmps99
 go_wp2_with fail
 refine (hueMay_code _ _).mono ?_
 rintro e w1 ⟨rfl, rfl⟩
 rw [hm]
 go_wp2_with fail
 refine (ofThree_any _).mono ?_
 rintro e w1 ⟨rfl, rfl⟩
 rw [hd]
 go_wp2_with fail
 go_quiet (fail)
 go_wp2_with fail
 exact bodyPost_ret (v := .tuple #[.int .i64 (levelS ((k : Int) / 36)), .int .i64 (levelS ((k : Int) / 6 % 6)), .int .i64 (levelS ((k : Int) % 6)), .bool true]) (by simp [results, Tryd.results99, go_sem]) rfl ⟨rfl, belowNc (Below.refl _ _) _⟩
theorem partsW_grey {c : Int} {w : World} (h233 : 233 ≤ c) (h256 : c ≤ 256) : Calls Tryd.prog 99 #[.int .u32 c] w fun e w' => PartsEnd c w e w' := by
 unfold PartsEnd
 obtain ⟨e1, e2⟩ := parts_grey (c := c) h233 h256
 rw [e1, e2]
 clear e1 e2
 have hz1 : ¬ c < 1 := by omega
 have hz2 : ¬ c < 17 := by omega
 have hz3 : ¬ c < 233 := by omega
 have hm : hueMay c = true := by simp [hueMay]; omega
 have hd : decide (threeS c) = false := decide_eq_false (by unfold threeS; omega)
 have hw1 : IntKind.u32.wrap (c - 233) = c - 233 := by rw [IntKind.wrap_u32]; omega
 have hw2 : IntKind.i64.wrap (c - 233) = c - 233 := by rw [IntKind.wrap_i64]; omega
 have hw3 : IntKind.i64.wrap (10 * (c - 233)) = 10 * (c - 233) := by rw [IntKind.wrap_i64]; omega
 have hw4 : IntKind.i64.wrap (8 + 10 * (c - 233)) = 10 * (c - 1) - 2312 := by rw [IntKind.wrap_i64]; omega
 go_enter Tryd.func99, Tryd.ntmps99
 go_wp2_with fail
 refine (hueMay_code _ _).mono ?_
 rintro e w1 ⟨rfl, rfl⟩
 rw [hm]
 go_wp2_with fail
 refine (ofThree_any _).mono ?_
 rintro e w1 ⟨rfl, rfl⟩
 rw [hd]
 go_wp2_with fail
 exact bodyPost_ret (v := .tuple #[.int .i64 (10 * (c - 1) - 2312), .int .i64 (10 * (c - 1) - 2312), .int .i64 (10 * (c - 1) - 2312), .bool true]) (by simp [results, Tryd.results99, go_sem]) rfl ⟨rfl, Below.refl _ _⟩
theorem parts_any {c : Int} {w : World} (hT : CTabs w) (h0 : 0 ≤ c) : Calls Tryd.prog 99 #[.int .u32 c] w fun e w' => PartsEnd c w e w' := by
 by_cases h3 : threeS c
 · exact partsW_rgb h3
 by_cases h1 : c < 1
 · exact partsW_zero h1
 by_cases h2 : 256 < c
 · exact partsW_none h2 h3
 by_cases h4 : c < 17
 · obtain ⟨k, rfl⟩ : ∃ k : Nat, c = (k : Int) + 1 := ⟨(c - 1).toNat, by omega⟩
   exact partsW_six hT (by omega)
 by_cases h5 : c < 233
 · obtain ⟨k, rfl⟩ : ∃ k : Nat, c = (k : Int) + 17 := ⟨(c - 17).toNat, by omega⟩
   exact partsW_cube hT (by omega)
 · exact partsW_grey (by omega) (by omega)
open Go.RowKit
def RPartsEnd (c : Int) (w : World) (e : Ending) (w' : World) : Prop :=
 e = .returned (.tuple #[.agg #[.int .i64 (pT c).1, .int .i64 (pT c).2.1, .int .i64 (pT c).2.2], .bool (hasS c)]) ∧ Below w.heap.size w w'
set_option maxHeartbeats 3200000 in
set_option maxRecDepth 100000 in
theorem rpartsW_zero  {w : World}  : Calls Tryd.prog 94 #[.int .u32 0] w fun e w' => RPartsEnd 0 w e w' := by
 unfold RPartsEnd
 obtain ⟨e1, e2⟩ := parts_no (c := 0) (by omega) (by unfold threeS; omega)
 rw [e1, e2]
 clear e1 e2
 go_enter Tryd.func94, Tryd.ntmps94
 go_wp2_with fail
 exact bodyPost_ret (v := .tuple #[.agg #[.int .i64 (0), .int .i64 (0), .int .i64 (0)], .bool false]) (by simp [results, Tryd.results94, go_sem]) rfl ⟨rfl, (Below.refl _ _).alloc (Nat.le_refl _) _⟩
set_option maxHeartbeats 3200000 in
set_option maxRecDepth 100000 in
theorem rpartsW_none {c : Int} {w : World} (hz : 256 < c) (h3 : ¬ threeS c) : Calls Tryd.prog 94 #[.int .u32 c] w fun e w' => RPartsEnd c w e w' := by
 unfold RPartsEnd
 obtain ⟨e1, e2⟩ := parts_no (c := c) (by omega) h3
 rw [e1, e2]
 clear e1 e2
 have hz1 : ¬ c = 0 := by omega
 have hm : hueMay c = false := by unfold threeS at h3; simp [hueMay]; omega
 clear h3
 go_enter Tryd.func94, Tryd.ntmps94
 go_wp2_with fail
 refine (hueMay_ref _ _).mono ?_
 rintro e w1 ⟨rfl, rfl⟩
 rw [hm]
 go_wp2_with fail
 exact bodyPost_ret (v := .tuple #[.agg #[.int .i64 (0), .int .i64 (0), .int .i64 (0)], .bool false]) (by simp [results, Tryd.results94, go_sem]) rfl ⟨rfl, (Below.refl _ _).alloc (Nat.le_refl _) _⟩
set_option maxHeartbeats 3200000 in
set_option maxRecDepth 100000 in
theorem rpartsW_rgb {c : Int} {w : World} (h3 : threeS c) : Calls Tryd.prog 94 #[.int .u32 c] w fun e w' => RPartsEnd c w e w' := by
 unfold RPartsEnd
 obtain ⟨e1, e2⟩ := parts_three (c := c) h3
 rw [e1, e2]
 clear e1 e2
 have ht := h3
 unfold threeS at ht
 have hz1 : ¬ c = 0 := by omega
 have hz2 : 16777216 ≤ c := by omega
 have hm : hueMay c = true := by simp [hueMay]; omega
 have hw1 : IntKind.i64.wrap c = c := by rw [IntKind.wrap_i64]; omega
 have hw2 : IntKind.i64.wrap (c - 16777216) = c - 16777216 := by rw [IntKind.wrap_i64]; omega
 have hd1 : (c - 16777216).tdiv 65536 = (c - 16777216) / 65536 := Int.tdiv_eq_ediv_of_nonneg (by omega)
 have hd2 : (c - 16777216).tdiv 256 = (c - 16777216) / 256 := Int.tdiv_eq_ediv_of_nonneg (by omega)
 have hd3 : ((c - 16777216) / 256).tmod 256 = (c - 16777216) / 256 % 256 := Int.tmod_eq_emod_of_nonneg (by omega)
 have hd4 : (c - 16777216).tmod 256 = (c - 16777216) % 256 := Int.tmod_eq_emod_of_nonneg (by omega)
 clear h3
 go_enter Tryd.func94, Tryd.ntmps94
 go_wp2_with fail
 refine (hueMay_ref _ _).mono ?_
 rintro e w1 ⟨rfl, rfl⟩
 rw [hm]
 go_wp2_with fail
 exact bodyPost_ret (v := .tuple #[.agg #[.int .i64 ((c - 16777216) / 65536), .int .i64 ((c - 16777216) / 256 % 256), .int .i64 ((c - 16777216) % 256)], .bool true]) (by simp [results, Tryd.results94, go_sem]) rfl ⟨rfl, (Below.refl _ _).alloc (Nat.le_refl _) _⟩
set_option maxHeartbeats 3200000 in
set_option maxRecDepth 100000 in
theorem rpartsW_grey {c : Int} {w : World} (h233 : 233 ≤ c) (h256 : c ≤ 256) : Calls Tryd.prog 94 #[.int .u32 c] w fun e w' => RPartsEnd c w e w' := by
 unfold RPartsEnd
 obtain ⟨e1, e2⟩ := parts_grey (c := c) h233 h256
 rw [e1, e2]
 clear e1 e2
 have hz1 : ¬ c = 0 := by omega
 have hz2 : ¬ 16777216 ≤ c := by omega
 have hz3 : 232 ≤ c - 1 := by omega
 have hm : hueMay c = true := by simp [hueMay]; omega
 have hw1 : IntKind.i64.wrap c = c := by rw [IntKind.wrap_i64]; omega
 have hw2 : IntKind.i64.wrap (c - 1) = c - 1 := by rw [IntKind.wrap_i64]; omega
 have hw3 : IntKind.i64.wrap (10 * (c - 1)) = 10 * (c - 1) := by rw [IntKind.wrap_i64]; omega
 have hw4 : IntKind.i64.wrap (10 * (c - 1) - 2312) = 10 * (c - 1) - 2312 := by rw [IntKind.wrap_i64]; omega
 go_enter Tryd.func94, Tryd.ntmps94
 go_wp2_with fail
 refine (hueMay_ref _ _).mono ?_
 rintro e w1 ⟨rfl, rfl⟩
 rw [hm]
 go_wp2_with fail
 exact bodyPost_ret (v := .tuple #[.agg #[.int .i64 (10 * (c - 1) - 2312), .int .i64 (10 * (c - 1) - 2312), .int .i64 (10 * (c - 1) - 2312)], .bool true]) (by simp [results, Tryd.results94, go_sem]) rfl ⟨rfl, (Below.refl _ _).alloc (Nat.le_refl _) _⟩
theorem parts_six2 {c : Int} {k : Nat} (h : k < 16) (hc : (c - 1).toNat = k) (hc1 : 1 ≤ c) : pT c = sixS.getD k (0, 0, 0) ∧ hasS c = true := by
 obtain rfl : c = (k : Int) + 1 := by omega
 exact parts_six h
set_option maxHeartbeats 3200000 in
set_option maxRecDepth 100000 in
theorem rpartsW_cube {c : Int} {w : World} (h17 : 17 ≤ c) (h233 : c < 233) : Calls Tryd.prog 94 #[.int .u32 c] w fun e w' => RPartsEnd c w e w' := by
 unfold RPartsEnd
 obtain ⟨e1, e2⟩ := parts_cube (c := c) h17 h233
 rw [e1, e2]
 clear e1 e2
 have hz1 : ¬ c = 0 := by omega
 have hz2 : ¬ 16777216 ≤ c := by omega
 have hz3 : ¬ 232 ≤ c - 1 := by omega
 have hz4 : 16 ≤ c - 1 := by omega
 have hm : hueMay c = true := by simp [hueMay]; omega
 have hw1 : IntKind.i64.wrap c = c := by rw [IntKind.wrap_i64]; omega
 have hw2 : IntKind.i64.wrap (c - 1) = c - 1 := by rw [IntKind.wrap_i64]; omega
 have hw3 : IntKind.i64.wrap (c - 1 - 16) = c - 17 := by rw [IntKind.wrap_i64]; omega
 have hd1 : (c - 17).tdiv 36 = (c - 17) / 36 := Int.tdiv_eq_ediv_of_nonneg (by omega)
 have hd2 : (c - 17).tdiv 6 = (c - 17) / 6 := Int.tdiv_eq_ediv_of_nonneg (by omega)
 have hd3 : ((c - 17) / 6).tmod 6 = (c - 17) / 6 % 6 := Int.tmod_eq_emod_of_nonneg (by omega)
 have hd4 : (c - 17).tmod 6 = (c - 17) % 6 := Int.tmod_eq_emod_of_nonneg (by omega)
 go_enter Tryd.func94, Tryd.ntmps94
 go_wp2_with fail
 refine (hueMay_ref _ _).mono ?_
 rintro e w1 ⟨rfl, rfl⟩
 rw [hm]
 go_wp2_with fail
 refine (level_any (by omega) (by omega) _).mono ?_
 rintro e w1 ⟨rfl, rfl⟩
 go_wp2_with fail
 refine (level_any (by omega) (by omega) _).mono ?_
 rintro e w1 ⟨rfl, rfl⟩
 go_wp2_with fail
 refine (level_any (by omega) (by omega) _).mono ?_
 rintro e w1 ⟨rfl, rfl⟩
 go_wp2_with fail
 exact bodyPost_ret (v := .tuple #[.agg #[.int .i64 (levelS ((c - 17) / 36)), .int .i64 (levelS ((c - 17) / 6 % 6)), .int .i64 (levelS ((c - 17) % 6))], .bool true]) (by simp [results, Tryd.results94, go_sem]) rfl ⟨rfl, (Below.refl _ _).alloc (Nat.le_refl _) _⟩
theorem wpList_builtAs {P : Program} {ops : Array Oper} {rest : List Oper} {o : Oper} {a : Act} {w : World} {Q : Exit → Act → World → Prop} (hg : o.guard = none) (t : TypeId) (parts : Array (Nat × Operand)) (ho : o.op = .build t parts)
  (cells : Array Value) (hb : P.built t (parts.map fun (i, x) => (i, a.eval x)).toList = some cells) (h : wpList P ops Q rest (a.put o.dst (.agg cells)) w) : wpList P ops Q (o :: rest) a w :=
 wpList_build hg t parts ho (by rw [hb]; rfl) (by rw [hb]; exact h)
def z48A : Array Value := #[.int .i64 0, .int .i64 0, .int .i64 0, .int .i64 0, .int .i64 0, .int .i64 0, .int .i64 0, .int .i64 0, .int .i64 0, .int .i64 0, .int .i64 0, .int .i64 0, .int .i64 0, .int .i64 0, .int .i64 0, .int .i64 0, .int .i64 0, .int .i64 0, .int .i64 0, .int .i64 0, .int .i64 0, .int .i64 0, .int .i64 0, .int .i64 0, .int .i64 0, .int .i64 0, .int .i64 0, .int .i64 0, .int .i64 0, .int .i64 0, .int .i64 0, .int .i64 0, .int .i64 0, .int .i64 0, .int .i64 0, .int .i64 0, .int .i64 0, .int .i64 0, .int .i64 0, .int .i64 0, .int .i64 0, .int .i64 0, .int .i64 0, .int .i64 0, .int .i64 0, .int .i64 0, .int .i64 0, .int .i64 0]
theorem one3 (a b c : Int) : (#[.int .i64 a, .int .i64 b, .int .i64 c] : Array Value).all (·.oneCell') = true := by
 rw [Array.all_eq_true_iff_forall_mem]
 intro v hv
 simp only [List.mem_toArray, List.mem_cons, List.not_mem_nil, or_false] at hv
 rcases hv with rfl | rfl | rfl <;> rfl
theorem six_one : sixCells.toArray.all (·.oneCell') = true := by kernel_rfl
theorem info48 : (Tryd.prog.info? 144).map (·.size) = some sixCells.toArray.size := by kernel_rfl
theorem info3 : (Tryd.prog.info? 137).map (·.size) = some 3 := by kernel_rfl
set_option maxHeartbeats 3200000 in
set_option maxRecDepth 100000 in
theorem rpartsW_six {c : Int} {w : World} {k : Nat} (hk : k < 16) (hc : (c - 1).toNat = k) (hc1 : 1 ≤ c) (hc2 : c ≤ 16) : Calls Tryd.prog 94 #[.int .u32 c] w fun e w' => RPartsEnd c w e w' := by
 unfold RPartsEnd
 obtain ⟨e1, e2⟩ := parts_six2 hk hc hc1
 rw [e1, e2]
 clear e1 e2
 have hz1 : ¬ c = 0 := by omega
 have hz2 : ¬ 16777216 ≤ c := by omega
 have hz3 : ¬ 232 ≤ c - 1 := by omega
 have hz4 : ¬ 16 ≤ c - 1 := by omega
 have hm : hueMay c = true := by simp [hueMay]; omega
 have hw1 : IntKind.i64.wrap c = c := by rw [IntKind.wrap_i64]; omega
 have hw2 : IntKind.i64.wrap (c - 1) = c - 1 := by rw [IntKind.wrap_i64]; omega
 have HV := Lib.hid (six_val hk)
 generalize sixS.getD k (0, 0, 0) = p at HV ⊢
 obtain ⟨p1, p2, p3⟩ := p
 obtain ⟨w1, hw⟩ : ∃ w1, w1 = w.alloc (.cells #[.int .i64 0, .int .i64 0, .int .i64 0] 137) := ⟨_, rfl⟩
 have H1 := Lib.hid (show Below w.heap.size w w1 ∧ w1.heap[w.heap.size]? = some (.cells #[.int .i64 0, .int .i64 0, .int .i64 0] 137 (0, 0)) ∧ w1.heap.size = w.heap.size + 1 from by rw [hw]; exact ⟨(Below.refl _ _).alloc (Nat.le_refl _) _, heap_alloc_new w _, by simp⟩)
 go_enter Tryd.func94, Tryd.ntmps94
 go_upto_region 1 with fail
 rw [← hw]
 clear hw
 go_wp2_with fail
 refine (hueMay_ref _ _).mono ?_
 rintro e w2 ⟨rfl, rfl⟩
 rw [hm]
 go_upto_region 11 with fail
 have HW := Lib.hid (show ∀ w3, w3 = (w1.alloc (.cells z48A 144)).setRow w1.heap.size sixCells.toArray → Below w.heap.size w w3 ∧ w3.heap[w.heap.size]? = some (.cells #[.int .i64 0, .int .i64 0, .int .i64 0] 137 (0, 0)) ∧ w3.heap[w1.heap.size]? = some (.cells sixCells.toArray 144 (0, 0)) from by
  rintro w3 rfl
  refine ⟨below_setRow (H1.out.1.alloc (by have := H1.out.2.2; omega) _) (by have := H1.out.2.2; omega) _, ?_, setRow_heap _ _ _ _ _ _ (heap_alloc_new w1 _)⟩
  rw [setRow_other _ _ _ _ (by have := H1.out.2.2; omega), heap_alloc_old _ _ (by have := H1.out.2.2; omega)]
  exact H1.out.2.1)
 go_upto_region 12 with (first
  | (refine wpList_builtAs rfl 144 _ rfl sixCells.toArray (by kernel_rfl) ?_)
  | (refine wpList_store_row rfl 144 (.tmp 6) (.tmp 75) rfl w1.heap.size sixCells.toArray rfl rfl 144 _ (heap_alloc_new w1 _) info48 rfl six_one ?_; (change wpList _ _ _ _ _ ((w1.alloc (.cells z48A 144)).setRow w1.heap.size sixCells.toArray)); generalize hW : (w1.alloc (.cells z48A 144)).setRow w1.heap.size sixCells.toArray = w3))
 have H3 := Lib.hid (HW.out w3 hW.symm)
 clear hW HW
 have hcell : ∀ j, j < 3 → w3.cell? ⟨w1.heap.size, k * 3 + j, none⟩ = some (sixCells.getD (k * 3 + j) undef) := fun j hj => by
  have hl : sixCells.length = 48 := by rfl
  rw [cell_of_row _ _ _ _ _ _ H3.out.2.2, List.getElem?_toArray, List.getD_eq_getElem?_getD, List.getElem?_eq_getElem (by omega)]
  rfl
 have b1 := (hcell 0 (by omega)).trans (congrArg some HV.out.1)
 have b2 := (hcell 1 (by omega)).trans (congrArg some HV.out.2.1)
 have b3 := (hcell 2 (by omega)).trans (congrArg some HV.out.2.2)
 rw [Nat.add_zero] at b1
 clear hcell HV
 go_wp2_with (first
  | (refine wpList_store_row rfl 137 (.tmp 2) (.tmp 78) rfl w.heap.size #[.int .i64 p1, .int .i64 p2, .int .i64 p3] rfl rfl 137 _ H3.out.2.1 info3 rfl (one3 _ _ _) ?_))
 have HR := setRow_heap w3 _ _ #[.int .i64 p1, .int .i64 p2, .int .i64 p3] _ _ H3.out.2.1
 have y0 := cell_of_row _ _ 0 _ _ _ HR
 have y1 := cell_of_row _ _ 1 _ _ _ HR
 have y2 := cell_of_row _ _ 2 _ _ _ HR
 simp only [List.getElem?_toArray, List.getElem?_cons_zero, List.getElem?_cons_succ] at y0 y1 y2
 exact bodyPost_ret (v := .tuple #[.agg #[.int .i64 p1, .int .i64 p2, .int .i64 p3], .bool true]) (by simp [results, Tryd.results94, go_sem, y0, y1, y2]) rfl ⟨rfl, below_setRow H3.out.1 (Nat.le_refl _) _⟩
theorem rparts_any {c : Int} {w : World} (h0 : 0 ≤ c) : Calls Tryd.prog 94 #[.int .u32 c] w fun e w' => RPartsEnd c w e w' := by
 by_cases h3 : threeS c
 · exact rpartsW_rgb h3
 by_cases h1 : c = 0
 · subst h1; exact rpartsW_zero
 by_cases h2 : 256 < c
 · exact rpartsW_none h2 h3
 by_cases h4 : c < 17
 · exact rpartsW_six (k := (c - 1).toNat) (by omega) rfl (by omega) (by omega)
 by_cases h5 : c < 233
 · exact rpartsW_cube (by omega) h5
 · exact rpartsW_grey (by omega) (by omega)
end Go.Proofs.YtojchkhnalnncaaDoor
