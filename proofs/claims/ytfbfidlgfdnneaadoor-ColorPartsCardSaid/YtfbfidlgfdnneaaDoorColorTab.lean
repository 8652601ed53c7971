/-
  The package-level variables that layer 13 reads: the sixteen colours, and the levels; what a row's listed variables give of them, and a start that meets the condition.
-/
import Derived.Test.YtfbfidlgfdnneaaDoorOpen
import Derived.Test.YtfbfidlgfdnneaaDoorColorSpec
import Derived.Test.YtfbfidlgfdnneaaDoorRows
import Derived.Lib.LaidU8
import Derived.Lib.LaidTab
import Derived.LaidMore
import Derived.Lay
import Derived.Stop.Joined
import Derived.Handed
namespace Go.Proofs.YtfbfidlgfdnneaaDoor
open Go.ChangeShapes Go.WideShapes Go.ChangeAt Go.RowKit

/-- The sixteen, three numbers each, and the levels. -/
def sixZ : List (List Int) := [[0, 0, 0], [205, 0, 0], [0, 205, 0], [205, 205, 0], [0, 0, 238], [205, 0, 205], [0, 205, 205], [229, 229, 229], [127, 127, 127], [255, 0, 0], [0, 255, 0], [255, 255, 0], [92, 92, 255], [255, 0, 255], [0, 255, 255], [255, 255, 255]]
def sixCells : List Value := (sixZ.map fun x => x.map fun z => Value.int .i64 z).flatten
def levZ : List Int := [0, 95, 135, 175, 215, 255]
def levCells : List Value := levZ.map fun z => Value.int .i64 z
structure CTabs (w : World) : Prop where
  six : ∃ t fr, w.heap[0]? = some (.cells sixCells.toArray t fr)
  lev : ∃ t fr, w.heap[1]? = some (.cells levCells.toArray t fr)
theorem CTabs.below {w w' : World} (h : CTabs w) {B : Nat} (hb : Below B w w') (hB : w.heap.size ≤ B) : CTabs w' := by
  have hb' : Below w.heap.size w w' := ⟨hb.os, hb.tape, hb.output, hb.size, fun k hk => hb.block k (by omega)⟩
  obtain ⟨t, fr, hs⟩ := h.six
  obtain ⟨t2, fr2, hs2⟩ := h.lev
  have hl : 0 < w.heap.size := (Array.getElem?_eq_some_iff.1 hs).1
  have hl2 : 1 < w.heap.size := (Array.getElem?_eq_some_iff.1 hs2).1
  exact ⟨⟨t, fr, (hb'.block _ hl).trans hs⟩, ⟨t2, fr2, (hb'.block _ hl2).trans hs2⟩⟩
theorem CTabs.drewN {w : World} (h : CTabs w) (q : Nat) : CTabs (w.drewN q) := ⟨h.six, h.lev⟩

abbrev laidC : List (String × DataW Unit) := [("spyglass/color.sixteen", Rows.laid_spyglass_color_sixteen), ("spyglass/color.levels", Rows.laid_spyglass_color_levels)]

theorem rows_flatten {α : Type} (m : Nat) : ∀ (L : List (List α)) (cs : List α), cs.length = L.length * m → (∀ i, (h : i < L.length) → (cs.drop (i * m)).take m = L[i]) → cs = L.flatten
  | [], cs, hc, _ => by simpa using hc
  | x :: L, cs, hc, h => by
    have h0 := h 0 (by simp)
    simp only [Nat.zero_mul, List.drop_zero, List.getElem_cons_zero] at h0
    have ih := rows_flatten m L (cs.drop m) (by simp only [List.length_drop, hc, List.length_cons, Nat.succ_mul]; omega) (fun i hi => by
      have := h (i + 1) (by simpa using hi)
      rw [List.drop_drop, show m + i * m = (i + 1) * m by rw [Nat.succ_mul]; omega, this]
      rfl)
    conv => lhs; rw [← List.take_append_drop m cs]
    rw [h0, ih]; rfl

theorem six_cells {w : World} {fuel : Nat} {cs : List Value} {p : List MemPlace}
    (h : DataW.trod (fun _ => ()) Tryd.prog w 0 (fun _ => true) false fuel 39 cs = some (Rows.laid_spyglass_color_sixteen, p)) : cs = sixCells := by
  have c48 : Tryd.prog.cellsOf 39 = 48 := by kernel_rfl
  have c3 : Tryd.prog.cellsOf 26 = 3 := by kernel_rfl
  have c1 : Tryd.prog.cellsOf 3 = 1 := by kernel_rfl
  have hl : cs.length = 48 := by
    obtain ⟨xs, m, _, _, hl, _⟩ := DataW.trod_array Tryd.underlying39 h
    rw [hl, c48]
  refine rows_flatten 3 _ cs hl ?_
  intro i hi
  have hi' : i < 16 := hi
  obtain ⟨fuel', d, q, hdi, hd'⟩ := Lib.array_elem Tryd.underlying39 h i hi'
  rw [c3] at hd'
  have e : d = Lib.tabData .i64 (sixZ.getD i []) := by
    have h16 : i = 0 ∨ i = 1 ∨ i = 2 ∨ i = 3 ∨ i = 4 ∨ i = 5 ∨ i = 6 ∨ i = 7 ∨ i = 8 ∨ i = 9 ∨ i = 10 ∨ i = 11 ∨ i = 12 ∨ i = 13 ∨ i = 14 ∨ i = 15 := by omega
    rcases h16 with rfl | rfl | rfl | rfl | rfl | rfl | rfl | rfl | rfl | rfl | rfl | rfl | rfl | rfl | rfl | rfl <;> (cases hdi; rfl)
  subst e
  have := Lib.cells_of_tab Tryd.underlying26 Tryd.underlying3 c1 c3 hd'
  rw [this, List.getElem_map]
  have hz : i < sixZ.length := hi'
  rw [List.getD_eq_getElem?_getD, List.getElem?_eq_getElem hz]
  rfl
theorem lev_cells {w : World} {fuel : Nat} {cs : List Value} {p : List MemPlace}
    (h : DataW.trod (fun _ => ()) Tryd.prog w 0 (fun _ => true) false fuel 40 cs = some (Rows.laid_spyglass_color_levels, p)) : cs = levCells :=
  Lib.cells_of_tab Tryd.underlying40 Tryd.underlying3 (by kernel_rfl) (by kernel_rfl) (show DataW.trod (fun _ => ()) Tryd.prog w 0 (fun _ => true) false fuel 40 cs = some (Lib.tabData .i64 levZ, p) from h)
theorem ctabs_of_laid {W : World} (h : laidMetH Tryd.prog laidC W) : CTabs W := by
  rw [MakeChecks.laidMetH_plain _ _ _ (by kernel_rfl)] at h
  have h5 : Lib.VarReads Tryd.prog W "spyglass/color.sixteen" Rows.laid_spyglass_color_sixteen := Lib.laidMet.reads h (by simp [laidC])
  have h6 : Lib.VarReads Tryd.prog W "spyglass/color.levels" Rows.laid_spyglass_color_levels := Lib.laidMet.reads h (by simp [laidC])
  constructor
  · obtain ⟨g, t, cs, fuel, p, hg, hty, hvar, hd⟩ := h5
    obtain rfl := Option.some.inj ((show Tryd.prog.globalNamed "spyglass/color.sixteen" = some 0 by kernel_rfl).symm.trans hg)
    obtain rfl := Option.some.inj ((show (Tryd.prog.globals[0]?).map (·.type) = some 39 by kernel_rfl).symm.trans hty)
    have hcs : cs.toList = sixCells := six_cells hd
    unfold World.var? at hvar
    rw [hg] at hvar
    simp only [Option.bind_some] at hvar
    split at hvar
    · rename_i c t' fr hc
      cases hvar
      exact ⟨t', fr, by rw [hc, ← hcs]⟩
    · cases hvar
  · obtain ⟨g, t, cs, fuel, p, hg, hty, hvar, hd⟩ := h6
    obtain rfl := Option.some.inj ((show Tryd.prog.globalNamed "spyglass/color.levels" = some 1 by kernel_rfl).symm.trans hg)
    obtain rfl := Option.some.inj ((show (Tryd.prog.globals[1]?).map (·.type) = some 40 by kernel_rfl).symm.trans hty)
    have hcs : cs.toList = levCells := lev_cells hd
    unfold World.var? at hvar
    rw [hg] at hvar
    simp only [Option.bind_some] at hvar
    split at hvar
    · rename_i c t' fr hc
      cases hvar
      exact ⟨t', fr, by rw [hc, ← hcs]⟩
    · cases hvar
/-- A start that meets the condition. -/
theorem startC_shaped (os : Os) : (World.laidAll Tryd.prog os laidC).Shaped Tryd.prog := World.shaped_of_ZipB (by kernel_rfl) (by kernel_rfl)
theorem startC_met (os : Os) (args : Array Value) : laidMetH Tryd.prog laidC ((World.laidAll Tryd.prog os laidC).forCall (fun _ _ => 0) ⟨#[], args, []⟩).memory := by
  rw [MakeChecks.laidMetH_plain _ _ _ (by kernel_rfl)]; exact laidMet_laidAll _ (by kernel_rfl) (by kernel_rfl)
end Go.Proofs.YtfbfidlgfdnneaaDoor
