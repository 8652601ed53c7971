/-
  The package-level variable that layer 8 reads, utf's stretches: what a row's listed variable gives of it, and a start that meets the condition.
-/
import Derived.Test.YtflnocgahdlojaaDoorOpen
import Derived.Test.YtflnocgahdlojaaDoorCellShelf
import Derived.Test.YtflnocgahdlojaaDoorRows
import Derived.Lib.LaidU8
import Derived.Lib.LaidTab
import Derived.LaidMore
import Derived.Lay
import Derived.Stop.Joined
import Derived.Handed
namespace Go.Proofs.YtflnocgahdlojaaDoor
open Go.ChangeShapes Go.WideShapes Go.ChangeAt Go.RowKit

def iOf : Value → Int
  | .int _ x => x
  | _ => 0
/-- The stretches: first, last, columns. -/
def stL : List (Int × Int × Int) := [(0, 31, 0), (127, 159, 0), (768, 879, 0), (8203, 8207, 0), (65024, 65039, 0), (4352, 4447, 2), (11904, 12350, 2), (12353, 42191, 2), (44032, 55203, 2), (63744, 64255, 2), (65072, 65135, 2), (65280, 65376, 2), (65504, 65510, 2), (127744, 128591, 2), (131072, 262141, 2)]
def stCells : List Value := (stL.map fun x => [Value.int .i32 x.1, Value.int .i32 x.2.1, Value.int .i64 x.2.2]).flatten
structure Tabs (w : World) : Prop where
  st : ∃ t fr, w.heap[0]? = some (.cells stCells.toArray t fr)
theorem Tabs.below {w w' : World} (h : Tabs w) {B : Nat} (hb : Below B w w') (hB : w.heap.size ≤ B) : Tabs w' := by
  have hb' : Below w.heap.size w w' := ⟨hb.os, hb.tape, hb.output, hb.size, fun k hk => hb.block k (by omega)⟩
  obtain ⟨t, fr, hs⟩ := h.st
  have hl : 0 < w.heap.size := (Array.getElem?_eq_some_iff.1 hs).1
  exact ⟨t, fr, (hb'.block _ hl).trans hs⟩
theorem Tabs.drewN {w : World} (h : Tabs w) (q : Nat) : Tabs (w.drewN q) := ⟨h.st⟩

abbrev laidL : List (String × DataW Unit) := [("spyglass/utf.stretches", Rows.laid_spyglass_utf_stretches)]

theorem str_three {H : Type} {enc : TypeId × Value → H} {w : World} {base : Nat} {sp : Nat → Bool} {held : Bool} {fuel : Nat} {cs : List Value} {a b c : Int} {p : List MemPlace}
    (h : DataW.trod enc Tryd.prog w base sp held fuel 91 cs = some (.agg [.lit (.int .i32 a), .lit (.int .i32 b), .lit (.int .i64 c)], p)) : cs = [.int .i32 a, .int .i32 b, .int .i64 c] := by
  have c1 : Tryd.prog.cellsOf 21 = 1 := by kernel_rfl
  have c1' : Tryd.prog.cellsOf 3 = 1 := by kernel_rfl
  have c3 : Tryd.prog.cellsOf 91 = 3 := by kernel_rfl
  obtain ⟨xs, n, rfl, hx, hl, hxl, hall⟩ := DataW.trod_struct Tryd.underlying91 h
  have hxs : xs.map (·.1) = [.lit (.int .i32 a), .lit (.int .i32 b), .lit (.int .i64 c)] := by
    have := congrArg Prod.fst hx
    simpa using this.symm
  have hzl : xs.length = 3 := by have := congrArg List.length hxs; simpa using this
  rw [c3] at hl
  obtain ⟨x0, x1, x2, rfl⟩ : ∃ x0 x1 x2, xs = [x0, x1, x2] := by
    rcases xs with _ | ⟨x0, _ | ⟨x1, _ | ⟨x2, _ | ⟨x3, t⟩⟩⟩⟩ <;> simp at hzl
    exact ⟨x0, x1, x2, rfl⟩
  obtain ⟨v0, v1, v2, rfl⟩ : ∃ v0 v1 v2, cs = [v0, v1, v2] := by
    rcases cs with _ | ⟨x0, _ | ⟨x1, _ | ⟨x2, _ | ⟨x3, t⟩⟩⟩⟩ <;> simp at hl
    exact ⟨x0, x1, x2, rfl⟩
  simp at hxs
  have h0 := hall 0 _ rfl
  have h1 := hall 1 _ rfl
  have h2 := hall 2 _ rfl
  simp [c1] at h0 h1
  simp [c1'] at h2
  obtain ⟨z0, e0, f0, _⟩ := DataW.trod_int Tryd.underlying21 h0
  obtain ⟨z1, e1, f1, _⟩ := DataW.trod_int Tryd.underlying21 h1
  obtain ⟨z2, e2, f2, _⟩ := DataW.trod_int Tryd.underlying3 h2
  simp_all
theorem stretch_cells {w : World} {fuel : Nat} {cs : List Value} {p : List MemPlace}
    (h : DataW.trod (fun _ => ()) Tryd.prog w 0 (fun _ => true) false fuel 92 cs = some (Rows.laid_spyglass_utf_stretches, p)) : cs = stCells := by
  have c45 : Tryd.prog.cellsOf 92 = 45 := by kernel_rfl
  have c3 : Tryd.prog.cellsOf 91 = 3 := by kernel_rfl
  have hl : cs.length = 45 := by
    obtain ⟨xs, m, _, _, hl, _⟩ := DataW.trod_array Tryd.underlying92 h
    rw [hl, c45]
  have he : ∀ i, (hi : i < 15) → (cs.drop (i * 3)).take 3 = (let x := stL.getD i (0, 0, 0); [Value.int .i32 x.1, Value.int .i32 x.2.1, Value.int .i64 x.2.2]) := by
    intro i hi
    obtain ⟨fuel', d, q, hdi, hd'⟩ := Lib.array_elem Tryd.underlying92 h i hi
    rw [c3] at hd'
    have e : d = (let x := stL.getD i (0, 0, 0); DataW.agg [.lit (.int .i32 x.1), .lit (.int .i32 x.2.1), .lit (.int .i64 x.2.2)]) := by
      have h15 : i = 0 ∨ i = 1 ∨ i = 2 ∨ i = 3 ∨ i = 4 ∨ i = 5 ∨ i = 6 ∨ i = 7 ∨ i = 8 ∨ i = 9 ∨ i = 10 ∨ i = 11 ∨ i = 12 ∨ i = 13 ∨ i = 14 := by omega
      rcases h15 with rfl | rfl | rfl | rfl | rfl | rfl | rfl | rfl | rfl | rfl | rfl | rfl | rfl | rfl | rfl <;> (cases hdi; rfl)
    subst e
    exact str_three hd'
  have key : ∀ (n i : Nat) (cs : List Value), cs.length = 3 * n → (∀ k, k < n → (cs.drop (k * 3)).take 3 = (let x := (stL.drop i).getD k (0, 0, 0); [Value.int .i32 x.1, Value.int .i32 x.2.1, Value.int .i64 x.2.2])) → i + n = 15 →
      cs = ((stL.drop i).map fun x => [Value.int .i32 x.1, Value.int .i32 x.2.1, Value.int .i64 x.2.2]).flatten := by
    intro n
    induction n with
    | zero => intro i cs hc _ hi; obtain rfl : i = 15 := by omega
              rw [List.drop_of_length_le (show stL.length ≤ 15 from Nat.le_refl 15)]; simpa using hc
    | succ n ih =>
      intro i cs hc hk hi
      have h0 := hk 0 (by omega)
      have hlen : i < stL.length := by show i < 15; omega
      rw [List.drop_eq_getElem_cons hlen] at h0 ⊢
      have h2 := ih (i + 1) (cs.drop 3) (by simp [hc]; omega) (fun k hk' => by
        have := hk (k + 1) (by omega)
        rw [List.drop_drop, show 3 + k * 3 = (k + 1) * 3 by omega]
        rw [this, List.drop_eq_getElem_cons hlen]; rfl) (by omega)
      simp only [List.map_cons, List.flatten_cons, ← h2]
      simp only [Nat.zero_mul, List.drop_zero] at h0
      conv => lhs; rw [← List.take_append_drop 3 cs]
      rw [h0]; rfl
  exact key 15 0 _ (by rw [hl]) (fun k hk => he k hk) rfl
theorem tabs_of_laid {W : World} (h : laidMetH Tryd.prog laidL W) : Tabs W := by
  rw [MakeChecks.laidMetH_plain _ _ _ (by kernel_rfl)] at h
  have h5 : Lib.VarReads Tryd.prog W "spyglass/utf.stretches" Rows.laid_spyglass_utf_stretches := Lib.laidMet.reads h (by simp [laidL])
  constructor
  obtain ⟨g, t, cs, fuel, p, hg, hty, hvar, hd⟩ := h5
  obtain rfl := Option.some.inj ((show Tryd.prog.globalNamed "spyglass/utf.stretches" = some 0 by kernel_rfl).symm.trans hg)
  obtain rfl := Option.some.inj ((show (Tryd.prog.globals[0]?).map (·.type) = some 92 by kernel_rfl).symm.trans hty)
  have hcs : cs.toList = stCells := stretch_cells hd
  unfold World.var? at hvar
  rw [hg] at hvar
  simp only [Option.bind_some] at hvar
  split at hvar
  · rename_i c t' fr hc
    cases hvar
    exact ⟨t', fr, by rw [hc, ← hcs]⟩
  · cases hvar
/-- A start that meets the condition. -/
theorem start_shaped (os : Os) : (World.laidAll Tryd.prog os laidL).Shaped Tryd.prog := World.shaped_of_ZipB (by kernel_rfl) (by kernel_rfl)
theorem start_met (os : Os) (args : Array Value) : laidMetH Tryd.prog laidL ((World.laidAll Tryd.prog os laidL).forCall (fun _ _ => 0) ⟨#[], args, []⟩).memory := by
  rw [MakeChecks.laidMetH_plain _ _ _ (by kernel_rfl)]; exact laidMet_laidAll _ (by kernel_rfl) (by kernel_rfl)
end Go.Proofs.YtflnocgahdlojaaDoor
