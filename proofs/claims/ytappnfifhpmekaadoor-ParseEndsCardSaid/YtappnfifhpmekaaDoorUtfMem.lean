/-
  What layer 7 says of memory: bytes turned into a text, a range over a text, slices of runes.
-/
import Derived.Test.YtappnfifhpmekaaDoorUtfDec
import Derived.Test.YtappnfifhpmekaaDoorUtfBegin
import Derived.Test.YtappnfifhpmekaaDoorWireMem
import Derived.Test.YtappnfifhpmekaaDoorIntsApp
import Derived.Laws.BytesArg
import Derived.Laws.RangeAny
import Derived.LoopTactic
namespace Go.Proofs.YtappnfifhpmekaaDoor
open Go.RowKit

theorem sL_nums {zs : List Int} (h : U8s zs) : sL (strOfNums zs) = zs := by
  rw [sL, strOfNums_data, List.map_map]
  conv => rhs; rw [← List.map_id zs]
  apply List.map_congr_left
  intro z hz
  have := h z hz
  simp [Function.comp]
  omega
theorem conv_any {w : World} {A : Option Addr} {n c : Nat} {zs : List Int} (h : Sb w A n zs) (dst : TypeId) (hd : Tryd.prog.underlying dst = some .string) :
    (convert 23 dst (.slice A n c)).run Tryd.prog w = .ok (.string (strOfNums zs)) w := by
  by_cases hn : n = 0
  · subst hn
    obtain rfl : zs = [] := List.eq_nil_of_length_eq_zero h.len
    cases A with
    | none => exact run_convert_bytes_nil w _ _ Tryd.underlying23 Tryd.underlying5 0 c dst hd
    | some ad =>
      rw [run_convert_bytes_string w _ dst _ _ 0 c Tryd.underlying23 Tryd.underlying5 hd, run_bytesToString w _ 0 c [] (by simpa using run_loadCells_list (P := Tryd.prog) w ad [] (fun j v hj => by simp at hj))]
      rfl
  · obtain ⟨ad, rfl⟩ := h.addr (by omega)
    have hl : (loadCells ad n).run Tryd.prog w = .ok (zs.map (Value.int .u8)).toArray w := by
      have := run_loadCells_list (P := Tryd.prog) w ad (zs.map (Value.int .u8)) (fun j v hj => h.news j v hj)
      simpa [h.len] using this
    rw [run_convert_bytes_string w _ dst _ _ n c Tryd.underlying23 Tryd.underlying5 hd, run_bytesToString w _ n c zs hl, foldl_push_bytes]
    simp [strOfNums, ByteArray.empty, ByteArray.emptyWithCapacity]
    rfl

/-- A range over a text stands at pos. -/
def It (w : World) (it : Nat) (s : ByteArray) (pos : Nat) : Prop := w.heap[it]? = some (.stringIter s pos)
theorem It.lt {w : World} {it : Nat} {s : ByteArray} {pos : Nat} (h : It w it s pos) : it < w.heap.size := (Array.getElem?_eq_some_iff.1 h).1
theorem It.grown {w w' : World} {it : Nat} {s : ByteArray} {pos : Nat} (h : It w it s pos) {row : Option Nat} (hg : w.grownBy w' row) (hne : row ≠ some it) : It w' it s pos := (hg.block it h.lt (fun e => hne e.symm)).trans h
theorem It.below {w w' : World} {it : Nat} {s : ByteArray} {pos : Nat} (h : It w it s pos) (hb : Below w.heap.size w w') : It w' it s pos := (hb.block it h.lt).trans h
theorem It.pos {w : World} {it : Nat} {s : ByteArray} {pos : Nat} (h : It w it s pos) : w.iterPos it = pos := by
  unfold World.iterPos; rw [h]
theorem It.next {w : World} {it : Nat} {s : ByteArray} {pos : Nat} (h : It w it s pos) (hp : pos < s.size) : ∃ w', It w' it s (pos + (Utf8.decode s pos).2) ∧ w.grownBy w' (some it) ∧ w'.heap.size = w.heap.size ∧
    ∀ ty, (Instr.next (.pointer (some ⟨it, 0, none⟩)) true ty).run Tryd.prog w = .ok (.tuple #[.bool true, .int .i64 pos, .int .i32 (Utf8.decode s pos).1]) w' := by
  refine ⟨{ w with heap := w.heap.setIfInBounds it (.stringIter s (pos + (Utf8.decode s pos).2)) }, ?_, ⟨rfl, rfl, rfl, by simp, fun k hk hne => ?_⟩, by simp, fun ty => ?_⟩
  · have := h.lt
    simp [It, this]
  · have : it ≠ k := fun e => hne (by rw [e])
    simp [this]
  · have h' : w.heap[it]? = some (.stringIter s pos) := h
    simp only [Instr.next, getObj, setObj, Sem.run_bind, Sem.run, h', Result.andThen, hp, if_true]
    simp [goInt]
theorem It.done {w : World} {it : Nat} {s : ByteArray} {pos : Nat} (h : It w it s pos) (hp : ¬ pos < s.size) (ty : TypeId) : (Instr.next (.pointer (some ⟨it, 0, none⟩)) true ty).run Tryd.prog w = .ok (.tuple #[.bool false]) w := by
  have h' : w.heap[it]? = some (.stringIter s pos) := h
  simp [Instr.next, getObj, Sem.run, h', hp]
theorem info32 : (Tryd.prog.info? 21).map (fun i => (i.zero, i.size, i.bytes)) = some (some (.int .i32 0), 1, 4) := by kernel_rfl

/-- What answers a slice of runes of the call's own. -/
def Runs (zs : List Int) (w : World) (e : Ending) (w' : World) : Prop :=
  ∃ A n c, e = .returned (.slice A n c) ∧ w'.ownsRow w.heap.size 21 1 (.slice A n c) n (zs.map (Value.int .i32)) ∧ Below w.heap.size w w'
theorem ownI_below {w w' : World} {base : Nat} {e : TypeId} {size : Nat} {v : Value} {n : Nat} {xs : List Value} (h : w.ownsRow base e size v n xs) (hb : Below w.heap.size w w') : w'.ownsRow base e size v n xs :=
  h.kept (grownBy_below (row := none) hb) (by cases v.ownBlock <;> simp)
end Go.Proofs.YtappnfifhpmekaaDoor
