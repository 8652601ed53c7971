/-
  Labels: strings as bytes; what is told of a label and parts, and how long that is.
-/
import Derived.Test.YtogaakokplobaaaDoorMacSpec
import Derived.Test.YtogaakokplobaaaDoorMacApp
import Derived.Test.YtogaakokplobaaaDoorMacGreat
import Derived.Test.YtogaakokplobaaaDoorWireVar
import Derived.Test.YtogaakokplobaaaDoorWireBackSpec
import Derived.Lib.ConvBytes
import Derived.Lib.AppendStr
import Derived.ChangeMaps5
namespace Go.Proofs.YtogaakokplobaaaDoor
open Go.ChangeShapes Go.WideShapes Go.ChangeAt Go.RowKit Go.Deep

/-- A string's bytes as numbers. -/
def strL (s : ByteArray) : List Int := s.data.toList.map fun b => (b.toNat : Int)
theorem strL_len (s : ByteArray) : (strL s).length = s.size := by simp [strL]
theorem strL_b (s : ByteArray) : B8s (strL s) := fun z hz => by
  obtain ⟨b, _, rfl⟩ := List.mem_map.1 hz
  have := b.toNat_lt
  omega
theorem strL_cells (s : ByteArray) : Lib.strCells s = (strL s).map (Value.int .u8) := by simp [Lib.strCells, strL]

/-- The conversion of a string: its bytes in a new row. -/
theorem strBytes (w : World) (s : ByteArray) (hs : s.size ≤ 140737488351232) :
    ∃ (c2 : Nat) (w2 : World), (convert 9 22 (.string s)).run Tryd.prog w = .ok (.slice (some ⟨w.heap.size, 0, none⟩) s.size c2) w2 ∧ Below w.heap.size w w2 ∧ Sb w2 (some ⟨w.heap.size, 0, none⟩) s.size (strL s) ∧ s.size ≤ c2 ∧ c2 ≤ 9223372036854775807 := by
  have h1 := grownCap_ge w s.size 0 5
  have h2 := grownCap_le_maxLen w s.size 0 5 (by unfold maxLen; omega)
  unfold maxLen at h2
  refine ⟨_, _, Lib.run_convert_string_bytes w 9 22 5 s Tryd.underlying9 Tryd.underlying22 Tryd.underlying5, ⟨rfl, rfl, rfl, ?_, fun j hj => Lib.bytesWorld_at_old w _ s j hj⟩, ⟨strL_len s, fun _ => ⟨_, rfl, ?_, fun k hk => ?_⟩⟩, h1, by omega⟩
  · rw [Lib.bytesWorld_size]; omega
  · rw [Lib.bytesWorld_size]; simp
  · rw [addHead, Lib.bytesWorld_cell w _ s k hk, getD_lt (by rw [strL_len]; exact hk)]
    have e : s.data.toList.getD k 0 = s.data.toList[k]'(by simpa using hk) := by simp [List.getD, hk]
    rw [e]
    simp [strL]

/-- A label that came in. -/
theorem open_label {H : Type} {enc : TypeId × Value → H} {W : World} {base : Nat} {v : Value} {d : DataW H} {p : List MemPlace} (hw : ∀ x ∈ d.weights Tryd.prog 9, x ≤ reachBytes) (hv : Value.okWide Tryd.prog W .any base 9 v)
    (h : DataW.Trod enc Tryd.prog W 0 (fun _ => true) true 9 v d p) : ∃ s : ByteArray, v = .string s ∧ s.size ≤ 140737488351232 := by
  obtain ⟨s, rfl, rfl, rfl, _⟩ := Go.ChangeMaps.open_string Tryd.underlying9 hv h
  refine ⟨s, rfl, ?_⟩
  have := hw s.data.toList.length (by simp [DataW.weights])
  unfold reachBytes at this
  simpa using this

theorem toldL_len (L : List (List Int)) : ((L.map fun z => varL z.length ++ z).flatten).length ≤ 10 * L.length + L.flatten.length := by
  induction L with
  | nil => simp
  | cons z L ih =>
    have h1 := varL_len (z.length : Int)
    simp only [List.map_cons, List.flatten_cons, List.length_append, List.length_cons] at ih ⊢
    omega
theorem toldS_len (l : List Int) (L : List (List Int)) : (toldS l L).length ≤ 10 + l.length + 10 * L.length + L.flatten.length := by
  have h1 := varL_len (l.length : Int)
  have h2 := toldL_len L
  unfold toldS
  simp only [List.length_append]
  omega
/-- What is told of the first j parts. -/
def toldK (l : List Int) (L : List (List Int)) (j : Nat) : List Int := toldS l (L.take j)
theorem toldK_snoc (l : List Int) {L : List (List Int)} {j : Nat} (hj : j < L.length) : toldK l L (j + 1) = (toldK l L j ++ varL ((L.getD j []).length : Int)) ++ L.getD j [] := by
  unfold toldK toldS
  rw [List.take_succ_eq_append_getElem hj, List.map_append, List.flatten_append]
  simp [List.getD, List.getElem?_eq_getElem hj]
theorem toldK_all (l : List Int) (L : List (List Int)) : toldK l L L.length = toldS l L := by unfold toldK; rw [List.take_length]
theorem toldK_zero (l : List Int) (L : List (List Int)) : toldK l L 0 = varL l.length ++ l := by simp [toldK, toldS]
theorem toldK_len (l : List Int) (L : List (List Int)) (j : Nat) : (toldK l L j).length ≤ 10 + l.length + 10 * L.length + L.flatten.length := by
  have h1 := toldS_len l (L.take j)
  have h2 := flat_take_le L j
  have h3 : (L.take j).length ≤ L.length := List.length_take_le' _ _
  unfold toldK
  omega
theorem varL_b {n : Int} (h : 0 ≤ n ∧ n ≤ 18446744073709551615) : B8s (varL n) := varL_u8 h.1 h.2

end Go.Proofs.YtogaakokplobaaaDoor
