/-
  How a header and an array of 32 bytes that came in are opened.
-/
import Derived.Test.YtogaakokplobaaaDoorOpen
import Derived.Test.YtogaakokplobaaaDoorSealHead
import Derived.Deep.Fields
import Derived.OpenShut
namespace Go.Proofs.YtogaakokplobaaaDoor
open Go.ChangeShapes Go.WideShapes Go.ChangeAt Go.RowKit Go.Deep

theorem cellsHd : Tryd.prog.cellsOf 26 = 4 := by kernel_rfl
theorem cells1 : Tryd.prog.cellsOf 4 = 1 := by kernel_rfl
theorem cells32 : Tryd.prog.cellsOf 23 = 1 := by kernel_rfl
theorem cells64 : Tryd.prog.cellsOf 24 = 1 := by kernel_rfl
theorem cellsA32 : Tryd.prog.cellsOf 46 = 32 := by kernel_rfl

theorem open_header {H : Type} {enc : TypeId × Value → H} {W : World} {base : Nat} {v : Value} {d : DataW H} {p : List MemPlace} (hv : Value.okWide Tryd.prog W .any base 26 v)
    (h : DataW.Trod enc Tryd.prog W 0 (fun _ => true) true 26 v d p) : ∃ g : Hd, v = .agg (hdA g) ∧ HdOk g := by
  obtain ⟨cs, rfl, hcs⟩ := okWide_struct Tryd.underlying26 hv
  rw [cellsHd] at hcs
  obtain ⟨fuel, hf⟩ := h
  obtain ⟨ys, n1, hn1, hys, _, hyl, hf⟩ := DataW.trod_struct Tryd.underlying26 hf
  obtain ⟨l⟩ := cs
  match l, hcs with
  | [v0, v1, v2, v3], _ =>
    match ys, hyl with
    | [y0, y1, y2, y3], _ =>
      have f0 : DataW.trod enc Tryd.prog W 0 (fun _ => true) true n1 5 [v0] = some y0 := by simpa [cells8, Value.cells] using hf 0 _ rfl
      have f1 : DataW.trod enc Tryd.prog W 0 (fun _ => true) true n1 4 [v1] = some y1 := by simpa [cells1, Value.cells] using hf 1 _ rfl
      have f2 : DataW.trod enc Tryd.prog W 0 (fun _ => true) true n1 23 [v2] = some y2 := by simpa [cells32, Value.cells] using hf 2 _ rfl
      have f3 : DataW.trod enc Tryd.prog W 0 (fun _ => true) true n1 24 [v3] = some y3 := by simpa [cells64, Value.cells] using hf 3 _ rfl
      obtain ⟨k, e0, _, w0⟩ := DataW.trod_int Tryd.underlying5 f0
      obtain ⟨b, e1, _⟩ := DataW.trod_bool Tryd.underlying4 f1
      obtain ⟨ep, e2, _, w2⟩ := DataW.trod_int Tryd.underlying23 f2
      obtain ⟨s, e3, _, w3⟩ := DataW.trod_int Tryd.underlying24 f3
      injection e0 with e0
      injection e1 with e1
      injection e2 with e2
      injection e3 with e3
      subst e0 e1 e2 e3
      have b0 := bounds_u8 w0
      have b2 := bounds_u32 w2
      have b3 := bounds_u64 w3
      exact ⟨⟨k, b, ep, s⟩, rfl, ⟨b0.1, b0.2, b2.1, b2.2, b3.1, b3.2⟩⟩

theorem open_arr32 {H : Type} {enc : TypeId × Value → H} {W : World} {base : Nat} {v : Value} {d : DataW H} {p : List MemPlace} (hv : Value.okWide Tryd.prog W .any base 46 v)
    (h : DataW.Trod enc Tryd.prog W 0 (fun _ => true) true 46 v d p) : ∃ ks : List Int, v = .agg (u8A ks) ∧ (ks.length = 32 ∧ B8s ks) := by
  have hv' : ∃ cs : Array Value, v = .agg cs ∧ cs.size = 32 := by
    simp only [Value.okWide, Tryd.underlying46] at hv
    obtain ⟨cs, h1, h2, _⟩ := hv
    exact ⟨cs, h1, by rw [h2, cellsA32]⟩
  obtain ⟨cs, rfl, hcs⟩ := hv'
  obtain ⟨fuel, hf⟩ := h
  obtain ⟨xs, n1, _, _, _, hxl, hf⟩ := DataW.trod_array Tryd.underlying46 hf
  obtain ⟨l⟩ := cs
  have hl : l.length = 32 := by simpa using hcs
  have hat : ∀ i, i < 32 → ∃ z : Int, l[i]? = some (.int .u8 z) ∧ 0 ≤ z ∧ z ≤ 255 := by
    intro i hi
    have h1 := hf i hi
    rw [cells8, Nat.mul_one] at h1
    rw [List.getElem?_eq_getElem (by omega)] at h1
    obtain ⟨z, e, _, w⟩ := DataW.trod_int Tryd.underlying5 h1
    have e' : (l.drop i).take 1 = [.int .u8 z] := e
    refine ⟨z, ?_, bounds_u8 w⟩
    have := congrArg (fun q => q[0]?) e'
    simpa using this
  have key : ∀ (l : List Value), (∀ i, i < l.length → ∃ z : Int, l[i]? = some (.int .u8 z) ∧ 0 ≤ z ∧ z ≤ 255) → ∃ ks : List Int, l = ks.map (Value.int .u8) ∧ B8s ks := by
    intro l
    induction l with
    | nil => exact fun _ => ⟨[], rfl, fun _ h => by cases h⟩
    | cons a l ih =>
      intro h
      obtain ⟨z, hz, hz1⟩ := h 0 (by simp)
      obtain ⟨ks, rfl, hk⟩ := ih fun i hi => h (i + 1) (by simpa using hi)
      refine ⟨z :: ks, by simp at hz; rw [hz]; rfl, fun y hy => ?_⟩
      rcases List.mem_cons.1 hy with rfl | hy
      · exact hz1
      · exact hk y hy
  obtain ⟨ks, rfl, hk⟩ := key l (by rw [hl]; exact hat)
  exact ⟨ks, rfl, by simpa using hl, hk⟩
end Go.Proofs.YtogaakokplobaaaDoor
