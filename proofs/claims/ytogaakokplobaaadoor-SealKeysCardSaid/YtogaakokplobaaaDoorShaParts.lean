/-
  Slices of slices of bytes that came in; how many bytes and parts they are; copies held against them.
-/
import Derived.Test.YtogaakokplobaaaDoorShaPts
import Derived.Test.YtogaakokplobaaaDoorWireLeaf
import Derived.Deep.Matrix
namespace Go.Proofs.YtogaakokplobaaaDoor
open Go.ChangeShapes Go.WideShapes Go.ChangeAt Go.RowKit Go.Deep

theorem cellsSl : Tryd.prog.cellsOf 22 = 1 := by kernel_rfl
theorem bytesSl : Tryd.prog.bytesOf 22 = 24 := by kernel_rfl
theorem weights_at {H : Type} {P : Program} {ts : List TypeId} {ds : List (DataW H)} (h : (DataW.weightsEach P ts ds).all (· ≤ reachBytes) = true) {j : Nat} {t : TypeId} {d : DataW H} (ht : ts[j]? = some t) (hd : ds[j]? = some d) : ∀ x ∈ d.weights P t, x ≤ reachBytes :=
  fun x hx => by simpa using List.all_eq_true.1 h x (DataW.weights_mem_each ht hd x hx)
theorem weightsA_all {H : Type} {P : Program} {e : TypeId} : ∀ {ds : List (DataW H)} {d : DataW H}, d ∈ ds → ∀ x ∈ d.weights P e, x ∈ DataW.weightsAll P e ds := by
  intro ds
  induction ds with
  | nil => intro d hd; cases hd
  | cons a r ih =>
    intro d hd x hx
    rw [DataW.weightsAll]
    rcases List.mem_cons.1 hd with rfl | hd
    · exact List.mem_append_left _ hx
    · exact List.mem_append_right _ (ih hd x hx)

/-- Parts that came in. -/
theorem open_parts {H : Type} {enc : TypeId × Value → H} {W : World} {base : Nat} {v : Value} {d : DataW H} {p : List MemPlace} (hw : ∀ x ∈ d.weights Tryd.prog 59, x ≤ reachBytes) (hv : Value.okWide Tryd.prog W .any base 59 v)
    (h : DataW.Trod enc Tryd.prog W 0 (fun _ => true) true 59 v d p) : ∃ A n c L, v = .slice A n c ∧ Ps W A n L ∧ n ≤ 140737488351232 ∧ (∀ l ∈ L, l.length ≤ 140737488351232) := by
  obtain ⟨A, n, c, rfl⟩ := okWide_slice Tryd.underlying59 hv
  obtain ⟨fuel, hf⟩ := h
  rcases open_int_rows Tryd.underlying59 Tryd.underlying22 Tryd.underlying5 cellsSl cells8 hf with ⟨hcs, _⟩ | ⟨a, len, cap, Ar, Lr, Cr, Zr, hcs, _, hl, hm, hx, hel⟩
  · simp [Value.cells] at hcs
    obtain ⟨rfl, rfl, rfl⟩ := hcs
    exact ⟨none, 0, 0, [], rfl, Ps.zero _, by omega, fun l hl => by cases hl⟩
  · simp [Value.cells] at hcs
    obtain ⟨rfl, rfl, rfl⟩ := hcs
    simp only [Prod.mk.injEq] at hx
    rw [hx.1] at hw
    simp only [DataW.weights, Tryd.underlying59, bytesSl, List.length_map, List.length_range, reachBytes] at hw
    have hn := hw _ (List.mem_cons_self ..)
    have hgetD : ∀ k, k < n → ((List.range n).map fun r => (Zr r).take (Lr r)).getD k [] = (Zr k).take (Lr k) := fun k hk => by
      simp only [List.getD, List.getElem?_map, List.getElem?_range hk, Option.map_some, Option.getD_some]
    have hlen : ∀ k, k < n → Lr k ≤ 140737488351232 := fun k hk => by
      obtain ⟨_, h2, _, h4, _, h6, _⟩ := hel k (by omega)
      cases hA : Ar k with
      | none => have := h6 hA; omega
      | some ak =>
        have hmem : intRow IntKind.u8 (Ar k) (Lr k) (Zr k) ∈ ((List.range n).map fun r => (intRow IntKind.u8 (Ar r) (Lr r) (Zr r) : DataW H)) := List.mem_map.2 ⟨k, List.mem_range.2 hk, rfl⟩
        have h7 := hw (((Zr k).take (Lr k)).length * 1 + ((Zr k).drop (Lr k)).length * 1) (List.mem_cons_of_mem _ (List.mem_append_left _ (weightsA_all hmem _ (by
          rw [hA]
          simp only [intRow, DataW.weights, Tryd.underlying22, bytes8, lits, List.length_map]
          rw [← Nat.add_mul]
          exact List.mem_cons_self ..))))
        simp only [List.length_take, List.length_drop] at h7
        omega
    refine ⟨some a, n, c, (List.range n).map fun r => (Zr r).take (Lr r), rfl, ⟨by simp, fun hpos => ⟨a, rfl, ?_, fun k hk => ?_⟩⟩, by omega, fun l hl => ?_⟩
    · have h0 := (hel 0 (by omega)).1
      have := World.block_lt_of_cell? W _ h0
      rwa [addBlock] at this
    · obtain ⟨h1, h2, h3, h4, h5, h6, h7⟩ := hel k (by omega)
      rw [hgetD k hk]
      refine ⟨Ar k, Lr k, Cr k, h1, ⟨by simp; omega, fun hp => ?_⟩, h2, by unfold maxLen at h3; omega, fun z hz => bounds_u8 (h5 z (List.mem_of_mem_take hz))⟩
      cases hA : Ar k with
      | none => have := h6 hA; omega
      | some ak =>
        obtain ⟨_, h8⟩ := h7 ak hA
        refine ⟨ak, rfl, ?_, fun j hj => ?_⟩
        · have := World.block_lt_of_cell? W _ (h8 0 (by omega))
          rwa [addBlock] at this
        · rw [h8 j (by omega), Go.Proofs.YtogaakokplobaaaDoor.getD_lt (by omega), Go.Proofs.YtogaakokplobaaaDoor.getD_lt (by simp; omega)]
          simp
    · obtain ⟨r, hr, rfl⟩ := List.mem_map.1 hl
      have := hlen r (List.mem_range.1 hr)
      simp only [List.length_take]
      omega

end Go.Proofs.YtogaakokplobaaaDoor
