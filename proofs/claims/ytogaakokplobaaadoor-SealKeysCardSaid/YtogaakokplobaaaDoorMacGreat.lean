/-
  How great parts are, and copies of them: what the laws of layer 4 ask of what they are handed, and make of it.
-/
import Derived.Test.YtogaakokplobaaaDoorShaSize
import Derived.Test.YtogaakokplobaaaDoorMacPts
import Derived.Maps.AppendAt
namespace Go.Proofs.YtogaakokplobaaaDoor
open Go.RowKit

/-- More parts and bytes than are gone through? -/
def greatB (L : List (List Int)) : Bool := decide (16384 < L.length + L.flatten.length)
theorem flat_take_le (L : List (List Int)) (k : Nat) : (L.take k).flatten.length ≤ L.flatten.length := by
  have h4 := congrArg (fun l => l.flatten.length) (List.take_append_drop k L)
  simp only [List.flatten_append, List.length_append] at h4
  omega
theorem retB' {a b : Bool} (h : a = b) : Ending.returned (.bool a) = .returned (.bool b) := by rw [h]

theorem great_not {L : List (List Int)} (h : greatB L = false) : L.length + L.flatten.length ≤ 16384 := by
  unfold greatB at h
  rw [decide_eq_false_iff_not] at h
  omega

/-- The first j places of a row hold copies of the first j lists, each in a block of its own behind the row's. -/
def Copied (w : World) (G : Nat) (xs : List Value) (L : List (List Int)) (j : Nat) : Prop :=
  ∀ k, k < j → ∃ g m, xs[k]? = some (.slice (some ⟨g, 0, none⟩) m m) ∧ G < g ∧ Sb w (some ⟨g, 0, none⟩) m (L.getD k []) ∧ m ≤ 9223372036854775807 ∧ B8s (L.getD k [])
theorem Copied.below {w w' : World} {G : Nat} {xs : List Value} {L : List (List Int)} {j : Nat} (h : Copied w G xs L j) (hb : Below w.heap.size w w') : Copied w' G xs L j := fun k hk => by
  obtain ⟨g, m, h1, h2, h3, h4⟩ := h k hk
  exact ⟨g, m, h1, h2, h3.below hb, h4⟩
theorem Copied.stored {w : World} {G : Nat} {xs : List Value} {L : List (List Int)} {j g m : Nat} (h : Copied w G xs L j) (hx : j < xs.length) (hg : G < g) (hs : Sb w (some ⟨g, 0, none⟩) m (L.getD j [])) (hm : m ≤ 9223372036854775807) (h8 : B8s (L.getD j [])) :
    Copied (w.setCell ⟨G, j, none⟩ (.slice (some ⟨g, 0, none⟩) m m)) G (xs.set j (.slice (some ⟨g, 0, none⟩) m m)) L (j + 1) := fun k hk => by
  have far : ∀ {g' m' : Nat} {z : List Int}, G < g' → Sb w (some ⟨g', 0, none⟩) m' z → Sb (w.setCell ⟨G, j, none⟩ (.slice (some ⟨g, 0, none⟩) m m)) (some ⟨g', 0, none⟩) m' z := fun hlt hz =>
    hz.grown (grownBy_set w _ _) (fun ad had _ e => by
      simp only [Option.some.injEq] at had e
      subst had
      simp only at e
      omega)
  by_cases hkj : k = j
  · subst hkj
    exact ⟨g, m, by rw [List.getElem?_set_self hx], hg, far hg hs, hm, h8⟩
  · obtain ⟨g', m', h1, h2, h3, h4⟩ := h k (by omega)
    exact ⟨g', m', by rw [List.getElem?_set_ne (fun e => hkj e.symm)]; exact h1, h2, far h2 h3, h4⟩
theorem Copied.all {w : World} {G : Nat} {xs : List Value} {L : List (List Int)} {j : Nat} (h : Copied w G xs L j) (hx : xs.length = j) (hL : L.length = j) : Pv w xs L :=
  ⟨hx.trans hL.symm, fun k hk => by
    obtain ⟨g, m, h1, _, h3, h4, h5⟩ := h k (by omega)
    exact ⟨_, m, m, h1, h3, Nat.le_refl _, h4, h5⟩⟩

theorem mac_eql (s : List Int) (h : s.length = 32) : ∀ w, (binOp .eql 46 (.agg (u8A s)) (.agg (u8A s))).run Tryd.prog w = .ok (.bool true) w := fun w => by
  rw [run_eql_u8A w 46 5 32 Tryd.underlying46 Tryd.underlying5 size1 s s h h]
  simp

end Go.Proofs.YtogaakokplobaaaDoor
