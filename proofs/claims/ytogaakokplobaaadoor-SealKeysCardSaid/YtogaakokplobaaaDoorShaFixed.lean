/-
  The contract of fixed: the chapter's examples.
-/
import Derived.Test.YtogaakokplobaaaDoorShaSumW
import Derived.Test.YtogaakokplobaaaDoorShaKat
import Derived.Lib.SlBytesConst
namespace Go.Proofs.YtogaakokplobaaaDoor
open Go.RowKit

theorem Ps.zero (w : World) : Ps w none 0 [] := ⟨rfl, fun h => absurd h (by omega)⟩
/-- Parts that lie in one block from its head on. -/
theorem Ps.of {w : World} {b n : Nat} {L : List (List Int)} (hl : L.length = n) (hb : 0 < n → b < w.heap.size)
    (h : ∀ k, k < n → ∃ A' m c', w.cell? ⟨b, k, none⟩ = some (.slice A' m c') ∧ Sb w A' m (L.getD k []) ∧ m ≤ c' ∧ c' ≤ 9223372036854775807 ∧ B8s (L.getD k [])) : Ps w (some ⟨b, 0, none⟩) n L :=
  ⟨hl, fun hn => ⟨_, rfl, hb hn, fun k hk => by
    obtain ⟨A', m, c', h1, h2⟩ := h k hk
    exact ⟨A', m, c', by rw [addHead]; exact h1, h2⟩⟩⟩

end Go.Proofs.YtogaakokplobaaaDoor
