/-
  How many bytes and parts: the law's measure of what it is handed.
-/
import Derived.Test.YtogaakokplobaaaDoorShaParts
namespace Go.Proofs.YtogaakokplobaaaDoor
open Go.RowKit

theorem Ps.below {w w' : World} {A : Option Addr} {n : Nat} {L : List (List Int)} (h : Ps w A n L) (hb : Below w.heap.size w w') : Ps w' A n L := by
  refine ⟨h.len, fun hn => ?_⟩
  obtain ⟨ad, h1, h2, h3⟩ := h.at_ hn
  refine ⟨ad, h1, Nat.lt_of_lt_of_le h2 hb.size, fun k hk => ?_⟩
  obtain ⟨A', m, c', e1, e2, e3⟩ := h3 k hk
  exact ⟨A', m, c', (hb.cell (p := ad.add k) (by rw [addBlock]; exact h2)).trans e1, e2.below hb, e3⟩

theorem flat_take {L : List (List Int)} {k : Nat} (hk : k < L.length) : (L.take (k + 1)).flatten.length = (L.take k).flatten.length + (L.getD k []).length := by
  rw [List.take_succ_eq_append_getElem hk, List.flatten_append]
  simp [List.getD, List.getElem?_eq_getElem hk]

end Go.Proofs.YtogaakokplobaaaDoor
