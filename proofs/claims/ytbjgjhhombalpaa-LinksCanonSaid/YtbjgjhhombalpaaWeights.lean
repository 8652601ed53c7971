/-
  What the form's reach says of one argument.
-/
import Derived.Test.YtbjgjhhombalpaaOpen
namespace Go.Proofs.Ytbjgjhhombalpaa
open Go.ChangeShapes Go.WideShapes Go.ChangeAt Go.RowKit

theorem weights_at {H : Type} {P : Program} {ts : List TypeId} {ds : List (DataW H)} (h : (DataW.weightsEach P ts ds).all (· ≤ reachBytes) = true) {j : Nat} {t : TypeId} {d : DataW H} (ht : ts[j]? = some t) (hd : ds[j]? = some d) : ∀ x ∈ d.weights P t, x ≤ reachBytes :=
  fun x hx => by simpa using List.all_eq_true.1 h x (DataW.weights_mem_each ht hd x hx)
end Go.Proofs.Ytbjgjhhombalpaa
