/-
  Two known sums, by the kernel.
-/
import Derived.Test.YtogaakokplobaaaDoorShaSum
namespace Go.Proofs.YtogaakokplobaaaDoor
open Go

theorem kat0 : (shaS []).getD 0 0 = 227 ∧ (shaS []).getD 31 0 = 85 := by decide +kernel
theorem katA : (shaS [97, 98, 99]).getD 0 0 = 186 ∧ (shaS [97, 98, 99]).getD 1 0 = 120 ∧ (shaS [97, 98, 99]).getD 31 0 = 173 := by decide +kernel
end Go.Proofs.YtogaakokplobaaaDoor
