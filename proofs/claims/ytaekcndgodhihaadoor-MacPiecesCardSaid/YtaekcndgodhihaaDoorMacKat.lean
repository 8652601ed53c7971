/-
  The chapter's example: the code of no key and no bytes.
-/
import Derived.Test.YtaekcndgodhihaaDoorMacSpec
namespace Go.Proofs.YtaekcndgodhihaaDoor

theorem katMac : (macS [] []).getD 0 0 = 182 ∧ (macS [] []).getD 1 0 = 19 ∧ (macS [] []).getD 31 0 = 173 := by decide +kernel

end Go.Proofs.YtaekcndgodhihaaDoor
