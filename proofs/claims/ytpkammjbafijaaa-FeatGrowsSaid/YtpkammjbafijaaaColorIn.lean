/-
  How a colour is opened.
-/
import Derived.Test.YtpkammjbafijaaaOpen
import Derived.Test.YtpkammjbafijaaaWireMem
namespace Go.Proofs.Ytpkammjbafijaaa
open Go.ChangeShapes Go.WideShapes Go.ChangeAt Go.RowKit

theorem wf_u32 {a : Int} (h : (Lit.int .u32 a).wf = true) : 0 ≤ a ∧ a ≤ 4294967295 := by
  have h2 : (decide ((0 : Int) ≤ a) && decide (a ≤ 4294967295)) = true := h
  simpa using h2
theorem wf_u8 {a : Int} (h : (Lit.int .u8 a).wf = true) : 0 ≤ a ∧ a ≤ 255 := by
  have h2 : (decide ((0 : Int) ≤ a) && decide (a ≤ 255)) = true := h
  simpa using h2
variable {H : Type} {enc : TypeId × Value → H} {W : World} {base : Nat} {v : Value} {d : DataW H} {p : List MemPlace}

theorem open_u32h (hv : Value.okWide Try.prog W .any base 22 v) (h : DataW.Trod enc Try.prog W 0 (fun _ => true) true 22 v d p) : ∃ k : Int, v = .int .u32 k ∧ (0 ≤ k ∧ k ≤ 4294967295) := by
  obtain ⟨a, rfl, _, _, w⟩ := open_int Try.underlying22 hv h
  exact ⟨a, rfl, wf_u32 w⟩
theorem open_u8h (hv : Value.okWide Try.prog W .any base 5 v) (h : DataW.Trod enc Try.prog W 0 (fun _ => true) true 5 v d p) : ∃ k : Int, v = .int .u8 k ∧ (0 ≤ k ∧ k ≤ 255) := by
  obtain ⟨a, rfl, _, _, w⟩ := open_int Try.underlying5 hv h
  exact ⟨a, rfl, wf_u8 w⟩
end Go.Proofs.Ytpkammjbafijaaa
