/-
  utf.beginning: how many bytes at the head an unfinished rune has at most.
-/
import Derived.Test.YtappnfifhpmekaaDoorUtfFull
import Derived.LoopTactic
import Derived.Deep.CutBlock
namespace Go.Proofs.YtappnfifhpmekaaDoor
open Go.RowKit

theorem sL_take (s : ByteArray) (k : Nat) : sL (s.extract 0 k) = (sL s).take k := by
  simp [sL, ByteArray.extract, ByteArray.copySlice]
/-- One more byte of the beginning. -/
theorem begLen_step {L : List Int} {n : Nat} (hn : n ≤ begLen L) (h : n < L.length) : begS (L.take (n + 1)) = decide (n < begLen L) := by
  have h3 : n ≤ 3 := by
    have : begLen L ≤ 3 := by rcases L with _ | ⟨a, _ | ⟨b, _ | ⟨c, t⟩⟩⟩ <;> simp [begLen] <;> (repeat' split) <;> omega
    omega
  have hn4 : n = 0 ∨ n = 1 ∨ n = 2 ∨ n = 3 := by omega
  rcases L with _ | ⟨a, _ | ⟨b, _ | ⟨c, _ | ⟨d, t⟩⟩⟩⟩
  · simp at h
  all_goals
    simp at h
    rcases hn4 with rfl | rfl | rfl | rfl <;> (first | (exfalso; omega) | skip) <;>
    rcases szF_le a with ha | ha | ha | ha | ha <;> simp [begLen, begS, ha] at hn ⊢ <;> (repeat' split at hn) <;> simp_all <;> (repeat' split) <;> omega
/-- The number that a value is. -/
def iOf : Value → Int
  | .int _ x => x
  | _ => 0
theorem begLen_le (L : List Int) : begLen L ≤ L.length ∧ begLen L ≤ 3 := by
  rcases L with _ | ⟨a, _ | ⟨b, _ | ⟨c, t⟩⟩⟩ <;> simp [begLen] <;> (repeat' split) <;> omega

end Go.Proofs.YtappnfifhpmekaaDoor
