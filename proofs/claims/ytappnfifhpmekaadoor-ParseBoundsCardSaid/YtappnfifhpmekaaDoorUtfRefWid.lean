/-
  The reference's May, in and Width.
-/
import Derived.Test.YtappnfifhpmekaaDoorUtfWid
import Derived.BigQuiet
namespace Go.Proofs.YtappnfifhpmekaaDoor
open Go.RowKit

theorem may_any (r : Int) (w : World) : Calls Tryd.prog 23 #[.int .i32 r] w fun e w' => e = .returned (.bool (mayS r)) ∧ w = w' := by
  obtain ⟨B, hB⟩ : ∃ B, mayS r = B := ⟨_, rfl⟩
  rw [hB]
  have HB := Lib.hid hB
  clear hB
  by_cases h1 : 0 ≤ r
  · by_cases h2 : r ≤ 55295
    · have hb : B = true := by rw [← HB.out, mayS_iff]; omega
      subst hb
      go_enter Tryd.func23, Tryd.ntmps23
      go_wp2_with fail
      go_ret
      exact ⟨rfl, rfl⟩
    · by_cases h3 : 57344 ≤ r
      · by_cases h4 : r ≤ 1114111
        · have hb : B = true := by rw [← HB.out, mayS_iff]; omega
          subst hb
          go_enter Tryd.func23, Tryd.ntmps23
          go_wp2_with fail
          go_ret
          exact ⟨rfl, rfl⟩
        · have hb : B = false := by rw [← HB.out, mayS]; simp; omega
          subst hb
          go_enter Tryd.func23, Tryd.ntmps23
          go_wp2_with fail
          go_ret
          exact ⟨rfl, rfl⟩
      · have hb : B = false := by rw [← HB.out, mayS]; simp; omega
        subst hb
        go_enter Tryd.func23, Tryd.ntmps23
        go_wp2_with fail
        go_ret
        exact ⟨rfl, rfl⟩
  · have h3 : ¬ 57344 ≤ r := by omega
    have hb : B = false := by rw [← HB.out, mayS]; simp; omega
    subst hb
    go_enter Tryd.func23, Tryd.ntmps23
    go_wp2_with fail
    go_ret
    exact ⟨rfl, rfl⟩
end Go.Proofs.YtappnfifhpmekaaDoor
