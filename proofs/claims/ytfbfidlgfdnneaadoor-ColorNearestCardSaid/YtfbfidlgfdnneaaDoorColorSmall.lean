/-
  Layer 13's small functions: which colours may be, levels, squares; and the parts of a colour.
-/
import Derived.Test.YtfbfidlgfdnneaaDoorColorTab
import Derived.BigQuiet
import Derived.Handy
namespace Go.Proofs.YtfbfidlgfdnneaaDoor
open Go.RowKit

theorem belowNc {B : Nat} {a w : World} (h : Below B a w) (n : Nat) : Below B a (w.drewN n) := ⟨h.os, h.tape, h.output, h.size, h.block⟩
theorem hueMay_code (c : Int) (w : World) : Calls Tryd.prog 19 #[.int .u32 c] w fun e w' => e = .returned (.bool (hueMay c)) ∧ w = w' := by
  obtain ⟨B, hB⟩ : ∃ B, hueMay c = B := ⟨_, rfl⟩
  rw [hB]
  have HB := Lib.hid hB
  clear hB
  by_cases h1 : c ≤ 256
  · have hb : B = true := by rw [← HB.out]; simp [hueMay]; omega
    subst hb
    go_enter Tryd.func19, Tryd.ntmps19
    go_wp2_with fail
    go_ret
    exact ⟨rfl, rfl⟩
  · by_cases h2 : 16777216 ≤ c
    · by_cases h3 : c ≤ 33554431
      · have hb : B = true := by rw [← HB.out]; simp [hueMay]; omega
        subst hb
        go_enter Tryd.func19, Tryd.ntmps19
        go_wp2_with fail
        go_ret
        exact ⟨rfl, rfl⟩
      · have hb : B = false := by rw [← HB.out]; simp [hueMay]; omega
        subst hb
        go_enter Tryd.func19, Tryd.ntmps19
        go_wp2_with fail
        go_ret
        exact ⟨rfl, rfl⟩
    · have hb : B = false := by rw [← HB.out]; simp [hueMay]; omega
      subst hb
      go_enter Tryd.func19, Tryd.ntmps19
      go_wp2_with fail
      go_ret
      exact ⟨rfl, rfl⟩
theorem hueMay_ref (c : Int) (w : World) : Calls Tryd.prog 21 #[.int .u32 c] w fun e w' => e = .returned (.bool (hueMay c)) ∧ w = w' := by
  obtain ⟨B, hB⟩ : ∃ B, hueMay c = B := ⟨_, rfl⟩
  rw [hB]
  have HB := Lib.hid hB
  clear hB
  by_cases h1 : c ≤ 256
  · have hb : B = true := by rw [← HB.out]; simp [hueMay]; omega
    subst hb
    go_enter Tryd.func21, Tryd.ntmps21
    go_wp2_with fail
    go_ret
    exact ⟨rfl, rfl⟩
  · by_cases h2 : 16777216 ≤ c
    · by_cases h3 : c < 33554432
      · have hb : B = true := by rw [← HB.out]; simp [hueMay]; omega
        subst hb
        go_enter Tryd.func21, Tryd.ntmps21
        go_wp2_with fail
        go_ret
        exact ⟨rfl, rfl⟩
      · have hb : B = false := by rw [← HB.out]; simp [hueMay]; omega
        subst hb
        go_enter Tryd.func21, Tryd.ntmps21
        go_wp2_with fail
        go_ret
        exact ⟨rfl, rfl⟩
    · have hb : B = false := by rw [← HB.out]; simp [hueMay]; omega
      subst hb
      go_enter Tryd.func21, Tryd.ntmps21
      go_wp2_with fail
      go_ret
      exact ⟨rfl, rfl⟩
theorem ofThree_any {c : Int} (w : World) : Calls Tryd.prog 20 #[.int .u32 c] w fun e w' => e = .returned (.bool (decide (threeS c))) ∧ w = w' := by
  obtain ⟨B, hB⟩ : ∃ B, decide (threeS c) = B := ⟨_, rfl⟩
  rw [hB]
  have HB := Lib.hid hB
  clear hB
  by_cases h1 : 16777216 ≤ c
  · by_cases h2 : c ≤ 33554431
    · have hb : B = true := by rw [← HB.out]; exact decide_eq_true (by unfold threeS; omega)
      subst hb
      have hm : hueMay c = true := by simp [hueMay]; omega
      go_enter Tryd.func20, Tryd.ntmps20
      go_wp2_with fail
      refine (hueMay_code _ _).mono ?_
      rintro e w1 ⟨rfl, rfl⟩
      rw [hm]
      go_wp2_with fail
      go_ret
      exact ⟨rfl, rfl⟩
    · have hb : B = false := by rw [← HB.out]; exact decide_eq_false (by unfold threeS; omega)
      subst hb
      have hm : hueMay c = false := by simp [hueMay]; omega
      go_enter Tryd.func20, Tryd.ntmps20
      go_wp2_with fail
      refine (hueMay_code _ _).mono ?_
      rintro e w1 ⟨rfl, rfl⟩
      rw [hm]
      go_wp2_with fail
      go_ret
      exact ⟨rfl, rfl⟩
  · have hb : B = false := by rw [← HB.out]; exact decide_eq_false (by unfold threeS; omega)
    subst hb
    go_enter Tryd.func20, Tryd.ntmps20
    go_wp2_with fail
    go_ret
    exact ⟨rfl, rfl⟩
theorem beyond_any {c : Int} (w : World) : Calls Tryd.prog 26 #[.int .u32 c] w fun e w' => e = .returned (.bool (decide (17 ≤ c ∧ c ≤ 256))) ∧ w = w' := by
  obtain ⟨B, hB⟩ : ∃ B, decide (17 ≤ c ∧ c ≤ 256) = B := ⟨_, rfl⟩
  rw [hB]
  have HB := Lib.hid hB
  clear hB
  by_cases h1 : 17 ≤ c
  · by_cases h2 : c ≤ 256
    · have hb : B = true := by rw [← HB.out]; simp; omega
      subst hb
      go_enter Tryd.func26, Tryd.ntmps26
      go_wp2_with fail
      go_ret
      exact ⟨rfl, rfl⟩
    · have hb : B = false := by rw [← HB.out]; simp; omega
      subst hb
      go_enter Tryd.func26, Tryd.ntmps26
      go_wp2_with fail
      go_ret
      exact ⟨rfl, rfl⟩
  · have hb : B = false := by rw [← HB.out]; simp; omega
    subst hb
    go_enter Tryd.func26, Tryd.ntmps26
    go_wp2_with fail
    go_ret
    exact ⟨rfl, rfl⟩
theorem level_any {k : Int} (h0 : 0 ≤ k) (h1 : k ≤ 5) (w : World) : Calls Tryd.prog 22 #[.int .i64 k] w fun e w' => e = .returned (.int .i64 (levelS k)) ∧ w = w' := by
  obtain ⟨V, hV⟩ : ∃ V, levelS k = V := ⟨_, rfl⟩
  rw [hV]
  have HV := Lib.hid hV
  clear hV
  by_cases h : k = 0
  · subst h
    obtain rfl : V = 0 := HV.out.symm
    go_enter Tryd.func22, Tryd.ntmps22
    go_wp2_with fail
    go_ret
    exact ⟨rfl, rfl⟩
  · have hV2 : V = 55 + 40 * k := by rw [← HV.out]; simp [levelS, h]
    have HV2 := Lib.hid hV2
    clear hV2
    have hw1 : IntKind.i64.wrap (40 * k) = 40 * k := by rw [IntKind.wrap_i64]; omega
    have hw2 : IntKind.i64.wrap (55 + 40 * k) = 55 + 40 * k := by rw [IntKind.wrap_i64]; omega
    go_enter Tryd.func22, Tryd.ntmps22
    go_wp2_with fail
    go_ret
    rw [HV2.out]
    exact ⟨rfl, rfl⟩
theorem square_any {n : Int} (h0 : -255 ≤ n) (h1 : n ≤ 255) (w : World) : Calls Tryd.prog 28 #[.int .i64 n] w fun e w' => e = .returned (.int .i64 (n * n)) ∧ w = w' := by
  have hb : 0 ≤ n * n ∧ n * n ≤ 65025 := by
    rcases Int.le_total 0 n with h | h
    · exact ⟨Int.mul_nonneg h h, by have := Int.mul_le_mul h1 h1 h (by omega); omega⟩
    · have e : n * n = (-n) * (-n) := by rw [Int.neg_mul_neg]
      rw [e]
      exact ⟨Int.mul_nonneg (by omega) (by omega), by have := Int.mul_le_mul (show -n ≤ 255 by omega) (show -n ≤ 255 by omega) (by omega) (by omega); omega⟩
  generalize hm : n * n = m at hb ⊢
  have HM := Lib.hid hm
  have hw1 : IntKind.i64.wrap (n * n) = m := by rw [HM.out, IntKind.wrap_i64]; omega
  clear hm
  go_enter Tryd.func28, Tryd.ntmps28
  go_wp2_with fail
  go_ret
  exact ⟨rfl, rfl⟩
end Go.Proofs.YtfbfidlgfdnneaaDoor
