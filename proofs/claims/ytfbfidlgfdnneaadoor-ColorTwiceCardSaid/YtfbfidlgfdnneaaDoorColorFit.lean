/-
  What a colour becomes: To256, To16 and Fit, of the code and of the reference.
-/
import Derived.Test.YtfbfidlgfdnneaaDoorColorNearR
namespace Go.Proofs.YtfbfidlgfdnneaaDoor
open Go.RowKit

theorem and1_u32 {f : Int} (h0 : 0 ≤ f) (h1 : f < 4294967296) : bits .and .u32 f 1 = f % 2 := by
  rw [u32_and f 1 h0 h1 (by omega) (by omega)]
  show ((f.toNat &&& 1 : Nat) : Int) = f % 2
  rw [Nat.and_one_is_mod]
  omega
theorem and2_u32 {f : Int} (h0 : 0 ≤ f) (h1 : f < 4294967296) : bits .and .u32 f 2 = 2 * (f / 2 % 2) := by
  rw [u32_and f 2 h0 h1 (by omega) (by omega)]
  have e : (Int.toNat 2) = 2 := rfl
  have h1 : (f.toNat &&& 2) / 2 = f.toNat / 2 % 2 := by
    have := Nat.and_div_two_pow (a := f.toNat) (b := 2) (n := 1)
    rw [show (2 : Nat) ^ 1 = 2 from rfl] at this
    rw [this, show 2 / 2 = 1 from rfl, Nat.and_one_is_mod]
  have h2 : (f.toNat &&& 2) % 2 = 0 := by
    have := Nat.and_mod_two_pow (a := f.toNat) (b := 2) (n := 1)
    rw [show (2 : Nat) ^ 1 = 2 from rfl] at this
    rw [this]; simp
  rw [e]
  omega
theorem to256_any {c : Int} {w : World} (hT : CTabs w) (h0 : 0 ≤ c) : Calls Tryd.prog 13 #[.int .u32 c] w fun e w' => e = .returned (.int .u32 (to256S c)) ∧ Below w.heap.size w w' := by
  by_cases h3 : threeS c
  · have hd : decide (threeS c) = true := decide_eq_true h3
    have HE := Lib.hid (show to256S c = nearN c 17 239 from if_pos h3)
    clear h3
    go_enter Tryd.func13, Tryd.ntmps13
    go_wp2_with fail
    refine (ofThree_any _).mono ?_
    rintro e w1 ⟨rfl, rfl⟩
    rw [hd]
    go_wp2_with fail
    refine (nearest_any (N := 239) hT h0 (by omega) (by omega) (by omega)).mono ?_
    rintro e w2 ⟨rfl, hb⟩
    have HB := Lib.hid hb
    clear hb
    go_wp2_with fail
    go_ret
    rw [HE.out]
    exact ⟨rfl, HB.out⟩
  · have hd : decide (threeS c) = false := decide_eq_false h3
    have HE := Lib.hid (to256_id h3)
    clear h3
    go_enter Tryd.func13, Tryd.ntmps13
    go_wp2_with fail
    refine (ofThree_any _).mono ?_
    rintro e w1 ⟨rfl, rfl⟩
    rw [hd]
    go_wp2_with fail
    go_ret
    rw [HE.out]
    exact ⟨rfl, Below.refl _ _⟩
theorem to16_any {c : Int} {w : World} (hT : CTabs w) (h0 : 0 ≤ c) : Calls Tryd.prog 15 #[.int .u32 c] w fun e w' => e = .returned (.int .u32 (to16S c)) ∧ Below w.heap.size w w' := by
  by_cases h3 : threeS c
  · have hd : decide (threeS c) = true := decide_eq_true h3
    have HE := Lib.hid (show to16S c = nearN c 1 15 from if_pos (.inl h3))
    clear h3
    go_enter Tryd.func15, Tryd.ntmps15
    go_wp2_with fail
    refine (ofThree_any _).mono ?_
    rintro e w1 ⟨rfl, rfl⟩
    rw [hd]
    go_wp2_with fail
    refine (nearest_any (N := 15) hT h0 (by omega) (by omega) (by omega)).mono ?_
    rintro e w2 ⟨rfl, hb⟩
    have HB := Lib.hid hb
    clear hb
    go_wp2_with fail
    go_ret
    rw [HE.out]
    exact ⟨rfl, HB.out⟩
  · have hd : decide (threeS c) = false := decide_eq_false h3
    by_cases h2 : 17 ≤ c ∧ c ≤ 256
    · have hd2 : decide (17 ≤ c ∧ c ≤ 256) = true := decide_eq_true h2
      have HE := Lib.hid (show to16S c = nearN c 1 15 from if_pos (.inr h2))
      clear h3 h2
      go_enter Tryd.func15, Tryd.ntmps15
      go_wp2_with fail
      refine (ofThree_any _).mono ?_
      rintro e w1 ⟨rfl, rfl⟩
      rw [hd]
      go_wp2_with fail
      refine (beyond_any _).mono ?_
      rintro e w1 ⟨rfl, rfl⟩
      rw [hd2]
      go_wp2_with fail
      refine (nearest_any (N := 15) hT h0 (by omega) (by omega) (by omega)).mono ?_
      rintro e w2 ⟨rfl, hb⟩
      have HB := Lib.hid hb
      clear hb
      go_wp2_with fail
      go_ret
      rw [HE.out]
      exact ⟨rfl, HB.out⟩
    · have hd2 : decide (17 ≤ c ∧ c ≤ 256) = false := decide_eq_false h2
      have HE := Lib.hid (to16_id (c := c) (by rintro (h | h); exact h3 h; exact h2 h))
      clear h3 h2
      go_enter Tryd.func15, Tryd.ntmps15
      go_wp2_with fail
      refine (ofThree_any _).mono ?_
      rintro e w1 ⟨rfl, rfl⟩
      rw [hd]
      go_wp2_with fail
      refine (beyond_any _).mono ?_
      rintro e w1 ⟨rfl, rfl⟩
      rw [hd2]
      go_wp2_with fail
      go_ret
      rw [HE.out]
      exact ⟨rfl, Below.refl _ _⟩
/-- Fit by the code's way of asking. -/
theorem fit_code (c f : Int) : fitS c f = if threeS c ∧ bit1 f = true then c else if bit0 f = true then to256S c else to16S c := by
  unfold fitS
  by_cases h3 : threeS c
  · have h2 : ¬ (17 ≤ c ∧ c ≤ 256) := by unfold threeS at h3; omega
    by_cases h1 : bit1 f = true
    · rw [if_pos (.inl ⟨h3, h1⟩), if_pos ⟨h3, h1⟩]
    · rw [if_neg (by rintro (h | h); exact h1 h.2; exact h2 h.1), if_neg (fun (h : threeS c ∧ bit1 f = true) => h1 h.2)]
      by_cases h0 : bit0 f = true
      · rw [if_pos ⟨h3, h0⟩, if_pos h0]
      · rw [if_neg (fun (h : threeS c ∧ bit0 f = true) => h0 h.2), if_neg h0]
  · rw [if_neg (fun (h : threeS c ∧ bit1 f = true) => h3 h.1)]
    by_cases h0 : bit0 f = true
    · rw [if_pos h0, to256_id h3]
      by_cases h2 : 17 ≤ c ∧ c ≤ 256
      · rw [if_pos (.inr ⟨h2, h0⟩)]
      · rw [if_neg (by rintro (h | h); exact h3 h.1; exact h2 h.1), if_neg (fun h => h3 h.1)]
        exact to16_id (by rintro (h | h); exact h3 h; exact h2 h)
    · rw [if_neg h0, if_neg (by rintro (h | h); exact h3 h.1; exact h0 h.2), if_neg (fun h => h3 h.1)]
theorem fitW {c f : Int} {w : World} {T B1 B0 : Bool} (hT : CTabs w) (h0 : 0 ≤ c) (hd : decide (threeS c) = T) (hb1 : bits .and .u32 f 2 = if B1 then 2 else 0) (hb0 : bits .and .u32 f 1 = if B0 then 1 else 0) :
    Calls Tryd.prog 17 #[.int .u32 c, .int .u32 f] w fun e w' => e = .returned (.int .u32 (if (T && B1) = true then c else if B0 = true then to256S c else to16S c)) ∧ Below w.heap.size w w' := by
  cases T <;> cases B1 <;> cases B0 <;> simp only [Bool.false_eq_true, if_false, if_true, Bool.and_true, Bool.and_false] at hb1 hb0 ⊢
  · go_enter Tryd.func17, Tryd.ntmps17
    go_wp2_with fail
    refine (ofThree_any _).mono ?_
    rintro e w1 ⟨rfl, rfl⟩
    rw [hd]
    go_wp2_with fail
    refine (to16_any hT h0).mono ?_
    rintro e w2 ⟨rfl, hb⟩
    have HB := Lib.hid hb
    clear hb
    go_wp2_with fail
    go_ret
    exact ⟨rfl, HB.out⟩
  · go_enter Tryd.func17, Tryd.ntmps17
    go_wp2_with fail
    refine (ofThree_any _).mono ?_
    rintro e w1 ⟨rfl, rfl⟩
    rw [hd]
    go_wp2_with fail
    refine (to256_any hT h0).mono ?_
    rintro e w2 ⟨rfl, hb⟩
    have HB := Lib.hid hb
    clear hb
    go_wp2_with fail
    go_ret
    exact ⟨rfl, HB.out⟩
  · go_enter Tryd.func17, Tryd.ntmps17
    go_wp2_with fail
    refine (ofThree_any _).mono ?_
    rintro e w1 ⟨rfl, rfl⟩
    rw [hd]
    go_wp2_with fail
    refine (to16_any hT h0).mono ?_
    rintro e w2 ⟨rfl, hb⟩
    have HB := Lib.hid hb
    clear hb
    go_wp2_with fail
    go_ret
    exact ⟨rfl, HB.out⟩
  · go_enter Tryd.func17, Tryd.ntmps17
    go_wp2_with fail
    refine (ofThree_any _).mono ?_
    rintro e w1 ⟨rfl, rfl⟩
    rw [hd]
    go_wp2_with fail
    refine (to256_any hT h0).mono ?_
    rintro e w2 ⟨rfl, hb⟩
    have HB := Lib.hid hb
    clear hb
    go_wp2_with fail
    go_ret
    exact ⟨rfl, HB.out⟩
  · go_enter Tryd.func17, Tryd.ntmps17
    go_wp2_with fail
    refine (ofThree_any _).mono ?_
    rintro e w1 ⟨rfl, rfl⟩
    rw [hd]
    go_wp2_with fail
    refine (to16_any hT h0).mono ?_
    rintro e w2 ⟨rfl, hb⟩
    have HB := Lib.hid hb
    clear hb
    go_wp2_with fail
    go_ret
    exact ⟨rfl, HB.out⟩
  · go_enter Tryd.func17, Tryd.ntmps17
    go_wp2_with fail
    refine (ofThree_any _).mono ?_
    rintro e w1 ⟨rfl, rfl⟩
    rw [hd]
    go_wp2_with fail
    refine (to256_any hT h0).mono ?_
    rintro e w2 ⟨rfl, hb⟩
    have HB := Lib.hid hb
    clear hb
    go_wp2_with fail
    go_ret
    exact ⟨rfl, HB.out⟩
  · go_enter Tryd.func17, Tryd.ntmps17
    go_wp2_with fail
    refine (ofThree_any _).mono ?_
    rintro e w1 ⟨rfl, rfl⟩
    rw [hd]
    go_wp2_with fail
    go_ret
    exact ⟨rfl, Below.refl _ _⟩
  · go_enter Tryd.func17, Tryd.ntmps17
    go_wp2_with fail
    refine (ofThree_any _).mono ?_
    rintro e w1 ⟨rfl, rfl⟩
    rw [hd]
    go_wp2_with fail
    go_ret
    exact ⟨rfl, Below.refl _ _⟩
theorem fit_any {c f : Int} {w : World} (hT : CTabs w) (h0 : 0 ≤ c) (hf0 : 0 ≤ f) (hf1 : f < 4294967296) :
    Calls Tryd.prog 17 #[.int .u32 c, .int .u32 f] w fun e w' => e = .returned (.int .u32 (fitS c f)) ∧ Below w.heap.size w w' := by
  have h := fitW (f := f) hT h0 (T := decide (threeS c)) (B1 := bit1 f) (B0 := bit0 f) rfl
    (by rw [and2_u32 hf0 hf1]; unfold bit1; by_cases h : f / 2 % 2 = 1 <;> simp [h]; omega)
    (by rw [and1_u32 hf0 hf1]; unfold bit0; by_cases h : f % 2 = 1 <;> simp [h]; omega)
  refine h.mono fun e w' he => ⟨?_, he.2⟩
  rw [he.1, fit_code]
  simp only [Bool.and_eq_true, decide_eq_true_eq]
theorem rto256_any {c : Int} {w : World} (h0 : 0 ≤ c) : Calls Tryd.prog 14 #[.int .u32 c] w fun e w' => e = .returned (.int .u32 (to256S c)) ∧ Below w.heap.size w w' := by
  by_cases h1 : 16777216 ≤ c
  · by_cases h2 : c < 33554432
    · have HE := Lib.hid (show to256S c = nearN c 17 239 from if_pos ⟨h1, h2⟩)
      go_enter Tryd.func14, Tryd.ntmps14
      go_wp2_with fail
      refine (near_any (a := 17) (N := 239) h0 (by omega) (by omega) (by omega) (by omega)).mono ?_
      rintro e w2 ⟨rfl, hb⟩
      have HB := Lib.hid hb
      clear hb
      go_wp2_with fail
      go_ret
      rw [HE.out]
      exact ⟨rfl, HB.out⟩
    · have HE := Lib.hid (to256_id (c := c) (fun h => h2 h.2))
      go_enter Tryd.func14, Tryd.ntmps14
      go_wp2_with fail
      go_ret
      rw [HE.out]
      exact ⟨rfl, Below.refl _ _⟩
  · have HE := Lib.hid (to256_id (c := c) (fun h => h1 h.1))
    go_enter Tryd.func14, Tryd.ntmps14
    go_wp2_with fail
    go_ret
    rw [HE.out]
    exact ⟨rfl, Below.refl _ _⟩
set_option maxRecDepth 100000 in
theorem rto16_any {c : Int} {w : World} (h0 : 0 ≤ c) : Calls Tryd.prog 16 #[.int .u32 c] w fun e w' => e = .returned (.int .u32 (to16S c)) ∧ Below w.heap.size w w' := by
  by_cases h1 : 16777216 ≤ c
  · by_cases h2 : c < 33554432
    · have HE := Lib.hid (show to16S c = nearN c 1 15 from if_pos (.inl ⟨h1, h2⟩))
      go_enter Tryd.func16, Tryd.ntmps16
      go_wp2_with fail
      refine (near_any (a := 1) (N := 15) h0 (by omega) (by omega) (by omega) (by omega)).mono ?_
      rintro e w2 ⟨rfl, hb⟩
      have HB := Lib.hid hb
      clear hb
      go_wp2_with fail
      go_ret
      rw [HE.out]
      exact ⟨rfl, HB.out⟩
    · have HE := Lib.hid (to16_id (c := c) (by rintro (h | h); exact h2 h.2; omega))
      have h17 : 17 ≤ c := by omega
      have h256 : ¬ c ≤ 256 := by omega
      go_enter Tryd.func16, Tryd.ntmps16
      go_wp2_with fail
      go_ret
      rw [HE.out]
      exact ⟨rfl, Below.refl _ _⟩
  · by_cases h17 : 17 ≤ c
    · by_cases h256 : c ≤ 256
      · have HE := Lib.hid (show to16S c = nearN c 1 15 from if_pos (.inr ⟨h17, h256⟩))
        go_enter Tryd.func16, Tryd.ntmps16
        go_wp2_with fail
        refine (near_any (a := 1) (N := 15) h0 (by omega) (by omega) (by omega) (by omega)).mono ?_
        rintro e w2 ⟨rfl, hb⟩
        have HB := Lib.hid hb
        clear hb
        go_wp2_with fail
        go_ret
        rw [HE.out]
        exact ⟨rfl, HB.out⟩
      · have HE := Lib.hid (to16_id (c := c) (by rintro (h | h); exact h1 h.1; omega))
        go_enter Tryd.func16, Tryd.ntmps16
        go_wp2_with fail
        go_ret
        rw [HE.out]
        exact ⟨rfl, Below.refl _ _⟩
    · have HE := Lib.hid (to16_id (c := c) (by rintro (h | h); exact h1 h.1; omega))
      go_enter Tryd.func16, Tryd.ntmps16
      go_wp2_with fail
      go_ret
      rw [HE.out]
      exact ⟨rfl, Below.refl _ _⟩
theorem to256_pos {c : Int} (h0 : 0 ≤ c) : 0 ≤ to256S c := by
  by_cases h3 : threeS c
  · have := to256_in h3; omega
  · rw [to256_id h3]; exact h0
theorem to16_pos {c : Int} (h0 : 0 ≤ c) : 0 ≤ to16S c := by
  by_cases h3 : threeS c ∨ (17 ≤ c ∧ c ≤ 256)
  · have := to16_in h3; omega
  · rw [to16_id h3]; exact h0
theorem fit_pos {c f : Int} (h0 : 0 ≤ c) : 0 ≤ fitS c f := by
  rw [fit_code]
  split
  · exact h0
  split
  · exact to256_pos h0
  · exact to16_pos h0
end Go.Proofs.YtfbfidlgfdnneaaDoor
