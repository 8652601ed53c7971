/-
  The reference's Fit; and the chapter's examples.
-/
import Derived.Test.YtfbfidlgfdnneaaDoorColorFit
namespace Go.Proofs.YtfbfidlgfdnneaaDoor
open Go.RowKit

set_option maxHeartbeats 3200000 in
set_option maxRecDepth 100000 in
theorem rfit_any {c f : Int} {w : World} (h0 : 0 ≤ c) (hf0 : 0 ≤ f) : Calls Tryd.prog 18 #[.int .u32 c, .int .u32 f] w fun e w' => e = .returned (.int .u32 (fitS c f)) ∧ Below w.heap.size w w' := by
  have HC := Lib.hid (fit_code c f)
  by_cases h1 : 16777216 ≤ c
  · by_cases h2 : c < 33554432
    · have h3 : threeS c := ⟨h1, h2⟩
      have h17 : 17 ≤ c := by omega
      have h256 : ¬ c ≤ 256 := by omega
      by_cases g1 : f / 2 % 2 = 1
      · have HE := Lib.hid (HC.out.trans (if_pos ⟨h3, decide_eq_true g1⟩))
        have e1 : (f.tdiv 2 % 2 == 1) = true := by rw [Int.tdiv_eq_ediv_of_nonneg hf0]; simp [g1]
        clear h3 g1 HC
        go_enter Tryd.func18, Tryd.ntmps18
        go_wp2_with fail
        go_ret
        rw [HE.out]
        exact ⟨rfl, Below.refl _ _⟩
      · have HE1 := Lib.hid (HC.out.trans (if_neg (fun h => g1 (of_decide_eq_true h.2))))
        have e1 : (f.tdiv 2 % 2 == 1) = false := by rw [Int.tdiv_eq_ediv_of_nonneg hf0]; simp [g1]
        by_cases g0 : f % 2 = 1
        · have HE := Lib.hid (HE1.out.trans (if_pos (show bit0 f = true from decide_eq_true g0)))
          have e0 : (f % 2 == 1) = true := by simp [g0]
          clear h3 g1 HC HE1 g0
          go_enter Tryd.func18, Tryd.ntmps18
          go_wp2_with fail
          refine (rto256_any h0).mono ?_
          rintro e w2 ⟨rfl, hb⟩
          have HB := Lib.hid hb
          clear hb
          go_wp2_with fail
          go_ret
          rw [HE.out]
          exact ⟨rfl, HB.out⟩
        · have HE := Lib.hid (HE1.out.trans (if_neg (fun (h : bit0 f = true) => g0 (of_decide_eq_true h))))
          have e0 : (f % 2 == 1) = false := by simp [g0]
          clear h3 g1 HC HE1 g0
          go_enter Tryd.func18, Tryd.ntmps18
          go_wp2_with fail
          refine (rto16_any h0).mono ?_
          rintro e w2 ⟨rfl, hb⟩
          have HB := Lib.hid hb
          clear hb
          go_wp2_with fail
          go_ret
          rw [HE.out]
          exact ⟨rfl, HB.out⟩
    · have h3 : ¬ threeS c := fun h => h2 h.2
      have h17 : 17 ≤ c := by omega
      have h256 : ¬ c ≤ 256 := by omega
      have HE := Lib.hid (show fitS c f = to16S c from by
        rw [HC.out, if_neg (fun h => h3 h.1)]
        split
        · rw [to256_id h3, to16_id (by rintro (h | h); exact h3 h; omega)]
        · rfl)
      clear h3 HC
      go_enter Tryd.func18, Tryd.ntmps18
      go_wp2_with fail
      refine (rto16_any h0).mono ?_
      rintro e w2 ⟨rfl, hb⟩
      have HB := Lib.hid hb
      clear hb
      go_wp2_with fail
      go_ret
      rw [HE.out]
      exact ⟨rfl, HB.out⟩
  · have h3 : ¬ threeS c := fun h => h1 h.1
    by_cases h17 : 17 ≤ c
    · by_cases h256 : c ≤ 256
      · by_cases g0 : f % 2 = 1
        · have HE := Lib.hid (show fitS c f = c from by rw [HC.out, if_neg (fun h => h3 h.1), if_pos (show bit0 f = true from decide_eq_true g0)]; exact to256_id h3)
          have e0 : (f % 2 == 1) = true := by simp [g0]
          clear h3 g0 HC
          go_enter Tryd.func18, Tryd.ntmps18
          go_wp2_with fail
          go_ret
          rw [HE.out]
          exact ⟨rfl, Below.refl _ _⟩
        · have HE := Lib.hid (show fitS c f = to16S c from by rw [HC.out, if_neg (fun h => h3 h.1), if_neg (fun (h : bit0 f = true) => g0 (of_decide_eq_true h))])
          have e0 : (f % 2 == 1) = false := by simp [g0]
          clear h3 g0 HC
          go_enter Tryd.func18, Tryd.ntmps18
          go_wp2_with fail
          refine (rto16_any h0).mono ?_
          rintro e w2 ⟨rfl, hb⟩
          have HB := Lib.hid hb
          clear hb
          go_wp2_with fail
          go_ret
          rw [HE.out]
          exact ⟨rfl, HB.out⟩
      · have HE := Lib.hid (show fitS c f = to16S c from by
          rw [HC.out, if_neg (fun h => h3 h.1)]
          split
          · rw [to256_id h3, to16_id (by rintro (h | h); exact h3 h; omega)]
          · rfl)
        clear h3 HC
        go_enter Tryd.func18, Tryd.ntmps18
        go_wp2_with fail
        refine (rto16_any h0).mono ?_
        rintro e w2 ⟨rfl, hb⟩
        have HB := Lib.hid hb
        clear hb
        go_wp2_with fail
        go_ret
        rw [HE.out]
        exact ⟨rfl, HB.out⟩
    · have HE := Lib.hid (show fitS c f = to16S c from by
        rw [HC.out, if_neg (fun h => h3 h.1)]
        split
        · rw [to256_id h3, to16_id (by rintro (h | h); exact h3 h; omega)]
        · rfl)
      clear h3 HC
      go_enter Tryd.func18, Tryd.ntmps18
      go_wp2_with fail
      refine (rto16_any h0).mono ?_
      rintro e w2 ⟨rfl, hb⟩
      have HB := Lib.hid hb
      clear hb
      go_wp2_with fail
      go_ret
      rw [HE.out]
      exact ⟨rfl, HB.out⟩

theorem kat1 : pT 256 = (238, 238, 238) := by decide +kernel
theorem kat2 : hasS 256 = true := by decide +kernel
theorem kat3 : to256S 16777471 = 22 := by decide +kernel
theorem kat4 : to16S 16777216 = 1 := by decide +kernel
theorem kat5 : to16S 22 = 5 := by decide +kernel
set_option maxRecDepth 100000 in
theorem fixedC13_any {w : World} (hT : CTabs w) : Calls Tryd.prog 10 #[] w fun e w' => e = .returned (.bool true) ∧ Below w.heap.size w w' := by
  go_enter Tryd.func10, Tryd.ntmps10
  go_wp2_with fail
  refine (parts_any hT (by omega)).mono ?_
  rintro e w1 ⟨rfl, hb⟩
  rw [kat1, kat2]
  have X := Lib.hid (And.intro (hT.below hb (Nat.le_refl _)) hb)
  clear hb hT
  go_wp2_with fail
  refine (to256_any X.out.1 (by omega)).mono ?_
  rintro e w2 ⟨rfl, hb⟩
  rw [kat3]
  have Y := Lib.hid (And.intro (X.out.1.below hb (Nat.le_refl _)) (X.out.2.trans (hb.mono X.out.2.size)))
  clear hb X
  go_wp2_with fail
  refine (to16_any Y.out.1 (by omega)).mono ?_
  rintro e w3 ⟨rfl, hb⟩
  rw [kat4]
  have Z := Lib.hid (And.intro (Y.out.1.below hb (Nat.le_refl _)) (Y.out.2.trans (hb.mono Y.out.2.size)))
  clear hb Y
  go_wp2_with fail
  refine (to16_any Z.out.1 (by omega)).mono ?_
  rintro e w4 ⟨rfl, hb⟩
  rw [kat5]
  have V := Lib.hid (Z.out.2.trans (hb.mono Z.out.2.size))
  clear hb Z
  go_wp2_with fail
  go_ret
  exact ⟨rfl, V.out⟩
end Go.Proofs.YtfbfidlgfdnneaaDoor
