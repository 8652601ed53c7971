/-
  The nearest colour of a row of them: the code's.
-/
import Derived.Test.YtfbfidlgfdnneaaDoorColorFar
namespace Go.Proofs.YtfbfidlgfdnneaaDoor
open Go.RowKit

theorem nearN_step (c a : Int) (k : Nat) (h : 0 < k) : nearN c a k = if farS c (a + (k : Int)) < farS c (nearN c a (k - 1)) then a + (k : Int) else nearN c a (k - 1) := by
  obtain ⟨m, rfl⟩ : ∃ m, k = m + 1 := ⟨k - 1, by omega⟩
  rfl
/-- A further round of the search. -/
theorem nearN_next (c a : Int) (k : Nat) : nearN c a (k + 1 - 1) = if farS c (a + (k : Int)) < farS c (nearN c a (k - 1)) then a + (k : Int) else nearN c a (k - 1) := by
  by_cases h : 0 < k
  · exact nearN_step c a k h
  · obtain rfl : k = 0 := by omega
    show a = _
    rw [if_neg]
    · rfl
    · show ¬ farS c (a + ((0 : Nat) : Int)) < farS c a
      simp
set_option maxHeartbeats 800000 in
set_option maxRecDepth 100000 in
theorem nearest_any {c a b : Int} {N : Nat} {w : World} (hT : CTabs w) (h0 : 0 ≤ c) (ha : 1 ≤ a) (hN : b = a + (N : Int)) (hb256 : b ≤ 256) :
    Calls Tryd.prog 24 #[.int .u32 c, .int .u32 a, .int .u32 b] w fun e w' => e = .returned (.int .u32 (nearN c a N)) ∧ Below w.heap.size w w' := by
  have hw1 : IntKind.u32.wrap (b - a) = (N : Int) := by rw [IntKind.wrap_u32]; omega
  have hw2 : IntKind.u32.wrap ((N : Int) + 1) = (N : Int) + 1 := by rw [IntKind.wrap_u32]; omega
  have HN := Lib.hid (And.intro hN hb256)
  clear hN hb256
  go_enter Tryd.func24, Tryd.ntmps24
  go_wp2_with fail
  refine (farFrom_any hT h0).mono ?_
  rintro e w1 ⟨o, r, g, bb, rfl, hC, hT1, hb⟩
  have HB := Lib.hid hb
  have H1 := Lib.hid (And.intro hC hT1)
  clear hC hT1 hb hT
  go_wp2_with fail
  refine (clo_any H1.out.2 H1.out.1 (by omega)).mono ?_
  rintro e w2 ⟨rfl, hb2⟩
  have H2 := Lib.hid (show Cap w2 o r g bb c ∧ CTabs w2 ∧ Below w.heap.size w w2 from ⟨H1.out.1.below hb2, H1.out.2.below hb2 (Nat.le_refl _), HB.out.trans (hb2.mono HB.out.size)⟩)
  clear hb2 HB H1
  go_wp2_with fail
  go_loopw [8, 9, 22] (fun s8 s9 i wr => ∃ k : Nat, k ≤ N + 1 ∧ i = .int .u32 k ∧ s8 = .int .u32 (nearN c a (k - 1)) ∧ s9 = .int .i64 (farS c (nearN c a (k - 1))) ∧ Cap wr o r g bb c ∧ CTabs wr ∧ Below w.heap.size w wr) (fun _ _ i _ => N + 1 - (intOf i).toNat)
  case atStart => exact ⟨0, Nat.zero_le _, rfl, rfl, rfl, H2.out.1, H2.out.2.1, H2.out.2.2⟩
  case round =>
    obtain ⟨k, hk, rfl, rfl, rfl, hC, hT, hB⟩ := hrel
    have X := Lib.hid (show Cap wr o r g bb c ∧ CTabs wr ∧ Below w.heap.size w wr from ⟨hC, hT, hB⟩)
    clear hC hT hB
    by_cases hlt : k < N + 1
    · have hkl : (k : Int) < (N : Int) + 1 := by omega
      have hw3 : IntKind.u32.wrap (a + (k : Int)) = a + (k : Int) := by have := HN.out; rw [IntKind.wrap_u32]; omega
      have hw4 : IntKind.u32.wrap ((k : Int) + 1) = (k : Int) + 1 := by have := HN.out; rw [IntKind.wrap_u32]; omega
      have HX := Lib.hid (nearN_next c a k)
      obtain ⟨M, hM⟩ : ∃ M, nearN c a (k - 1) = M := ⟨_, rfl⟩
      obtain ⟨F, hF⟩ : ∃ F, farS c (a + (k : Int)) = F := ⟨_, rfl⟩
      have HF := Lib.hid (And.intro hM hF)
      rw [hM]
      clear hM
      go_wp2_with fail
      refine (clo_any X.out.2.1 X.out.1 (by omega)).mono ?_
      rintro e w3 ⟨rfl, hb3⟩
      rw [hF]
      clear hF
      have Y := Lib.hid (show Cap w3 o r g bb c ∧ CTabs w3 ∧ Below w.heap.size w w3 from ⟨X.out.1.below hb3, X.out.2.1.below hb3 (Nat.le_refl _), X.out.2.2.trans (hb3.mono X.out.2.2.size)⟩)
      clear hb3 X
      by_cases hl : F < farS c M
      · have E := Lib.hid (show nearN c a (k + 1 - 1) = a + (k : Int) ∧ farS c (nearN c a (k + 1 - 1)) = F from by
          have h := HX.out
          rw [HF.out.1, HF.out.2, if_pos hl] at h
          exact ⟨h, by rw [h]; exact HF.out.2⟩)
        clear HX HF
        go_wp2_with fail
        go_roundw
        case rel => exact ⟨k + 1, by omega, by go_num, by rw [E.out.1], by rw [E.out.2], Y.out⟩
        case measure => simp [intOf]; omega
      · have E := Lib.hid (show nearN c a (k + 1 - 1) = M from by
          have h := HX.out
          rw [HF.out.1, HF.out.2, if_neg hl] at h
          exact h)
        clear HX HF
        go_wp2_with fail
        go_roundw
        case rel => exact ⟨k + 1, by omega, by go_num, by rw [E.out], by rw [E.out], Y.out⟩
        case measure => simp [intOf]; omega
    · obtain rfl : k = N + 1 := by omega
      go_wp2_with fail
      go_ret
      exact ⟨rfl, X.out.2.2⟩
end Go.Proofs.YtfbfidlgfdnneaaDoor
