/-
  utf.beginning: how many bytes at the head an unfinished rune has at most.
-/
import Derived.Test.YtpikbekcdbfdhaaDoorUtfFull
import Derived.LoopTactic
import Derived.Deep.CutBlock
namespace Go.Proofs.YtpikbekcdbfdhaaDoor
open Go.RowKit

theorem sL_take (s : ByteArray) (k : Nat) : sL (s.extract 0 k) = (sL s).take k := by
  simp [sL, ByteArray.extract, ByteArray.copySlice]
/-- One more byte of the beginning. -/
theorem begLen_step {L : List Int} {n : Nat} (hn : n ≤ begLen L) (h : n < L.length) : begS (L.take (n + 1)) = decide (n < begLen L) := by
  have h3 : n ≤ 3 := by
    have : begLen L ≤ 3 := by rcases L with _ | ⟨a, _ | ⟨b, _ | ⟨c, t⟩⟩⟩ <;> simp [begLen] <;> (repeat' split) <;> omega
    omega
  have hn4 : n = 0 ∨ n = 1 ∨ n = 2 ∨ n = 3 := by omega
  rcases L with _ | ⟨a, _ | ⟨b, _ | ⟨c, _ | ⟨d, t⟩⟩⟩⟩
  · simp at h
  all_goals
    simp at h
    rcases hn4 with rfl | rfl | rfl | rfl <;> (first | (exfalso; omega) | skip) <;>
    rcases szF_le a with ha | ha | ha | ha | ha <;> simp [begLen, begS, ha] at hn ⊢ <;> (repeat' split at hn) <;> simp_all <;> (repeat' split) <;> omega
/-- The number that a value is. -/
def iOf : Value → Int
  | .int _ x => x
  | _ => 0
theorem begLen_le (L : List Int) : begLen L ≤ L.length ∧ begLen L ≤ 3 := by
  rcases L with _ | ⟨a, _ | ⟨b, _ | ⟨c, t⟩⟩⟩ <;> simp [begLen] <;> (repeat' split) <;> omega

set_option maxHeartbeats 800000 in
theorem beginning_any {w : World} (s : ByteArray) (hT : Tabs w) (hs : s.size ≤ 9223372036854775807) :
    Calls Tryd.prog 31 #[.string s] w fun e w' => e = .returned (.int .i64 (begLen (sL s))) ∧ Below w.heap.size w w' := by
  have HB := Lib.hid (And.intro hT (And.intro (sL_len s) (begLen_le (sL s))))
  clear hT
  obtain ⟨K, hK⟩ : ∃ K, begLen (sL s) = K := ⟨_, rfl⟩
  rw [hK]
  have HK := Lib.hid hK
  clear hK
  go_enter Tryd.func31, Tryd.ntmps31
  go_wp2_with fail
  go_loopw [3] (fun i wr => ∃ k : Nat, k ≤ K ∧ k ≤ s.size ∧ i = .int .i64 k ∧ Below w.heap.size w wr) (fun i _ => s.size - (iOf i).toNat)
  case atStart => exact ⟨0, Nat.zero_le _, Nat.zero_le _, rfl, Below.refl _ _⟩
  case round =>
    obtain ⟨k, hk, hks, rfl, hbw⟩ := hrel
    have HW := Lib.hid (And.intro hk hbw)
    clear hk hbw
    by_cases hlt : k < s.size
    · have hkl : (k : Int) < (s.size : Int) := by omega
      have hkl1 : (k : Int) + 1 ≤ (s.size : Int) := by omega
      have hu : Calls Tryd.prog 29 #[.string (s.extract 0 (k + 1))] wr fun e w' => e = .returned (.bool (decide (k < K))) ∧ Below wr.heap.size wr w' := by
        have h1 := unfinished_any (w := wr) (s.extract 0 (k + 1)) (HB.out.1.below HW.out.2 (Nat.le_refl _)) (by simp [ByteArray.size_extract]; omega)
        rw [sL_take, begLen_step (by rw [HK.out]; exact HW.out.1) (by rw [HB.out.2.1]; exact hlt), HK.out] at h1
        exact h1
      have HU := Lib.hid hu
      clear hu
      by_cases hkK : k < K
      · have e : decide (k < K) = true := by simpa using hkK
        go_wp2_with fail
        refine HU.out.mono ?_
        rintro e1 w1 ⟨rfl, hb1⟩
        rw [e]
        go_wp2_with fail
        go_roundw
        case rel => exact ⟨k + 1, by omega, by omega, by go_num, HW.out.2.trans (hb1.mono HW.out.2.size)⟩
        case measure => simp [iOf]; omega
      · have e : decide (k < K) = false := by simpa using hkK
        go_wp2_with fail
        refine HU.out.mono ?_
        rintro e1 w1 ⟨rfl, hb1⟩
        rw [e]
        go_wp2_with fail
        go_ret
        obtain rfl : k = K := by have := HW.out.1; omega
        exact ⟨rfl, HW.out.2.trans (hb1.mono HW.out.2.size)⟩
    · go_wp2_with fail
      go_ret
      have h1 := HB.out.2.1
      have h2 := HB.out.2.2.1
      have h3 := HK.out
      obtain rfl : k = K := by have := HW.out.1; omega
      exact ⟨rfl, HW.out.2⟩
end Go.Proofs.YtpikbekcdbfdhaaDoor
