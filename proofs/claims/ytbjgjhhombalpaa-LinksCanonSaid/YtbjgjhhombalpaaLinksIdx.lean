/-
  Where a text stands: slices.Index, slices.Contains, and the reference's Place.
-/
import Derived.Test.YtbjgjhhombalpaaLinksMem
import Derived.LoopTactic
namespace Go.Proofs.Ytbjgjhhombalpaa
open Go.RowKit

theorem retIL {a b : Int} (h : a = b) : Ending.returned (.int .i64 a) = .returned (.int .i64 b) := by rw [h]
set_option maxHeartbeats 400000 in
theorem idxT_any {w : World} {A : Option Addr} {n c : Nat} {L : List ByteArray} (h : Vs stV w A n L) (s : ByteArray) (hn : n ≤ 140737488351232) :
    Calls Try.prog 31 #[.slice A n c, .string s] w fun e w' => e = .returned (.int .i64 (placeI L s)) ∧ w = w' := by
  have H := Lib.hid h
  clear h
  go_enter Try.func31, Try.ntmps31
  go_wp2
  go_loop [8] (fun i => ∃ k : Nat, k ≤ n ∧ i = .int .i64 k ∧ s ∉ L.take k) (fun i => n - (intOf i).toNat)
  case atStart => exact ⟨0, Nat.zero_le _, rfl, by simp⟩
  case round =>
    obtain ⟨k, hk, rfl, ho⟩ := hrel
    have HO := Lib.hid ho
    clear ho
    by_cases hlt : k < n
    · obtain ⟨ad, rfl⟩ := H.out.addr (by omega)
      have hc := H.out.str hlt
      have HL := Lib.hid H.out.len
      have HT := Lib.hid (mem_take_snoc (s := s) (by rw [HL.out]; exact hlt))
      have HP := Lib.hid (fun (e : sAt L k = s) => placeI_hit (by rw [HL.out]; exact hlt) e HO.out)
      generalize sAt L k = x at hc HT HP
      obtain ⟨B, hB⟩ : ∃ B, (s.toList == x.toList) = B := ⟨_, rfl⟩
      cases B
      · have HB := Lib.hid (eqBB_no hB)
        go_wp2
        go_round
        case rel => exact ⟨k + 1, by omega, by go_num, fun e => (HT.out.1 e).elim HO.out fun e => HB.out e.symm⟩
        case measure => simp [intOf]; omega
      · have HB := Lib.hid (HP.out (eqBB_yes hB).symm)
        go_wp2
        go_ret
        exact ⟨retIL HB.out.symm, rfl⟩
    · have HR : Hid (placeI L s = -1) := Lib.hid (placeI_none.2 (by
        have := HO.out
        rwa [List.take_of_length_le (by rw [H.out.len]; omega)] at this))
      go_wp2
      go_ret
      exact ⟨retIL HR.out.symm, rfl⟩
theorem hasT_any {w : World} {A : Option Addr} {n c : Nat} {L : List ByteArray} (h : Vs stV w A n L) (s : ByteArray) (hn : n ≤ 140737488351232) :
    Calls Try.prog 30 #[.slice A n c, .string s] w fun e w' => e = .returned (.bool (decide (0 ≤ placeI L s))) ∧ w = w' := by
  have H := Lib.hid h
  clear h
  have h1 := placeI_ge L s
  have h2 := placeI_lt L s
  obtain ⟨z, hz⟩ : ∃ z, placeI L s = z := ⟨_, rfl⟩
  rw [hz] at h1 h2 ⊢
  have HZ := Lib.hid hz
  have h3 : z ≤ 140737488351232 := by have := H.out.len; omega
  clear hz h2
  go_enter Try.func30, Try.ntmps30
  go_wp2_with fail
  refine (idxT_any H.out s hn).mono ?_
  rintro e w' ⟨rfl, rfl⟩
  rw [HZ.out]
  go_wp2_with fail
  go_ret
  exact ⟨rfl, rfl⟩
set_option maxHeartbeats 400000 in
theorem placeT_any {w : World} {A : Option Addr} {n c : Nat} {L : List ByteArray} (h : Vs stV w A n L) (s : ByteArray) (hn : n ≤ 140737488351232) :
    Calls Try.prog 28 #[.slice A n c, .string s] w fun e w' => e = .returned (.int .i64 (placeI L s)) ∧ w = w' := by
  have H := Lib.hid h
  clear h
  go_enter Try.func28, Try.ntmps28
  go_wp2
  go_loop [5] (fun i => ∃ k : Nat, k ≤ n ∧ i = .int .i64 k ∧ s ∉ L.take k) (fun i => n - (intOf i).toNat)
  case atStart => exact ⟨0, Nat.zero_le _, rfl, by simp⟩
  case round =>
    obtain ⟨k, hk, rfl, ho⟩ := hrel
    have HO := Lib.hid ho
    clear ho
    by_cases hlt : k < n
    · obtain ⟨ad, rfl⟩ := H.out.addr (by omega)
      have hc := H.out.str hlt
      have HL := Lib.hid H.out.len
      have HT := Lib.hid (mem_take_snoc (s := s) (by rw [HL.out]; exact hlt))
      have HP := Lib.hid (fun (e : sAt L k = s) => placeI_hit (by rw [HL.out]; exact hlt) e HO.out)
      generalize sAt L k = x at hc HT HP
      obtain ⟨B, hB⟩ : ∃ B, (x.toList == s.toList) = B := ⟨_, rfl⟩
      cases B
      · have HB := Lib.hid (eqBB_no hB)
        go_wp2
        go_round
        case rel => exact ⟨k + 1, by omega, by go_num, fun e => (HT.out.1 e).elim HO.out HB.out⟩
        case measure => simp [intOf]; omega
      · have HB := Lib.hid (HP.out (eqBB_yes hB))
        go_wp2
        go_ret
        exact ⟨retIL HB.out.symm, rfl⟩
    · have HR : Hid (placeI L s = -1) := Lib.hid (placeI_none.2 (by
        have := HO.out
        rwa [List.take_of_length_le (by rw [H.out.len]; omega)] at this))
      go_wp2
      go_ret
      exact ⟨retIL HR.out.symm, rfl⟩
end Go.Proofs.Ytbjgjhhombalpaa
