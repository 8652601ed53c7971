/-
  Which text may be: the code's and the reference's.
-/
import Derived.Test.YtbjgjhhombalpaaLinksMem
import Derived.IntWalk
import Derived.LoopTactic
namespace Go.Proofs.Ytbjgjhhombalpaa
open Go.RowKit

theorem retBL {a b : Bool} (h : a = b) : Ending.returned (.bool a) = .returned (.bool b) := by rw [h]
theorem take_snocB (s : ByteArray) (k : Nat) (h : k < s.size) : s.data.toList.take (k + 1) = s.data.toList.take k ++ [s[k]] := by
  rw [List.take_succ_eq_append_getElem (by simpa using h)]
  rfl
theorem mayT_short {s : ByteArray} (h : s.size < 1 ∨ 64 < s.size) : mayT s = false := by
  cases hm : mayT s with
  | false => rfl
  | true => have := mayT_size hm; omega
def okB (l : List UInt8) : Bool := l.all fun c => decide (33 ≤ c.toNat) && decide (c.toNat ≤ 126)
theorem okB_snoc (l : List UInt8) (c : UInt8) : okB (l ++ [c]) = (okB l && (decide (33 ≤ c.toNat) && decide (c.toNat ≤ 126))) := by simp [okB, List.all_append]
theorem mayT_is {s : ByteArray} (h1 : 1 ≤ s.size) (h2 : s.size ≤ 64) : mayT s = okB s.data.toList := by unfold mayT okB; simp [h1, h2]
theorem okB_take {l : List UInt8} (k : Nat) (h : okB (l.take k) = false) : okB l = false := by
  cases hm : okB l with
  | false => rfl
  | true =>
    rw [← List.take_append_drop k l] at hm
    unfold okB at h hm
    rw [List.all_append, h] at hm
    cases hm

set_option maxHeartbeats 400000 in
theorem mayT_any (s : ByteArray) (w : World) (hs : s.size ≤ 140737488351232) :
    Calls Try.prog 16 #[.string s] w fun e w' => e = .returned (.bool (mayT s)) ∧ w = w' := by
  by_cases h1 : 1 ≤ s.size
  · by_cases h2 : s.size ≤ 64
    · have HM := Lib.hid (mayT_is h1 h2)
      go_enter Try.func16, Try.ntmps16
      go_wp2
      go_loop [14] (fun i => ∃ k : Nat, k ≤ s.size ∧ i = .int .i64 k ∧ okB (s.data.toList.take k) = true) (fun i => s.size - (intOf i).toNat)
      case atStart => exact ⟨0, Nat.zero_le _, rfl, rfl⟩
      case round =>
        obtain ⟨k, hk, rfl, ho⟩ := hrel
        have HO := Lib.hid ho
        clear ho
        by_cases hlt : k < s.size
        · have hsn := okB_snoc (s.data.toList.take k) s[k]
          rw [← take_snocB s k hlt, HO.out] at hsn
          have HS := Lib.hid hsn
          clear hsn
          by_cases hb : 33 ≤ s[k].toNat ∧ s[k].toNat ≤ 126
          · have HB := Lib.hid hb
            have hb1 := hb.1
            have hb2 := hb.2
            clear hb
            go_wp2
            go_round
            case rel => exact ⟨k + 1, by omega, by go_num, by rw [HS.out]; simp [HB.out.1, HB.out.2]⟩
            case measure => simp [intOf]; omega
          · have HR : Hid (mayT s = false) := by
              refine Lib.hid ?_
              rw [HM.out]
              refine okB_take (k + 1) ?_
              rw [HS.out]
              simp
              omega
            by_cases hb1 : 33 ≤ s[k].toNat
            · have hb2 : ¬ s[k].toNat ≤ 126 := fun x => hb ⟨hb1, x⟩
              clear hb
              go_wp2
              go_ret
              exact ⟨retBL HR.out.symm, rfl⟩
            · clear hb
              go_wp2
              go_ret
              exact ⟨retBL HR.out.symm, rfl⟩
        · have HR : Hid (mayT s = true) := by
            refine Lib.hid ?_
            rw [HM.out, ← HO.out, List.take_of_length_le (by simp; omega)]
          go_wp2
          go_ret
          exact ⟨retBL HR.out.symm, rfl⟩
    · have HR := Lib.hid (mayT_short (s := s) (Or.inr (by omega)))
      go_enter Try.func16, Try.ntmps16
      go_wp2
      go_ret
      exact ⟨retBL HR.out.symm, rfl⟩
  · have HR := Lib.hid (mayT_short (s := s) (Or.inl (by omega)))
    go_enter Try.func16, Try.ntmps16
    go_wp2
    go_ret
    exact ⟨retBL HR.out.symm, rfl⟩

set_option maxHeartbeats 400000 in
theorem refMayT_any (s : ByteArray) (w : World) (hs : s.size ≤ 140737488351232) :
    Calls Try.prog 17 #[.string s] w fun e w' => e = .returned (.bool (mayT s)) ∧ w = w' := by
  by_cases h1 : 1 ≤ s.size
  · have h0 : ((s.size : Int) == 0) = false := by rw [beq_eq_false_iff_ne]; omega
    by_cases h2 : s.size ≤ 64
    · have HM := Lib.hid (mayT_is h1 h2)
      go_enter Try.func17, Try.ntmps17
      go_wp2
      go_loop [3] (fun i => ∃ k : Nat, k ≤ s.size ∧ i = .int .i64 k ∧ okB (s.data.toList.take k) = true) (fun i => s.size - (intOf i).toNat)
      case atStart => exact ⟨0, Nat.zero_le _, rfl, rfl⟩
      case round =>
        obtain ⟨k, hk, rfl, ho⟩ := hrel
        have HO := Lib.hid ho
        clear ho
        by_cases hlt : k < s.size
        · have hsn := okB_snoc (s.data.toList.take k) s[k]
          rw [← take_snocB s k hlt, HO.out] at hsn
          have HS := Lib.hid hsn
          clear hsn
          by_cases hb : 33 ≤ s[k].toNat ∧ s[k].toNat ≤ 126
          · have HB := Lib.hid hb
            have hb1 := hb.1
            have hb2 := hb.2
            clear hb
            go_wp2
            go_round
            case rel => exact ⟨k + 1, by omega, by go_num, by rw [HS.out]; simp [HB.out.1, HB.out.2]⟩
            case measure => simp [intOf]; omega
          · have HR : Hid (mayT s = false) := by
              refine Lib.hid ?_
              rw [HM.out]
              refine okB_take (k + 1) ?_
              rw [HS.out]
              simp
              omega
            by_cases hb1 : 33 ≤ s[k].toNat
            · have hb2 : ¬ s[k].toNat ≤ 126 := fun x => hb ⟨hb1, x⟩
              clear hb
              go_wp2
              go_ret
              exact ⟨retBL HR.out.symm, rfl⟩
            · clear hb
              go_wp2
              go_ret
              exact ⟨retBL HR.out.symm, rfl⟩
        · have HR : Hid (mayT s = true) := by
            refine Lib.hid ?_
            rw [HM.out, ← HO.out, List.take_of_length_le (by simp; omega)]
          go_wp2
          go_ret
          exact ⟨retBL HR.out.symm, rfl⟩
    · have HR := Lib.hid (mayT_short (s := s) (Or.inr (by omega)))
      go_enter Try.func17, Try.ntmps17
      go_wp2
      go_ret
      exact ⟨retBL HR.out.symm, rfl⟩
  · have HR := Lib.hid (mayT_short (s := s) (Or.inl (by omega)))
    have h0 : ((s.size : Int) == 0) = true := by rw [beq_iff_eq]; omega
    go_enter Try.func17, Try.ntmps17
    go_wp2
    go_ret
    exact ⟨retBL HR.out.symm, rfl⟩
end Go.Proofs.Ytbjgjhhombalpaa
