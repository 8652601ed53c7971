/-
  The contract of the reference's Same of bytes, whatever is held against what.
-/
import Derived.Test.YtappnfifhpmekaaDoorWireLeaf
import Derived.Deep.QuietTactic
import Derived.BigQuiet
import Derived.LoopTactic
namespace Go.Proofs.YtappnfifhpmekaaDoor
open Go.RowKit

theorem retB {a b : Bool} (h : a = b) : Ending.returned (.bool a) = .returned (.bool b) := by rw [h]
theorem take_eq_snoc {xs ys : List Int} {k : Nat} (hx : k < xs.length) (hy : k < ys.length) : xs.take (k + 1) = ys.take (k + 1) ↔ xs.take k = ys.take k ∧ xs.getD k 0 = ys.getD k 0 := by
  rw [List.take_succ_eq_append_getElem hx, List.take_succ_eq_append_getElem hy]
  have h1 : xs.getD k 0 = xs[k] := getD_lt hx
  have h2 : ys.getD k 0 = ys[k] := getD_lt hy
  rw [h1, h2]
  constructor
  · intro h
    have := List.append_inj h (by simp; omega)
    exact ⟨this.1, by simpa using this.2⟩
  · rintro ⟨h, h'⟩
    rw [h, h']

set_option maxHeartbeats 400000 in
/-- And so the reference's. -/
theorem refSame_any {w : World} {A A' : Option Addr} {n n' c c' : Nat} {xs ys : List Int} (h : Sb w A n xs) (h' : Sb w A' n' ys) (hn : n ≤ 9223372036854775807) (hn' : n' ≤ 9223372036854775807) :
    Calls Tryd.prog 11 #[.slice A n c, .slice A' n' c'] w fun e w' => e = .returned (.bool (decide (xs = ys))) ∧ ∃ q, w' = w.drewN q := by
  by_cases hne : n = n'
  · subst hne
    have H := Lib.hid (show Sb w A n xs ∧ Sb w A' n ys from ⟨h, h'⟩)
    clear h h' hn'
    go_enter Tryd.func11, Tryd.ntmps11
    go_wp2
    go_loopw [13] (fun i wr => ∃ k q : Nat, k ≤ n ∧ i = .int .i64 k ∧ xs.take k = ys.take k ∧ wr = w.drewN q) (fun i _ => n - (intOf i).toNat)
    case atStart => exact ⟨0, 0, Nat.zero_le _, rfl, by simp, rfl⟩
    case round =>
      obtain ⟨k, q, hk, rfl, hx, rfl⟩ := hrel
      have HX := Lib.hid hx
      clear hx
      by_cases hlt : k < n
      · obtain ⟨ad, rfl⟩ := H.out.1.addr (by omega)
        obtain ⟨ad', rfl⟩ := H.out.2.addr (by omega)
        have hc := H.out.1.cell hlt
        have hc' := H.out.2.cell hlt
        have HT := Lib.hid (take_eq_snoc (xs := xs) (ys := ys) (k := k) (by rw [H.out.1.len]; exact hlt) (by rw [H.out.2.len]; exact hlt))
        obtain ⟨a, ha⟩ : ∃ a, a = xs.getD k 0 := ⟨_, rfl⟩
        obtain ⟨b, hb⟩ : ∃ b, b = ys.getD k 0 := ⟨_, rfl⟩
        rw [← ha] at hc
        rw [← hb] at hc'
        rw [← ha, ← hb] at HT
        have HAB := Lib.hid (And.intro ha hb)
        clear ha hb
        by_cases hab : a = b
        · have ht := HT.out.2 ⟨HX.out, hab⟩
          have HTT := Lib.hid ht
          subst hab
          clear ht HT HAB
          go_wp2
          go_quiet (fail)
          go_wp2
          go_roundw
          case rel => exact ⟨k + 1, q + nq, by omega, by go_num, HTT.out, rfl⟩
          case measure => simp [intOf]; omega
        · have hd : decide (xs = ys) = false := by
            rw [decide_eq_false_iff_not]
            rintro rfl
            exact hab (HAB.out.1.trans HAB.out.2.symm)
          have t1 : (a == b) = false := by simpa using hab
          have t2 : (a != b) = true := by simpa using hab
          have HD := Lib.hid hd
          clear hd hab
          go_wp2
          go_quiet (fail)
          go_wp2
          go_ret
          exact ⟨retB HD.out.symm, q + nq, by simp [World.drewN, Nat.add_assoc]⟩
      · have hd : decide (xs = ys) = true := by
          have e1 := HX.out
          rw [List.take_of_length_le (by rw [H.out.1.len]; omega), List.take_of_length_le (by rw [H.out.2.len]; omega)] at e1
          simpa using e1
        have HD := Lib.hid hd
        clear hd
        go_wp2
        go_ret
        exact ⟨retB HD.out.symm, q, rfl⟩
  · have hd : decide (xs = ys) = false := by
      rw [decide_eq_false_iff_not]
      rintro rfl
      exact hne (h.len.symm.trans h'.len)
    rw [hd]
    have hne' : ¬ ((n : Int) = (n' : Int)) := by omega
    clear h h' hd
    go_enter Tryd.func11, Tryd.ntmps11
    go_wp2
    go_ret
    exact ⟨rfl, 0, rfl⟩

end Go.Proofs.YtappnfifhpmekaaDoor
