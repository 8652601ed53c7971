/-
  Contracts of the guard's calls.
-/
import Derived.Test.YtkmobiggcehpbaaProg
import Derived.Test.YtkmobiggcehpbaaGuardMem
import Derived.BigQuiet
import Derived.WalkSpells
import Derived.WalkSmall
namespace Go.Proofs.Ytkmobiggcehpbaa
open Go.RowKit

theorem gRetI {k : IntKind} {a b : Int} (h : a = b) : Ending.returned (.int k a) = .returned (.int k b) := by rw [h]

theorem gNew_any (w : World) : Calls Try.prog 8 #[] w fun e w' => e = .returned (.pointer (some ⟨w.heap.size, 0, none⟩)) ∧ Gd 49 w' w.heap.size [] ∧ Below w.heap.size w w' := by
  go_enter Try.func8, Try.ntmps8
  go_wp2
  go_ret
  refine ⟨rfl, ⟨0, 0, heap_alloc_new _ _, Win.new⟩, (Below.refl _ _).alloc (Nat.le_refl _) _⟩

theorem gCheck_nil (n : Int) (w : World) : Calls Try.prog 11 #[.pointer none, .int .u64 n] w fun e w' => e = .returned (.int .i64 1) ∧ w = w' := by
  go_enter Try.func11, Try.ntmps11
  go_wp2
  go_ret
  exact ⟨rfl, rfl⟩
theorem gTake_nil (n : Int) (w : World) : Calls Try.prog 13 #[.pointer none, .int .u64 n] w fun e w' => e = .returned (.int .i64 1) ∧ w = w' := by
  go_enter Try.func13, Try.ntmps13
  go_wp2_with (go_at_call 11; refine (gCheck_nil _ _).mono ?_; rintro e w' ⟨rfl, rfl⟩)
  go_ret
  exact ⟨rfl, rfl⟩
theorem gTop_nil (w : World) : Calls Try.prog 14 #[.pointer none] w fun e w' => e = .returned (.tuple #[.int .u64 0, .bool false]) ∧ w = w' := by
  go_enter Try.func14, Try.ntmps14
  go_wp2
  exact bodyPost_ret (v := .tuple #[.int .u64 0, .bool false]) (by simp [results, Try.results14, go_sem]) rfl ⟨rfl, rfl⟩

theorem gCheck_any {w : World} {g : Nat} {L : List Int} (h : Gd 49 w g L) (n : Int) (h0 : 0 ≤ n) (h1 : n ≤ 18446744073709551615) :
    Calls Try.prog 11 #[.pointer (some ⟨g, 0, none⟩), .int .u64 n] w fun e w' => e = .returned (.int .i64 (chk n L)) ∧ w = w' := by
  obtain ⟨t, m, h⟩ := h
  have hc0 := h.cell0
  have hc1 := h.cell1
  have hlo := h.win.lo
  have hhi := h.win.hi
  by_cases hbig : 4611686018427387904 < n
  · have HE := Lib.hid (chk_over (L := L) hbig)
    clear h
    go_enter Try.func11, Try.ntmps11
    go_wp2
    go_ret
    exact ⟨gRetI HE.out.symm, rfl⟩
  · by_cases hg : t < n
    · have HE := Lib.hid (h.win.great hg (by omega))
      clear h
      go_enter Try.func11, Try.ntmps11
      go_wp2
      go_ret
      exact ⟨gRetI HE.out.symm, rfl⟩
    · by_cases hold : 64 ≤ t - n
      · have HE := Lib.hid (h.win.old h0 hold)
        clear h
        go_enter Try.func11, Try.ntmps11
        go_wp2
        go_ret
        exact ⟨gRetI HE.out.symm, rfl⟩
      · have HE := Lib.hid (h.win.near (n := n) (by omega) (by omega))
        have hlt := h.win.lt
        obtain ⟨c, hc⟩ : ∃ c, c = t - n := ⟨_, rfl⟩
        have hb : bits .and .u64 ((m : Int) / 2 ^ c.toNat) 1 = if m.testBit c.toNat then 1 else 0 := by
          have h3 : ((m : Int) / 2 ^ c.toNat) = ((m / 2 ^ c.toNat : Nat) : Int) := by simp
          have h4 : m / 2 ^ c.toNat ≤ m := Nat.div_le_self _ _
          rw [h3, Nat.testBit_eq_decide_div_mod_eq]
          obtain ⟨q, hq⟩ : ∃ q, q = m / 2 ^ c.toNat := ⟨_, rfl⟩
          rw [← hq] at h4 ⊢
          rw [and_one_u64 _ (by omega) (by omega)]
          have h5 := Nat.mod_two_eq_zero_or_one q
          rcases h5 with h5 | h5
          · rw [h5, if_neg (by decide)]; omega
          · rw [h5, if_pos (by decide)]; omega
        rw [← hc] at HE hold
        have hc' := hc.symm
        have hr : c ≤ 64 := by omega
        have hr0 : 0 ≤ c := by omega
        have hshr := fun w => show (Op.shift .shr .u64 (m : Int) .u64 c).run Try.prog w = .ok (.int .u64 ((m : Int) / 2 ^ c.toNat)) w from by rw [shift_shr _ _ _ _ hr0 (by simpa [IntKind.bits] using hr)]; rfl
        clear h hc
        by_cases hbit : m.testBit c.toNat = true
        · rw [if_pos hbit] at HE hb
          go_enter Try.func11, Try.ntmps11
          go_wp2
          go_ret
          exact ⟨gRetI HE.out.symm, rfl⟩
        · rw [if_neg hbit] at HE hb
          go_enter Try.func11, Try.ntmps11
          go_wp2
          go_ret
          exact ⟨gRetI HE.out.symm, rfl⟩

end Go.Proofs.Ytkmobiggcehpbaa
