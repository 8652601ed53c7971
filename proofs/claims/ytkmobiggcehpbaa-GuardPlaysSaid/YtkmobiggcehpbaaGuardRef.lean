/-
  Contracts of the reference's guard: Top, Check and Take over the list of all that was taken.
-/
import Derived.Test.YtkmobiggcehpbaaInts
import Derived.Test.YtkmobiggcehpbaaGuardLeaf
import Derived.Laws.AppendOwnNone
import Derived.Deep.LoopGhost
import Derived.StillTailTactics
namespace Go.Proofs.Ytkmobiggcehpbaa
open Go.RowKit

theorem topL_ge : ∀ (L : List Int) (a : Int), a ≤ L.foldl (fun a x => if a < x then x else a) a ∧ ∀ x ∈ L, x ≤ L.foldl (fun a x => if a < x then x else a) a := by
  intro L
  induction L with
  | nil => intro a; exact ⟨Int.le_refl _, fun x h => by simp at h⟩
  | cons y r ih =>
    intro a
    rw [List.foldl_cons]
    have h := ih (if a < y then y else a)
    have h2 : a ≤ (if a < y then y else a) ∧ y ≤ (if a < y then y else a) := by split <;> omega
    refine ⟨by omega, fun x hx => ?_⟩
    rcases List.mem_cons.1 hx with e | hx
    · rw [e]; omega
    · exact h.2 x hx
theorem topL_or : ∀ (L : List Int) (a : Int), L.foldl (fun a x => if a < x then x else a) a = a ∨ L.foldl (fun a x => if a < x then x else a) a ∈ L := by
  intro L
  induction L with
  | nil => intro a; exact .inl rfl
  | cons y r ih =>
    intro a
    rw [List.foldl_cons]
    rcases ih (if a < y then y else a) with h | h
    · rw [h]
      by_cases hy : a < y
      · rw [if_pos hy]; exact .inr (by simp)
      · rw [if_neg hy]; exact .inl rfl
    · exact .inr (by simp [h])
theorem topL_old {L : List Int} {n : Int} (h0 : 0 ≤ n) (hL : ∀ x ∈ L, 0 ≤ x) : (∃ x ∈ L, n + 64 ≤ x) ↔ (L ≠ [] ∧ n < topL L ∧ 64 ≤ topL L - n) := by
  have h1 := topL_ge L 0
  have h2 := topL_or L 0
  change 0 ≤ topL L ∧ ∀ x ∈ L, x ≤ topL L at h1
  change topL L = 0 ∨ topL L ∈ L at h2
  constructor
  · rintro ⟨x, hx, h⟩
    have := h1.2 x hx
    refine ⟨fun e => ?_, by omega, by omega⟩
    subst e
    simp at hx
  · rintro ⟨hne, h3, h4⟩
    rcases h2 with h2 | h2
    · omega
    · exact ⟨_, h2, by omega⟩
theorem topL_step {L : List Int} {k : Nat} (h : k < L.length) : topL (L.take (k + 1)) = if topL (L.take k) < L.getD k 0 then L.getD k 0 else topL (L.take k) := by
  rw [topL, List.take_add_one, List.getElem?_eq_getElem h, getD_lt h, List.foldl_append]
  rfl
theorem mem_take_step {L : List Int} {k : Nat} {n : Int} (h : k < L.length) (hn : n ∉ L.take k) (hk : L.getD k 0 ≠ n) : n ∉ L.take (k + 1) := by
  rw [List.take_add_one, List.getElem?_eq_getElem h]
  rw [getD_lt h] at hk
  simp only [Option.toList_some, List.mem_append, List.mem_singleton]
  rintro (h1 | h1)
  · exact hn h1
  · exact hk h1.symm

/-- Numbers that fit 64 bits. -/
def U64s (L : List Int) : Prop := ∀ x ∈ L, 0 ≤ x ∧ x ≤ 18446744073709551615

theorem refTop_any {w : World} {A : Option Addr} {n c : Nat} {L : List Int} (h : Ik .u64 w A n L) (hu : U64s L) (hn : n ≤ 9223372036854775807) :
    Calls Try.prog 15 #[.agg #[.slice A n c]] w fun e w' => e = .returned (.tuple #[.int .u64 (topL L), .bool (!L.isEmpty)]) ∧ Below w.heap.size w w' := by
  have H := Lib.hid (And.intro h hu)
  have hl := Lib.hid h.len
  clear h hu
  go_enter Try.func15, Try.ntmps15
  go_wp2_with fail
  go_loopw [4, 5] (fun t i wr => ∃ k : Nat, k ≤ n ∧ i = .int .i64 k ∧ t = .int .u64 (topL (L.take k)) ∧ wr = w.alloc (.cells #[.slice A n c] 27)) (fun _ i _ => n - (intOf i).toNat)
  case atStart => exact ⟨0, Nat.zero_le _, rfl, rfl, rfl⟩
  case round =>
    obtain ⟨k, hk, rfl, rfl, rfl⟩ := hrel
    by_cases hlt : k < n
    · have hkl : (k : Int) < (n : Int) := by omega
      obtain ⟨ad, rfl, hblt, hcz⟩ := H.out.1.at_ (by omega)
      have hs := Lib.hid (topL_step (L := L) (k := k) (by rw [hl.out]; exact hlt))
      obtain ⟨z, hz⟩ : ∃ z, z = L.getD k 0 := ⟨_, rfl⟩
      have hcell : (w.alloc (.cells #[.slice (some ad) n c] 27)).cell? (ad.add k) = some (.int .u64 z) := by
        rw [hz]
        exact (((Below.refl w.heap.size w).alloc (Nat.le_refl _) _).cell (by rw [addBlock]; exact hblt)).trans (hcz k hlt)
      rw [← hz] at hs
      obtain ⟨t, ht⟩ : ∃ t, t = topL (L.take k) := ⟨_, rfl⟩
      rw [← ht] at hs ⊢
      clear hz hcz hblt ht
      by_cases hg : t < z
      · go_wp2_with fail
        go_roundw
        case rel => exact ⟨k + 1, by omega, by go_num, by rw [hs.out, if_pos hg], by first | rfl | trivial⟩
        case measure => simp [intOf]; omega
      · go_wp2_with fail
        go_roundw
        case rel => exact ⟨k + 1, by omega, by go_num, by rw [hs.out, if_neg hg], by first | rfl | trivial⟩
        case measure => simp [intOf]; omega
    · obtain rfl : k = n := by omega
      have e : L.take k = L := List.take_of_length_le (by rw [hl.out]; omega)
      rw [e]
      have hz : decide (0 < k) = !L.isEmpty := by
        have := hl.out
        cases L with
        | nil => simp at this; simp [← this]
        | cons x r => simp at this; simp; omega
      clear e hk hlt
      go_wp2_with fail
      go_quiet (fail)
      go_wp2_with fail
      exact bodyPost_ret (v := .tuple #[.int .u64 (topL L), .bool (!L.isEmpty)]) (by simp [results, Try.results15, go_sem]) rfl ⟨rfl, below_drewN' ((Below.refl _ _).alloc (Nat.le_refl _) _) _⟩
end Go.Proofs.Ytkmobiggcehpbaa
