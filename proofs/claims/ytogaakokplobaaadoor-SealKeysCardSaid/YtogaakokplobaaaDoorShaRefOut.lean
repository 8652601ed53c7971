/-
  The sum's bytes as the reference lays them, word by word.
-/
import Derived.Test.YtogaakokplobaaaDoorShaSum
namespace Go.Proofs.YtogaakokplobaaaDoor
open Go

def outR (v : List Int) : Nat → List Int
  | 0 => List.replicate 32 0
  | i + 1 => ((((outR v i).set (4 * i) (v.getD i 0 / 16777216 % 256)).set (4 * i + 1) (v.getD i 0 / 65536 % 256)).set (4 * i + 2) (v.getD i 0 / 256 % 256)).set (4 * i + 3) (v.getD i 0 % 256)
theorem outR_len (v : List Int) (i : Nat) : (outR v i).length = 32 := by
  induction i with
  | zero => simp [outR]
  | succ i ih => simp [outR, ih]
theorem z32_at (j : Nat) : (List.replicate 32 (0 : Int)).getD j 0 = 0 := by
  simp only [List.getD, List.getElem?_replicate]
  split <;> rfl
theorem outK_at (v : List Int) (k j : Nat) (hk : k ≤ 32) : (outK v k).getD j 0 = if j < k then v.getD (j / 4) 0 / 2 ^ (24 - 8 * (j % 4)) % 256 else 0 := by
  induction k with
  | zero => rw [if_neg (by omega)]; exact z32_at j
  | succ k ih =>
    simp only [outK]
    rw [getD_set, outK_len]
    by_cases h : k = j
    · subst h
      rw [if_pos ⟨rfl, by omega⟩, if_pos (Nat.lt_succ_self _)]
    · rw [if_neg (fun x => h x.1), ih (by omega)]
      by_cases h2 : j < k
      · rw [if_pos h2, if_pos (by omega)]
      · rw [if_neg h2, if_neg (by omega)]
theorem outR_at (v : List Int) (i j : Nat) (hi : i ≤ 8) : (outR v i).getD j 0 = if j < 4 * i then v.getD (j / 4) 0 / 2 ^ (24 - 8 * (j % 4)) % 256 else 0 := by
  induction i with
  | zero => rw [if_neg (by omega)]; exact z32_at j
  | succ i ih =>
    have ih := ih (by omega)
    have l1 := outR_len v i
    simp only [outR]
    rw [getD_set, getD_set, getD_set, getD_set]
    simp only [List.length_set, l1]
    by_cases h : 4 * i ≤ j ∧ j < 4 * (i + 1)
    · have hr : j = 4 * i ∨ j = 4 * i + 1 ∨ j = 4 * i + 2 ∨ j = 4 * i + 3 := by omega
      rcases hr with rfl | rfl | rfl | rfl
      · have e1 : (4 * i) / 4 = i := by omega
        have e2 : (4 * i) % 4 = 0 := by omega
        rw [if_neg (by omega), if_neg (by omega), if_neg (by omega), if_pos ⟨rfl, by omega⟩, if_pos h.2, e1, e2]
        rfl
      · have e1 : (4 * i + 1) / 4 = i := by omega
        have e2 : (4 * i + 1) % 4 = 1 := by omega
        rw [if_neg (by omega), if_neg (by omega), if_pos ⟨rfl, by omega⟩, if_pos h.2, e1, e2]
        rfl
      · have e1 : (4 * i + 2) / 4 = i := by omega
        have e2 : (4 * i + 2) % 4 = 2 := by omega
        rw [if_neg (by omega), if_pos ⟨rfl, by omega⟩, if_pos h.2, e1, e2]
        rfl
      · have e1 : (4 * i + 3) / 4 = i := by omega
        have e2 : (4 * i + 3) % 4 = 3 := by omega
        rw [if_pos ⟨rfl, by omega⟩, if_pos h.2, e1, e2]
        have e3 : (24 : Nat) - 8 * 3 = 0 := by omega
        rw [e3, Int.pow_zero, Int.ediv_one]
    · rw [if_neg (by omega), if_neg (by omega), if_neg (by omega), if_neg (by omega), ih]
      by_cases h2 : j < 4 * i
      · rw [if_pos h2, if_pos (by omega)]
      · rw [if_neg h2, if_neg (by omega)]
theorem outR_all (v : List Int) : outR v 8 = outK v 32 := by
  refine ext_getD (by rw [outR_len, outK_len]) fun j hj => ?_
  rw [outR_at v 8 j (by omega), outK_at v 32 j (by omega)]

end Go.Proofs.YtogaakokplobaaaDoor
