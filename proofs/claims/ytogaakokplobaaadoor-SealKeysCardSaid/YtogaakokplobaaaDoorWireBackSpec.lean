/-
  What was laid is read as it was: numbers by digits of 128 and of 256, and texts. Nothing here speaks of the program.
-/
import Derived.Test.YtogaakokplobaaaDoorWireSpec
namespace Go.Proofs.YtogaakokplobaaaDoor

theorem var_back' (rest : List Int) : ∀ (f i : Nat) (x : Int), f + i = 9 → 0 ≤ x → (0 < i → 1 ≤ x) → x < 2 ^ (64 - 7 * i) →
    fvE i (varF f x ++ rest) = 0 ∧ fvV (varF f x ++ rest) = x ∧ fvK (varF f x ++ rest) = (varF f x).length := by
  intro f
  induction f with
  | zero =>
    intro i x hi h0 h1 h2
    obtain rfl : i = 9 := by omega
    have := h1 (by omega)
    simp at h2
    obtain rfl : x = 1 := by omega
    simp [varF, fvE, fvV, fvK, badD]
  | succ f ih =>
    intro i x hi h0 h1 h2
    by_cases hx : x < 128
    · have hb : badD i x = false := by
        simp [badD]
        omega
      rw [varF_last _ hx]
      simp [fvE, fvV, fvK, hb, hx]
    · have e : 64 - 7 * i = (64 - 7 * (i + 1)) + 7 := by omega
      rw [e, Int.pow_add] at h2
      obtain ⟨a1, a2, a3⟩ := ih (i + 1) (x / 128) (by omega) (by omega) (fun _ => by omega) (by omega)
      have hb : badD i (x % 128 + 128) = false := by
        simp [badD]
        omega
      have hl : ¬ (x % 128 + 128 < 128) := by omega
      rw [varF_step _ (by omega), List.cons_append]
      unfold fvE fvV fvK
      rw [if_neg (by simp [hb]), if_neg hl, if_neg hl, if_neg hl, a1, a2, a3]
      exact ⟨rfl, by omega, by simp⟩
theorem var_back {x : Int} (h0 : 0 ≤ x) (h1 : x ≤ 18446744073709551615) (rest : List Int) : var1 (varL x ++ rest) 0 = (x, rest, 0) := by
  obtain ⟨a1, a2, a3⟩ := var_back' rest 9 0 x rfl h0 (fun h => by omega) (by simp; omega)
  unfold var1
  rw [if_neg (by simp)]
  unfold varL
  rw [if_pos a1, a2, a3, List.drop_left]

theorem mod_split (x : Int) (_ : 0 ≤ x) (s : Nat) : x / 256 ^ s % 256 * 256 ^ s + x % 256 ^ s = x % 256 ^ (s + 1) := by
  rw [Int.pow_succ]
  have hp : (0 : Int) < 256 ^ s := pow_pos256 s
  obtain ⟨p, hP⟩ : ∃ p, p = (256 : Int) ^ s := ⟨_, rfl⟩
  rw [← hP] at hp ⊢
  clear hP
  have e1 : x = p * (x / p) + x % p := (Int.mul_ediv_add_emod x p).symm
  have e2 : x / p = 256 * (x / p / 256) + x / p % 256 := (Int.mul_ediv_add_emod (x / p) 256).symm
  have b1 := Int.emod_nonneg x (show p ≠ 0 by omega)
  have b2 := Int.emod_lt_of_pos x hp
  have b3 := Int.emod_nonneg (x / p) (show (256 : Int) ≠ 0 by omega)
  have b4 := Int.emod_lt_of_pos (x / p) (show (0 : Int) < 256 by omega)
  have e3 : x = (p * 256) * (x / p / 256) + (x / p % 256 * p + x % p) := by
    have : p * (x / p) = p * 256 * (x / p / 256) + x / p % 256 * p := by
      conv => lhs; rw [e2]
      rw [Int.mul_add, Int.mul_assoc, Int.mul_comm p (x / p % 256)]
    omega
  have c1 : 0 ≤ x / p % 256 * p := Int.mul_nonneg b3 (by omega)
  have c2 : x / p % 256 * p ≤ 255 * p := Int.mul_le_mul_of_nonneg_right (by omega) (by omega)
  conv => rhs; rw [e3]
  rw [Int.mul_add_emod_self_left]
  exact (Int.emod_eq_of_lt (by omega) (by omega)).symm
theorem valL_numL (x : Int) (h : 0 ≤ x) (s : Nat) : ∀ acc, valL acc (numL x s) = acc * 256 ^ s + x % 256 ^ s := by
  induction s with
  | zero => intro acc; simp [numL, valL, Int.emod_one]
  | succ s ih =>
    intro acc
    rw [numL, valL, ih, ← mod_split x h s, Int.pow_succ, Int.add_mul, Int.mul_assoc, Int.mul_comm 256 (256 ^ s)]
    omega
theorem num_back {x : Int} (h0 : 0 ≤ x) {s : Nat} (hs : 1 ≤ s) (hs' : s ≤ 8) (h1 : x < 256 ^ s) (rest : List Int) : num1 (numL x s ++ rest) 0 s = (x, rest, 0) := by
  have hl := numL_len x s
  unfold num1
  rw [if_neg (by simp), if_neg (by omega), if_neg (by simp [hl]; omega)]
  have e : ((s : Int)).toNat = (numL x s).length := by simp [hl]
  rw [e, List.take_left, List.drop_left, valL_numL x h0, Int.emod_eq_of_lt h0 h1, Int.zero_mul, Int.zero_add]
theorem text_back (b more : List Int) (h : b.length ≤ 4096) : text1 (varL b.length ++ b ++ more) 0 b.length = (b, more, 0) := by
  obtain ⟨a1, a2, a3⟩ := var_back' (b ++ more) 9 0 (b.length : Int) rfl (by omega) (fun h => by omega) (by simp; omega)
  unfold text1
  rw [List.append_assoc]
  unfold varL
  have e : (((varF 9 (b.length : Int) ++ (b ++ more)).length : Nat) : Int) - ((varF 9 (b.length : Int)).length : Nat) = (b.length : Int) + more.length := by simp; omega
  rw [if_neg (by simp), if_neg (by simp [a1]), a2, a3, if_neg (by omega), if_neg (by rw [e]; omega), List.drop_left]
  simp
theorem take_back (more : List Int) : take1 more 0 more.length = (more, [], 0) := by
  unfold take1
  rw [if_neg (by simp), if_neg (by omega), if_neg (by omega)]
  simp

theorem varF_u8 (f : Nat) : ∀ x : Int, 0 ≤ x → x < 128 ^ (f + 1) → ∀ z ∈ varF f x, 0 ≤ z ∧ z ≤ 255 := by
  induction f with
  | zero =>
    intro x h0 h1 z hz
    simp [varF] at hz h1
    omega
  | succ f ih =>
    intro x h0 h1 z hz
    by_cases hx : x < 128
    · rw [varF_last _ hx] at hz
      simp at hz
      omega
    · rw [varF_step _ (by omega)] at hz
      rw [Int.pow_succ] at h1
      rcases List.mem_cons.1 hz with rfl | hz
      · omega
      · exact ih (x / 128) (by omega) (Int.ediv_lt_of_lt_mul (by omega) h1) z hz
theorem varL_u8 {x : Int} (h0 : 0 ≤ x) (h1 : x ≤ 18446744073709551615) : ∀ z ∈ varL x, 0 ≤ z ∧ z ≤ 255 :=
  varF_u8 9 x h0 (by simp; omega)
theorem numL_u8 (x : Int) (s : Nat) : ∀ z ∈ numL x s, 0 ≤ z ∧ z ≤ 255 := by
  induction s with
  | zero => intro z hz; simp [numL] at hz
  | succ s ih =>
    intro z hz
    rw [numL] at hz
    rcases List.mem_cons.1 hz with rfl | hz
    · omega
    · exact ih z hz

end Go.Proofs.YtogaakokplobaaaDoor
