/-
  What a guard answers, over the list of all numbers that it took; and how a greatest number and a word of 64 bits tell the same.
-/
import Derived.Below
import Derived.Laws.Bits64b
namespace Go.Proofs.Ytkmobiggcehpbaa

/-- The error's number for n, where L was taken. -/
def chk (n : Int) (L : List Int) : Int := if 4611686018427387904 < n then 1 else if (∃ x ∈ L, n + 64 ≤ x) ∨ n ∈ L then 10 else 0
/-- What was taken behind a call for n. -/
def tk (n : Int) (L : List Int) : List Int := if chk n L = 0 then L ++ [n] else L
/-- The greatest number. -/
def topL (L : List Int) : Int := L.foldl (fun a x => if a < x then x else a) 0

/-- The greatest number and the bits below it tell L. -/
structure Win (L : List Int) (t : Int) (m : Nat) : Prop where
  all : ∀ x ∈ L, 0 ≤ x ∧ x ≤ t
  lo : 0 ≤ t
  hi : t ≤ 4611686018427387904
  mem : L ≠ [] → t ∈ L
  nil : L = [] → t = 0
  lt : m < 18446744073709551616
  bit : ∀ k : Nat, k < 64 → (m.testBit k = true ↔ t - k ∈ L)

theorem Win.new : Win [] 0 0 := ⟨fun _ h => by simp at h, by omega, by omega, fun h => absurd rfl h, fun _ => rfl, by omega, fun k _ => by simp⟩

section
variable {L : List Int} {t n : Int} {m : Nat}

theorem Win.zero (h : Win L t m) : m ≠ 0 ↔ L ≠ [] := by
  constructor
  · intro hm hL
    subst hL
    refine hm (Nat.eq_of_testBit_eq fun i => ?_)
    by_cases hi : i < 64
    · have := h.bit i hi
      simpa using this
    · rw [Nat.zero_testBit]
      exact Nat.testBit_lt_two_pow (Nat.lt_of_lt_of_le h.lt (by have : (2:Nat) ^ 64 ≤ 2 ^ i := Nat.pow_le_pow_right (by omega) (by omega); simpa using this))
  · rintro hL rfl
    have := (h.bit 0 (by omega)).2 (by simpa using h.mem hL)
    simp at this
theorem foldl_top {t : Int} : ∀ (L : List Int) (a : Int), (∀ x ∈ L, x ≤ t) → a ≤ t → (a = t ∨ t ∈ L) → L.foldl (fun a x => if a < x then x else a) a = t := by
  intro L
  induction L with
  | nil => intro a _ _ h; simpa using h
  | cons x r ih =>
    intro a h1 h2 h3
    rw [List.foldl_cons]
    have hx := h1 x (by simp)
    refine ih _ (fun y hy => h1 y (by simp [hy])) (by split <;> omega) ?_
    rcases h3 with h3 | h3
    · left; split <;> omega
    · rcases List.mem_cons.1 h3 with h3 | h3
      · left; split <;> omega
      · right; exact h3
theorem Win.top (h : Win L t m) : topL L = t := foldl_top L 0 (fun x hx => (h.all x hx).2) h.lo (by
  by_cases hL : L = []
  · left; rw [h.nil hL]
  · right; exact h.mem hL)
theorem Win.great (h : Win L t m) (h1 : t < n) (h2 : n ≤ 4611686018427387904) : chk n L = 0 := by
  unfold chk
  rw [if_neg (by omega), if_neg]
  rintro (⟨x, hx, h3⟩ | h3)
  · have := (h.all x hx).2; omega
  · have := (h.all n h3).2; omega
theorem chk_over (h2 : 4611686018427387904 < n) : chk n L = 1 := if_pos h2
theorem Win.old (h : Win L t m) (h0 : 0 ≤ n) (h2 : 64 ≤ t - n) : chk n L = 10 := by
  unfold chk
  rw [if_neg (by have := h.hi; omega), if_pos]
  refine .inl ⟨t, h.mem fun e => ?_, by omega⟩
  have := h.nil e
  omega
theorem Win.bit_at (h : Win L t m) (_ : n ≤ t) (h2 : t - n < 64) : m.testBit (t - n).toNat = true ↔ n ∈ L := by
  have := h.bit (t - n).toNat (by omega)
  rwa [show t - ((t - n).toNat : Int) = n by omega] at this
theorem Win.near (h : Win L t m) (h1 : n ≤ t) (h2 : t - n < 64) : chk n L = if m.testBit (t - n).toNat then 10 else 0 := by
  unfold chk
  rw [if_neg (by have := h.hi; omega)]
  have hb := h.bit_at h1 h2
  by_cases h3 : n ∈ L
  · rw [if_pos (.inr h3), if_pos (hb.2 h3)]
  · rw [if_neg, if_neg (fun e => h3 (hb.1 e))]
    rintro (⟨x, hx, h4⟩ | h4)
    · have := (h.all x hx).2; omega
    · exact h3 h4

/-- The word behind a step up to n. -/
def shlN (m : Nat) (c : Int) : Nat := m * 2 ^ min c.toNat 64 % 18446744073709551616
theorem shlN_lt (m : Nat) (c : Int) : shlN m c < 18446744073709551616 := Nat.mod_lt _ (by omega)
theorem shlN_bit (m : Nat) (c : Int) (k : Nat) (hk : k < 64) : (shlN m c).testBit k = (decide (min c.toNat 64 ≤ k) && m.testBit (k - min c.toNat 64)) := by
  unfold shlN
  rw [show (18446744073709551616 : Nat) = 2 ^ 64 by decide, Nat.testBit_mod_two_pow, ← Nat.shiftLeft_eq, Nat.testBit_shiftLeft]
  simp [hk]
theorem Win.up (h : Win L t m) (h1 : t < n) (h2 : n ≤ 4611686018427387904) : Win (L ++ [n]) n (shlN m (n - t) ||| 1) := by
  have hlo := h.lo
  refine ⟨fun x hx => ?_, by omega, h2, fun _ => by simp, fun e => by simp at e, Nat.or_lt_two_pow (n := 64) (shlN_lt _ _) (by omega), fun k hk => ?_⟩
  · rcases List.mem_append.1 hx with hx | hx
    · have := h.all x hx; omega
    · simp at hx; omega
  · rw [Nat.testBit_or, shlN_bit m _ k hk]
    by_cases h0 : k = 0
    · subst h0; simp
    · have h10 : Nat.testBit 1 k = false := by rw [show (1 : Nat) = 2 ^ 0 by rfl, Nat.testBit_two_pow]; simp; omega
      rw [h10, Bool.or_false]
      have hmem : n - (k : Int) ∈ L ++ [n] ↔ n - (k : Int) ∈ L := by simp; omega
      rw [hmem]
      by_cases hj : min (n - t).toNat 64 ≤ k
      · have e1 : min (n - t).toNat 64 = (n - t).toNat := by omega
        rw [decide_eq_true hj, Bool.true_and, h.bit _ (by omega), e1]
        rw [e1] at hj
        rw [show t - ((k - (n - t).toNat : Nat) : Int) = n - k by omega]
      · rw [decide_eq_false hj, Bool.false_and]
        constructor
        · intro e; cases e
        · intro e; have := (h.all _ e).2; omega
theorem Win.in_ (h : Win L t m) (h0 : 0 ≤ n) (h1 : n ≤ t) (h2 : t - n < 64) : Win (L ++ [n]) t (m ||| shlN 1 (t - n)) := by
  have hlo := h.lo
  have hne : n = t ∨ L ≠ [] := by
    by_cases hL : L = []
    · left; have := h.nil hL; omega
    · exact .inr hL
  refine ⟨fun x hx => ?_, by omega, h.hi, fun _ => ?_, fun e => by simp at e, Nat.or_lt_two_pow (n := 64) h.lt (shlN_lt _ _), fun k hk => ?_⟩
  · rcases List.mem_append.1 hx with hx | hx
    · exact h.all x hx
    · simp at hx; omega
  · rcases hne with e | hL
    · rw [e]; simp
    · exact List.mem_append_left _ (h.mem hL)
  · rw [Nat.testBit_or, shlN_bit 1 _ k hk, Bool.or_eq_true, h.bit k hk, show (1 : Nat) = 2 ^ 0 by rfl, Nat.testBit_two_pow]
    simp only [Bool.and_eq_true, decide_eq_true_eq, List.mem_append, List.mem_singleton]
    constructor
    · rintro (h3 | h3)
      · exact .inl h3
      · right; omega
    · rintro (h3 | h3)
      · exact .inl h3
      · right; omega
end

theorem tk_ok {n : Int} {L : List Int} (h : chk n L = 0) : tk n L = L ++ [n] := if_pos h
theorem tk_no {n : Int} {L : List Int} (h : chk n L ≠ 0) : tk n L = L := if_neg h
theorem chk_cases (n : Int) (L : List Int) : chk n L = 0 ∨ chk n L = 1 ∨ chk n L = 10 := by
  unfold chk; split
  · exact .inr (.inl rfl)
  · split
    · exact .inr (.inr rfl)
    · exact .inl rfl
theorem chk_mem {n : Int} {L : List Int} (h : n ∈ L) : chk n L ≠ 0 := by
  unfold chk; split
  · omega
  · rw [if_pos (.inr h)]; omega

end Go.Proofs.Ytkmobiggcehpbaa
