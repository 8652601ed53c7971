/-
  Layer 14 as numbers: what a version can have, which choices may be, what is chosen of two offers.
-/
import Derived.Test.YtpkammjbafijaaaProg
import Derived.Lib.Hide
import Derived.Laws.BitsAllLaws
namespace Go.Proofs.Ytpkammjbafijaaa

/-- What a version can have. -/
def ceilN (v : Int) : Nat := if v = 1 then 17 else if v = 2 then 51 else if v = 3 then 63 else 0
/-- Is it a version's number? -/
def verS (v : Int) : Bool := decide (1 ≤ v) && decide (v ≤ 3)
/-- The version in which a feature came. -/
def sinceN (i : Nat) : Nat := if i = 0 ∨ i = 4 then 1 else if i = 1 ∨ i = 5 then 2 else if i = 2 ∨ i = 3 then 3 else 0
/-- May a choice be? -/
def mayS (v f : Int) : Bool := verS v && decide (f.toNat &&& ceilN v = f.toNat)
/-- What both can have of what a version can have. -/
def bothN (a b v : Int) : Nat := a.toNat &&& b.toNat &&& ceilN v

theorem ver_cases {v : Int} (h : verS v = true) : v = 1 ∨ v = 2 ∨ v = 3 := by
  unfold verS at h; simp at h; omega
theorem ver_no {v : Int} (h : verS v = false) : ceilN v = 0 := by
  unfold verS at h; simp at h
  unfold ceilN
  rw [if_neg (by omega), if_neg (by omega), if_neg (by omega)]
theorem ceil_lt (v : Int) : ceilN v < 64 := by
  unfold ceilN; split <;> (try split) <;> (try split) <;> omega
theorem both_le (a b v : Int) : bothN a b v ≤ ceilN v := Nat.and_le_right
theorem both_lt (a b v : Int) : bothN a b v < 64 := Nat.lt_of_le_of_lt (both_le a b v) (ceil_lt v)
theorem both_may {a b v : Int} (h : verS v = true) : mayS v (bothN a b v : Int) = true := by
  unfold mayS
  rw [h]
  simp only [Int.toNat_natCast, Bool.true_and, decide_eq_true_eq]
  unfold bothN
  rw [Nat.and_assoc, Nat.and_self]
theorem both_comm (a b v : Int) : bothN a b v = bothN b a v := by unfold bothN; rw [Nat.and_comm a.toNat]
/-- Nothing of x lies outside y. -/
def inN (x y : Nat) : Prop := x &&& y = x
theorem inN_bits {x y : Nat} : inN x y ↔ ∀ i, x.testBit i = true → y.testBit i = true := by
  constructor
  · intro h i hx
    have : (x &&& y).testBit i = true := by rw [h]; exact hx
    rw [Nat.testBit_and] at this
    simp at this; exact this.2
  · intro h
    apply Nat.eq_of_testBit_eq
    intro i
    rw [Nat.testBit_and]
    cases hx : x.testBit i
    · rfl
    · rw [h i hx]; rfl
theorem outs_zero {x y : Int} (h0 : 0 ≤ x ∧ x < 4294967296) (h1 : 0 ≤ y ∧ y < 4294967296) : bits .andNot .u32 x y = 0 ↔ inN x.toNat y.toNat := by
  rw [u32_andNot x y h0.1 h0.2 h1.1 h1.2]
  have hb : ∀ i, (4294967295 - y.toNat).testBit i = (decide (i < 32) && !y.toNat.testBit i) := by
    intro i
    have := Nat.testBit_two_pow_sub_succ (x := y.toNat) (n := 32) (by omega) i
    rw [show 2 ^ 32 - (y.toNat + 1) = 4294967295 - y.toNat by omega] at this
    exact this
  have hx : ∀ i, x.toNat.testBit i = true → i < 32 := by
    intro i h
    have := Nat.ge_two_pow_of_testBit h
    rcases Nat.lt_or_ge i 32 with h2 | h2
    · exact h2
    · have : 2 ^ 32 ≤ 2 ^ i := Nat.pow_le_pow_right (by omega) h2
      omega
  rw [inN_bits]
  constructor
  · intro h i hi
    have h2 : (x.toNat &&& (4294967295 - y.toNat)).testBit i = false := by
      rw [show x.toNat &&& (4294967295 - y.toNat) = 0 by omega]; exact Nat.zero_testBit i
    rw [Nat.testBit_and, hb, hi] at h2
    simp [hx i hi] at h2
    exact h2
  · intro h
    have : x.toNat &&& (4294967295 - y.toNat) = 0 := by
      apply Nat.eq_of_testBit_eq
      intro i
      rw [Nat.testBit_and, hb, Nat.zero_testBit]
      cases hi : x.toNat.testBit i
      · rfl
      · rw [h i hi]; simp
    rw [this]; rfl
theorem may_outs {v f : Int} (h0 : 0 ≤ f ∧ f < 4294967296) : mayS v f = (verS v && (bits .andNot .u32 f (ceilN v : Int) == 0)) := by
  unfold mayS
  congr 1
  have := ceil_lt v
  rw [Bool.eq_iff_iff]
  simp only [decide_eq_true_eq, beq_iff_eq]
  rw [outs_zero h0 ⟨by omega, by omega⟩, Int.toNat_natCast]
  rfl
theorem and_nat {x y : Int} (h0 : 0 ≤ x ∧ x < 4294967296) (h1 : 0 ≤ y ∧ y < 4294967296) : bits .and .u32 x y = ((x.toNat &&& y.toNat : Nat) : Int) := u32_and x y h0.1 h0.2 h1.1 h1.2
theorem both_code {a b : Int} (v : Int) (h0 : 0 ≤ a ∧ a < 4294967296) (h1 : 0 ≤ b ∧ b < 4294967296) : bits .and .u32 (bits .and .u32 a b) (ceilN v : Int) = (bothN a b v : Int) := by
  have hc := ceil_lt v
  have hl : a.toNat &&& b.toNat ≤ a.toNat := Nat.and_le_left
  rw [and_nat h0 h1, and_nat ⟨by omega, by omega⟩ ⟨by omega, by omega⟩]
  simp only [Int.toNat_natCast]
  rfl

/-- Bit by bit. -/
theorem bit_or {X k : Nat} (hX : X.testBit k = true) : (X % 2 ^ k) ||| 2 ^ k = X % 2 ^ (k + 1) := by
  apply Nat.eq_of_testBit_eq
  intro i
  rw [Nat.testBit_or, Nat.testBit_mod_two_pow, Nat.testBit_mod_two_pow, Nat.testBit_two_pow]
  by_cases h : k = i
  · subst h; simp [hX]
  · rw [decide_eq_false h, Bool.or_false, show decide (i < k + 1) = decide (i < k) from decide_eq_decide.2 (by omega)]
theorem bit_no {X k : Nat} (hX : X.testBit k = false) : X % 2 ^ (k + 1) = X % 2 ^ k := by
  apply Nat.eq_of_testBit_eq
  intro i
  rw [Nat.testBit_mod_two_pow, Nat.testBit_mod_two_pow]
  by_cases h : k = i
  · subst h; simp [hX]
  · rw [show decide (i < k + 1) = decide (i < k) from decide_eq_decide.2 (by omega)]
theorem bit_all {X : Nat} (h : X < 64) : X % 2 ^ 32 = X := Nat.mod_eq_of_lt (by omega)
theorem bit_is (X k : Nat) : X.testBit k = decide (X / 2 ^ k % 2 = 1) := Nat.testBit_eq_decide_div_mod_eq
/-- A version's features are those that came till it. -/
theorem ceil_bits {v : Int} (hv : verS v = true) {k : Nat} (hk : k < 32) : (ceilN v).testBit k = (decide (0 < sinceN k) && decide ((sinceN k : Int) ≤ v)) := by
  have h : ∀ k : Fin 32, (17).testBit k.1 = (decide (0 < sinceN k) && decide ((sinceN k : Int) ≤ 1)) ∧ (51).testBit k.1 = (decide (0 < sinceN k) && decide ((sinceN k : Int) ≤ 2)) ∧ (63).testBit k.1 = (decide (0 < sinceN k) && decide ((sinceN k : Int) ≤ 3)) := by decide +kernel
  rcases ver_cases hv with rfl | rfl | rfl
  · exact (h ⟨k, hk⟩).1
  · exact (h ⟨k, hk⟩).2.1
  · exact (h ⟨k, hk⟩).2.2
theorem or_pow (k : Nat) : ((2 ^ k : Nat) : Int) = (2 : Int) ^ k := by simp
theorem or_next {X k : Nat} (hk : k < 32) (hX : X.testBit k = true) : bits .or .u32 ((X % 2 ^ k : Nat) : Int) ((2 ^ k : Nat) : Int) = ((X % 2 ^ (k + 1) : Nat) : Int) := by
  have h1 : X % 2 ^ k < 2 ^ k := Nat.mod_lt _ (Nat.two_pow_pos k)
  have h2 : 2 ^ k < 2 ^ 32 := Nat.pow_lt_pow_right (by omega) hk
  rw [u32_or _ _ (by omega) (by omega) (by omega) (by omega)]
  simp only [Int.toNat_natCast]
  rw [bit_or hX]
theorem or_walk {X k : Nat} (hk : k < 32) (hX : X.testBit k = true) : bits .or .u32 ((X : Int) % 2 ^ k) (2 ^ k % 4294967296) = ((X % 2 ^ (k + 1) : Nat) : Int) := by
  have h2 : 2 ^ k < 2 ^ 32 := Nat.pow_lt_pow_right (by omega) hk
  have e1 : (X : Int) % 2 ^ k = ((X % 2 ^ k : Nat) : Int) := by simp
  have e2 : (2 : Int) ^ k % 4294967296 = ((2 ^ k : Nat) : Int) := by
    rw [← or_pow k]; omega
  rw [e1, e2]
  exact or_next hk hX
theorem or_walkF {X k : Nat} (hk : k < 32) (hX : X.testBit k = true) : bits .or .u32 ((X % 2 ^ k : Nat) : Int) (2 ^ k % 4294967296) = ((X % 2 ^ (k + 1) : Nat) : Int) := by
  rw [← or_walk hk hX]; simp
theorem bit_int {f : Int} (h : 0 ≤ f) {k : Nat} : f.toNat.testBit k = (f / 2 ^ k % 2 == 1) := by
  rw [bit_is]
  obtain ⟨n, rfl⟩ : ∃ n : Nat, f = n := ⟨f.toNat, by omega⟩
  simp only [Int.toNat_natCast]
  have e : (n : Int) / 2 ^ k % 2 = ((n / 2 ^ k % 2 : Nat) : Int) := by simp
  rw [e, Bool.eq_iff_iff]
  simp only [decide_eq_true_eq, beq_iff_eq]
  omega
theorem ceil_more {v V : Int} (h : verS v = true) (h2 : verS V = true) (hv : v ≤ V) : inN (ceilN v) (ceilN V) := by
  unfold inN
  rcases ver_cases h with rfl | rfl | rfl <;> rcases ver_cases h2 with rfl | rfl | rfl <;> first | omega | decide
/-- Whatever both can do and may be is among what is chosen. -/
theorem most {v V f x y : Int} (hm : mayS v f = true) (h2 : verS V = true) (hv : v ≤ V) (hx : inN f.toNat x.toNat) (hy : inN f.toNat y.toNat) : inN f.toNat (bothN x y V) := by
  unfold mayS at hm
  simp only [Bool.and_eq_true, decide_eq_true_eq] at hm
  have hc := inN_bits.1 (show inN f.toNat (ceilN v) from hm.2)
  have hC := inN_bits.1 (ceil_more hm.1 h2 hv)
  rw [inN_bits] at hx hy ⊢
  intro i hi
  unfold bothN
  rw [Nat.testBit_and, Nat.testBit_and, hx i hi, hy i hi, hC i (hc i hi)]
  rfl
theorem both_x (x y V : Int) : inN (bothN x y V) x.toNat := by
  rw [inN_bits]
  intro i
  unfold bothN
  rw [Nat.testBit_and, Nat.testBit_and]
  intro h
  simp only [Bool.and_eq_true] at h
  exact h.1.1
theorem both_y (x y V : Int) : inN (bothN x y V) y.toNat := by rw [both_comm]; exact both_x y x V
/-- More of an end, and a choice is never less. -/
theorem grows {x y g : Int} {V V' : Int} (h : verS V = true) (h' : verS V' = true) (hv : V ≤ V') (hg : inN x.toNat g.toNat) : inN (bothN x y V) (bothN g y V') := by
  rw [inN_bits]
  have hC := inN_bits.1 (ceil_more h h' hv)
  rw [inN_bits] at hg
  intro i
  unfold bothN
  rw [Nat.testBit_and, Nat.testBit_and, Nat.testBit_and, Nat.testBit_and]
  simp only [Bool.and_eq_true]
  intro hi
  exact ⟨⟨hg i hi.1.1, hi.1.2⟩, hC i hi.2⟩
end Go.Proofs.Ytpkammjbafijaaa
