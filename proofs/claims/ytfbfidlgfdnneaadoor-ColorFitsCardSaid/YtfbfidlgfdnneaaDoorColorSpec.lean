/-
  What layer 13 says: the parts of a colour, how far two are, and what a colour becomes.
-/
import Derived.Test.YtfbfidlgfdnneaaDoorWireMem
namespace Go.Proofs.YtfbfidlgfdnneaaDoor

/-- The sixteen. -/
def sixS : List (Int × Int × Int) := [(0, 0, 0), (205, 0, 0), (0, 205, 0), (205, 205, 0), (0, 0, 238), (205, 0, 205), (0, 205, 205), (229, 229, 229), (127, 127, 127), (255, 0, 0), (0, 255, 0), (255, 255, 0), (92, 92, 255), (255, 0, 255), (0, 255, 255), (255, 255, 255)]
def levelS (k : Int) : Int := if k = 0 then 0 else 55 + 40 * k
/-- A colour of three parts. -/
def threeS (c : Int) : Prop := 16777216 ≤ c ∧ c < 33554432
instance (c : Int) : Decidable (threeS c) := by unfold threeS; infer_instance
/-- Which colours may be (layer 8's word, said again so that layer 13 stands by itself). -/
def hueMay (c : Int) : Bool := decide (c ≤ 256 ∨ (16777216 ≤ c ∧ c ≤ 33554431))
def partsS (c : Int) : Option (Int × Int × Int) :=
  if threeS c then some ((c - 16777216) / 65536, (c - 16777216) / 256 % 256, (c - 16777216) % 256)
  else if c < 1 ∨ 256 < c then none
  else if 233 ≤ c then some (10 * (c - 1) - 2312, 10 * (c - 1) - 2312, 10 * (c - 1) - 2312)
  else if 17 ≤ c then some (levelS ((c - 17) / 36), levelS ((c - 17) / 6 % 6), levelS ((c - 17) % 6))
  else some (sixS.getD (c - 1).toNat (0, 0, 0))
/-- The parts, or zeros; and whether there are any. -/
def pT (c : Int) : Int × Int × Int := (partsS c).getD (0, 0, 0)
def hasS (c : Int) : Bool := (partsS c).isSome
def sqS (a b : Int × Int × Int) : Int := (a.1 - b.1) * (a.1 - b.1) + (a.2.1 - b.2.1) * (a.2.1 - b.2.1) + (a.2.2 - b.2.2) * (a.2.2 - b.2.2)
def farS (x y : Int) : Int := match partsS x, partsS y with
  | some a, some b => sqS a b
  | _, _ => -1
theorem farS_eq (x y : Int) : farS x y = if hasS x = true ∧ hasS y = true then sqS (pT x) (pT y) else -1 := by
  unfold farS hasS pT
  cases partsS x <;> cases partsS y <;> simp
/-- The least of the nearest of n colours from a number on: its number. -/
def nearN (c from_ : Int) : Nat → Int
  | 0 => from_
  | n + 1 => if farS c (from_ + (n + 1 : Nat)) < farS c (nearN c from_ n) then from_ + (n + 1 : Nat) else nearN c from_ n
def to256S (c : Int) : Int := if threeS c then nearN c 17 239 else c
def to16S (c : Int) : Int := if threeS c ∨ (17 ≤ c ∧ c ≤ 256) then nearN c 1 15 else c
def bit0 (f : Int) : Bool := decide (f % 2 = 1)
def bit1 (f : Int) : Bool := decide (f / 2 % 2 = 1)
def fitS (c f : Int) : Int :=
  if (threeS c ∧ bit1 f = true) ∨ ((17 ≤ c ∧ c ≤ 256) ∧ bit0 f = true) then c
  else if threeS c ∧ bit0 f = true then to256S c
  else to16S c
theorem nearN_in (c a : Int) : ∀ n : Nat, a ≤ nearN c a n ∧ nearN c a n ≤ a + n
  | 0 => ⟨Int.le_refl _, by unfold nearN; omega⟩
  | n + 1 => by
    have h := nearN_in c a n
    unfold nearN
    split <;> omega
theorem nearN_least (c a : Int) : ∀ (n : Nat) (k : Int), a ≤ k → k ≤ a + n → farS c (nearN c a n) < farS c k ∨ (farS c (nearN c a n) = farS c k ∧ nearN c a n ≤ k)
  | 0, k, h1, h2 => by
    obtain rfl : k = a := by omega
    exact .inr ⟨rfl, Int.le_refl _⟩
  | n + 1, k, h1, h2 => by
    have hin := nearN_in c a n
    by_cases hk : k ≤ a + n
    · have h := nearN_least c a n k h1 hk
      unfold nearN
      split
      · rename_i hlt
        left
        rcases h with h | h <;> omega
      · exact h
    · obtain rfl : k = a + ((n + 1 : Nat) : Int) := by omega
      unfold nearN
      split
      · exact .inr ⟨rfl, Int.le_refl _⟩
      · rename_i hlt
        by_cases he : farS c (nearN c a n) = farS c (a + ((n + 1 : Nat) : Int))
        · exact .inr ⟨he, by omega⟩
        · left; omega
theorem to256_in {c : Int} (h : threeS c) : 17 ≤ to256S c ∧ to256S c ≤ 256 := by
  unfold to256S; rw [if_pos h]
  have := nearN_in c 17 239
  omega
theorem to16_in {c : Int} (h : threeS c ∨ (17 ≤ c ∧ c ≤ 256)) : 1 ≤ to16S c ∧ to16S c ≤ 16 := by
  unfold to16S; rw [if_pos h]
  have := nearN_in c 1 15
  omega
theorem to256_id {c : Int} (h : ¬ threeS c) : to256S c = c := if_neg h
theorem to16_id {c : Int} (h : ¬ (threeS c ∨ (17 ≤ c ∧ c ≤ 256))) : to16S c = c := if_neg h
theorem to256_twice (c : Int) : to256S (to256S c) = to256S c := by
  by_cases h : threeS c
  · have := to256_in h
    exact to256_id (fun h2 => by unfold threeS at h2; omega)
  · rw [to256_id h, to256_id h]
theorem to16_twice (c : Int) : to16S (to16S c) = to16S c := by
  by_cases h : threeS c ∨ (17 ≤ c ∧ c ≤ 256)
  · have := to16_in h
    exact to16_id (fun h2 => by unfold threeS at h2; omega)
  · rw [to16_id h, to16_id h]
/-- What a colour becomes for some features: itself, one of 256, or one of 16. -/
theorem fit_is (c f : Int) : (fitS c f = c ∧ (threeS c → bit1 f = true) ∧ ((17 ≤ c ∧ c ≤ 256) → bit0 f = true)) ∨ (17 ≤ fitS c f ∧ fitS c f ≤ 256 ∧ bit0 f = true ∧ bit1 f = false) ∨ (1 ≤ fitS c f ∧ fitS c f ≤ 16 ∧ bit0 f = false) := by
  by_cases h3 : threeS c
  · have hn : ¬ (17 ≤ c ∧ c ≤ 256) := by unfold threeS at h3; omega
    cases h1 : bit1 f
    · cases h0 : bit0 f
      · right; right
        have e : fitS c f = to16S c := by unfold fitS; simp [h3, h1, h0]
        rw [e]
        have := to16_in (.inl h3 : threeS c ∨ _)
        exact ⟨this.1, this.2, rfl⟩
      · right; left
        have e : fitS c f = to256S c := by unfold fitS; simp [h3, h1, h0, hn]
        rw [e]
        have := to256_in h3
        exact ⟨this.1, this.2, rfl, rfl⟩
    · left
      have e : fitS c f = c := by unfold fitS; simp [h3, h1]
      exact ⟨e, fun _ => rfl, fun h => absurd h hn⟩
  · by_cases h2 : 17 ≤ c ∧ c ≤ 256
    · cases h0 : bit0 f
      · right; right
        have e : fitS c f = to16S c := by unfold fitS; simp [h3, h0]
        rw [e]
        have := to16_in (.inr h2 : threeS c ∨ _)
        exact ⟨this.1, this.2, rfl⟩
      · left
        have e : fitS c f = c := by unfold fitS; simp [h2, h0]
        exact ⟨e, fun h => absurd h h3, fun _ => rfl⟩
    · left
      have e : fitS c f = c := by
        unfold fitS
        rw [if_neg (by rintro (h | h); exact h3 h.1; exact h2 h.1), if_neg (fun h => h3 h.1)]
        exact to16_id (by rintro (h | h); exact h3 h; exact h2 h)
      exact ⟨e, fun h => absurd h h3, fun h => absurd h h2⟩
/-- What fits stays, for all greater features. -/
theorem fit_more {c f g : Int} (h0 : bit0 f = true → bit0 g = true) (h1 : bit1 f = true → bit1 g = true) : fitS (fitS c f) g = fitS c f := by
  have small : ∀ x : Int, 1 ≤ x → x ≤ 16 → fitS x g = x := fun x a b => by
    have h3 : ¬ threeS x := by unfold threeS; omega
    unfold fitS
    rw [if_neg (by rintro (h | h); exact h3 h.1; omega), if_neg (fun h => h3 h.1)]
    exact to16_id (by rintro (h | h); exact h3 h; omega)
  rcases fit_is c f with ⟨e, a, b⟩ | ⟨a, b, c0, _⟩ | ⟨a, b, _⟩
  · rw [e]
    by_cases h3 : threeS c
    · unfold fitS; rw [if_pos (.inl ⟨h3, h1 (a h3)⟩)]
    · by_cases h2 : 17 ≤ c ∧ c ≤ 256
      · unfold fitS; rw [if_pos (.inr ⟨h2, h0 (b h2)⟩)]
      · unfold fitS
        rw [if_neg (by rintro (h | h); exact h3 h.1; exact h2 h.1), if_neg (fun h => h3 h.1)]
        exact to16_id (by rintro (h | h); exact h3 h; exact h2 h)
  · generalize fitS c f = x at a b
    unfold fitS; rw [if_pos (.inr ⟨⟨a, b⟩, h0 c0⟩)]
  · exact small _ a b
theorem fit_twice (c f : Int) : fitS (fitS c f) f = fitS c f := fit_more id id
/-- Of few features a colour is one of few. -/
theorem fit_few {c f : Int} (h0 : bit0 f = false) (h1 : bit1 f = false) : fitS c f ≤ 16 ∨ (fitS c f = c ∧ ¬ threeS c ∧ ¬ (17 ≤ c ∧ c ≤ 256)) := by
  rcases fit_is c f with ⟨e, a, b⟩ | ⟨_, _, c0, _⟩ | ⟨_, b, _⟩
  · right
    exact ⟨e, (fun h => by rw [a h] at h1; cases h1), (fun h => by rw [b h] at h0; cases h0)⟩
  · rw [c0] at h0; cases h0
  · exact .inl b
end Go.Proofs.YtfbfidlgfdnneaaDoor
