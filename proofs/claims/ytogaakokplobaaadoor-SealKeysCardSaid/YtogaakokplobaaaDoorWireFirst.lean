/-
  Contract of wire.firstVar: the number with whose digits a slice begins, how many bytes they take, the error.
-/
import Derived.Test.YtogaakokplobaaaDoorWireLeaf
import Derived.Test.YtogaakokplobaaaDoorWireSpec
import Derived.Laws.BitsAllLaws
namespace Go.Proofs.YtogaakokplobaaaDoor
open Go.RowKit

theorem pow128_le {i j : Nat} (h : i ≤ j) : (128 : Int) ^ i ≤ 128 ^ j := by
  have h1 : (128 : Nat) ^ i ≤ 128 ^ j := Nat.pow_le_pow_right (by omega) h
  have h2 : ((128 ^ i : Nat) : Int) ≤ ((128 ^ j : Nat) : Int) := Int.ofNat_le.2 h1
  simpa using h2

theorem or_step {zs : List Int} {k : Nat} {acc d : Int} (h : Fv zs k acc) (hb : badD k d = false) (h1 : 0 ≤ d) (h2 : d ≤ 255) :
    bits .or .u64 acc (IntKind.u64.wrap (d % 128 * 2 ^ (7 * k))) = acc + d % 128 * 128 ^ k := by
  have hp : (0 : Int) < 128 ^ k := Int.pow_pos (by omega)
  have hm1 : 0 ≤ d % 128 := Int.emod_nonneg _ (by omega)
  have hm2 : d % 128 < 128 := Int.emod_lt_of_pos _ (by omega)
  have e1 : (2 : Int) ^ (7 * k) = 128 ^ k := by rw [Int.pow_mul]; rfl
  have hlo := h.lo
  have hhi := h.hi
  have hk9 := h.k9
  have h0 : 0 ≤ d % 128 * 128 ^ k := Int.mul_nonneg hm1 (by omega)
  -- the part that is laid on lies within 64 bits
  have hmax : d % 128 * 128 ^ k ≤ 9223372036854775808 := by
    by_cases hk : k = 9
    · subst hk
      have : d ≤ 1 := by simp [badD] at hb; omega
      have : d % 128 ≤ 1 := by omega
      have e : (128 : Int) ^ 9 = 9223372036854775808 := by decide
      rw [e]; omega
    · have h2 : (128 : Int) ^ k ≤ 128 ^ 8 := pow128_le (by omega)
      have e : (128 : Int) ^ 8 = 72057594037927936 := by decide
      rw [e] at h2
      have : d % 128 * 128 ^ k ≤ 127 * 128 ^ k := Int.mul_le_mul_of_nonneg_right (by omega) (by omega)
      omega
  have hpm : (128 : Int) ^ k ≤ 9223372036854775808 := by
    have h2 : (128 : Int) ^ k ≤ 128 ^ 9 := pow128_le hk9
    have e : (128 : Int) ^ 9 = 9223372036854775808 := by decide
    rw [e] at h2; exact h2
  rw [e1, IntWalk.u64_in _ ⟨h0, by omega⟩, u64_or _ _ hlo (by omega) h0 (by omega), Nat.or_comm, nat_join (7 * k)]
  · omega
  · obtain ⟨m, hm⟩ : ∃ m : Nat, d % 128 = m := ⟨(d % 128).toNat, by omega⟩
    have e2 : (d % 128 * 128 ^ k).toNat = m * 2 ^ (7 * k) := by
      rw [hm, ← e1]
      have : (m : Int) * 2 ^ (7 * k) = ((m * 2 ^ (7 * k) : Nat) : Int) := by simp
      rw [this, Int.toNat_natCast]
    rw [e2]
    exact Nat.mul_mod_left _ _
  · have e3 : ((2 ^ (7 * k) : Nat) : Int) = 128 ^ k := by rw [← e1]; simp
    omega

/-- What firstVar answers. -/
def FvPost (zs : List Int) (w : World) (e : Ending) (w' : World) : Prop := w = w' ∧
  e = .returned (.tuple #[.int .u64 (if fvE 0 zs = 0 then fvV zs else 0), .int .i64 (if fvE 0 zs = 0 then (fvK zs : Int) else 0), .int .i64 (fvE 0 zs)])

theorem FvPost.err {zs : List Int} (w : World) {e : Int} (h : fvE 0 zs = e) (h0 : e ≠ 0) : FvPost zs w (.returned (.tuple #[.int .u64 0, .int .i64 0, .int .i64 e])) w := by
  unfold FvPost
  rw [if_neg (by omega), if_neg (by omega), h]
  exact ⟨rfl, rfl⟩
theorem FvPost.ok {zs : List Int} (w : World) {v k : Int} (h : fvE 0 zs = 0) (hv : fvV zs = v) (hk : (fvK zs : Int) = k) : FvPost zs w (.returned (.tuple #[.int .u64 v, .int .i64 k, .int .i64 0])) w := by
  unfold FvPost
  rw [if_pos h, if_pos h, h, hv, hk]
  exact ⟨rfl, rfl⟩

end Go.Proofs.YtogaakokplobaaaDoor
