/-
  Contract of wire.firstVar: the number with whose digits a slice begins, how many bytes they take, the error.
-/
import Derived.Test.YtchpobikbcelfaaWireLeaf
import Derived.Test.YtchpobikbcelfaaWireSpec
import Derived.Laws.BitsAllLaws
namespace Go.Proofs.Ytchpobikbcelfaa
open Go.RowKit

theorem pow128_le {i j : Nat} (h : i ≤ j) : (128 : Int) ^ i ≤ 128 ^ j := by
  have h1 : (128 : Nat) ^ i ≤ 128 ^ j := Nat.pow_le_pow_right (by omega) h
  have h2 : ((128 ^ i : Nat) : Int) ≤ ((128 ^ j : Nat) : Int) := Int.ofNat_le.2 h1
  simpa using h2

theorem or_step {zs : List Int} {k : Nat} {acc d : Int} (h : Fv zs k acc) (hb : badD k d = false) (h1 : 0 ≤ d) (h2 : d ≤ 255) :
    bits .or .u64 acc (IntKind.u64.wrap (d % 128 * 2 ^ (7 * k))) = acc + d % 128 * 128 ^ k := by
  have hp : (0 : Int) < 128 ^ k := Int.pow_pos (by omega)
  have hm1 : 0 ≤ d % 128 := Int.emod_nonneg _ (by omega)
  have hm2 : d % 128 < 128 := Int.emod_lt_of_pos _ (by omega)
  have e1 : (2 : Int) ^ (7 * k) = 128 ^ k := by rw [Int.pow_mul]; rfl
  have hlo := h.lo
  have hhi := h.hi
  have hk9 := h.k9
  have h0 : 0 ≤ d % 128 * 128 ^ k := Int.mul_nonneg hm1 (by omega)
  -- the part that is laid on lies within 64 bits
  have hmax : d % 128 * 128 ^ k ≤ 9223372036854775808 := by
    by_cases hk : k = 9
    · subst hk
      have : d ≤ 1 := by simp [badD] at hb; omega
      have : d % 128 ≤ 1 := by omega
      have e : (128 : Int) ^ 9 = 9223372036854775808 := by decide
      rw [e]; omega
    · have h2 : (128 : Int) ^ k ≤ 128 ^ 8 := pow128_le (by omega)
      have e : (128 : Int) ^ 8 = 72057594037927936 := by decide
      rw [e] at h2
      have : d % 128 * 128 ^ k ≤ 127 * 128 ^ k := Int.mul_le_mul_of_nonneg_right (by omega) (by omega)
      omega
  have hpm : (128 : Int) ^ k ≤ 9223372036854775808 := by
    have h2 : (128 : Int) ^ k ≤ 128 ^ 9 := pow128_le hk9
    have e : (128 : Int) ^ 9 = 9223372036854775808 := by decide
    rw [e] at h2; exact h2
  rw [e1, IntWalk.u64_in _ ⟨h0, by omega⟩, u64_or _ _ hlo (by omega) h0 (by omega), Nat.or_comm, nat_join (7 * k)]
  · omega
  · obtain ⟨m, hm⟩ : ∃ m : Nat, d % 128 = m := ⟨(d % 128).toNat, by omega⟩
    have e2 : (d % 128 * 128 ^ k).toNat = m * 2 ^ (7 * k) := by
      rw [hm, ← e1]
      have : (m : Int) * 2 ^ (7 * k) = ((m * 2 ^ (7 * k) : Nat) : Int) := by simp
      rw [this, Int.toNat_natCast]
    rw [e2]
    exact Nat.mul_mod_left _ _
  · have e3 : ((2 ^ (7 * k) : Nat) : Int) = 128 ^ k := by rw [← e1]; simp
    omega

/-- What firstVar answers. -/
def FvPost (zs : List Int) (w : World) (e : Ending) (w' : World) : Prop := w = w' ∧
  e = .returned (.tuple #[.int .u64 (if fvE 0 zs = 0 then fvV zs else 0), .int .i64 (if fvE 0 zs = 0 then (fvK zs : Int) else 0), .int .i64 (fvE 0 zs)])

theorem FvPost.err {zs : List Int} (w : World) {e : Int} (h : fvE 0 zs = e) (h0 : e ≠ 0) : FvPost zs w (.returned (.tuple #[.int .u64 0, .int .i64 0, .int .i64 e])) w := by
  unfold FvPost
  rw [if_neg (by omega), if_neg (by omega), h]
  exact ⟨rfl, rfl⟩
theorem FvPost.ok {zs : List Int} (w : World) {v k : Int} (h : fvE 0 zs = 0) (hv : fvV zs = v) (hk : (fvK zs : Int) = k) : FvPost zs w (.returned (.tuple #[.int .u64 v, .int .i64 k, .int .i64 0])) w := by
  unfold FvPost
  rw [if_pos h, if_pos h, h, hv, hk]
  exact ⟨rfl, rfl⟩

theorem firstVar_any {w : World} {A : Option Addr} {n c : Nat} {zs : List Int} (h : Sb w A n zs) (hu : U8s zs) (hn : n ≤ 140737488355328) :
    Calls Try.prog 54 #[.slice A n c] w (FvPost zs w) := by
  have hl := h.len
  subst hl
  go_enter Try.func54, Try.ntmps54
  go_wp2
  go_loop [10, 5] (fun i x => ∃ (k : Nat) (acc : Int), k ≤ zs.length ∧ i = .int .i64 k ∧ x = .int .u64 acc ∧ Fv zs k acc) (fun i _ => zs.length - (intOf i).toNat)
  case atStart => exact ⟨0, 0, Nat.zero_le _, rfl, rfl, Fv.start zs⟩
  case round =>
    obtain ⟨k, acc, hk, rfl, rfl, hf⟩ := hrel
    have hlo := hf.lo
    have hk9 := hf.k9
    by_cases hlt : k < zs.length
    · obtain ⟨ad, rfl⟩ := h.addr (by omega)
      have hc := h.cell hlt
      have hd0 := hu.getD k
      obtain ⟨d, hd⟩ : ∃ d, d = zs.getD k 0 := ⟨_, rfl⟩
      rw [← hd] at hc hd0
      have HD := Lib.hid hd
      clear hd
      obtain ⟨hd1, hd2⟩ := hd0
      by_cases hb : badD k d = true
      · have HB := Lib.hid (hf.bad hlt HD.out hb)
        simp only [badD, Bool.or_eq_true, Bool.and_eq_true, decide_eq_true_eq, beq_iff_eq] at hb
        by_cases hz : 0 < k ∧ d = 0
        · obtain ⟨hz1, hz2⟩ := hz
          have hz3 : d ≤ 0 := by omega
          clear hb hz2
          go_wp2
          go_ret3
          exact FvPost.err w HB.out (by omega)
        · obtain ⟨hz1, hd3⟩ : k = 9 ∧ 1 < d := by omega
          have hz2 : 9 ≤ k := by omega
          clear hb hz hz1
          go_wp2
          go_ret3
          exact FvPost.err w HB.out (by omega)
      · have hb' : badD k d = false := by simpa using hb
        clear hb
        have hb2 : ¬ (0 < k ∧ d = 0) ∧ ¬ (k = 9 ∧ 1 < d) := by simp [badD] at hb'; omega
        have HO := Lib.hid (or_step hf hb' hd1 hd2)
        by_cases h128 : d < 128
        · have HF := Lib.hid (hf.fin hlt HD.out hb' h128)
          have HR : FvPost zs w (.returned (.tuple #[.int .u64 (bits .or .u64 acc (IntKind.u64.wrap (d % 128 * 2 ^ (7 * k)))), .int .i64 ((k : Int) + 1), .int .i64 0])) w := by
            refine FvPost.ok w HF.out.1 ?_ (by rw [HF.out.2.1]; omega)
            rw [HO.out, HF.out.2.2]
            congr 2
            omega
          clear hb'
          by_cases hk0 : k ≤ 0
          · have t1 : ((k : Int) == 9) = false := by simp; omega
            clear hb2
            go_wp2
            all_goals first | (exfalso; omega) | (go_ret3; exact HR)
          · have hk1 : 1 ≤ d := by omega
            have hk2 : 0 < k := by omega
            have t2 : (d == 0) = false := by simp; omega
            by_cases hk8 : k ≤ 8
            · have t1 : ((k : Int) == 9) = false := by simp; omega
              clear hb2 hk0
              go_wp2
              all_goals first | (exfalso; omega) | (go_ret3; exact HR)
            · have hd3 : d ≤ 1 := by omega
              have t1 : ((k : Int) == 9) = true := by simp; omega
              clear hb2 hk0
              go_wp2
              all_goals first | (exfalso; omega) | (go_ret3; exact HR)
        · have HN := Lib.hid (hf.next hlt HD.out hb' (by omega))
          have hk8 : k ≤ 8 := by omega
          have t1 : ((k : Int) == 9) = false := by simp; omega
          have t2 : (d == 0) = false := by simp; omega
          clear hb' hb2
          go_wp2
          all_goals
            go_round
            case rel => exact ⟨k + 1, _, by omega, by go_num, rfl, by rw [HO.out]; exact HN.out⟩
            case measure => simp [intOf]; omega
    · have HB := Lib.hid (hf.short (by omega))
      go_wp2
      go_ret3
      exact FvPost.err w HB.out (by omega)

theorem firstVar_ok {w : World} {A : Option Addr} {n c : Nat} {zs : List Int} (h : Sb w A n zs) (hu : U8s zs) (hn : n ≤ 140737488355328) (hE : Hid (fvE 0 zs = 0)) {v : Int} {k : Nat} (hv : Hid (fvV zs = v)) (hk : Hid (fvK zs = k)) :
    Calls Try.prog 54 #[.slice A n c] w fun e w' => e = .returned (.tuple #[.int .u64 v, .int .i64 k, .int .i64 0]) ∧ w = w' :=
  (firstVar_any h hu hn).mono fun e w' ⟨h1, h2⟩ => ⟨by rw [h2, if_pos hE.out, if_pos hE.out, hE.out, hv.out, hk.out], h1⟩
theorem firstVar_bad {w : World} {A : Option Addr} {n c : Nat} {zs : List Int} (h : Sb w A n zs) (hu : U8s zs) (hn : n ≤ 140737488355328) (hE : Hid (fvE 0 zs ≠ 0)) {e0 : Int} (he : Hid (fvE 0 zs = e0)) :
    Calls Try.prog 54 #[.slice A n c] w fun e w' => e = .returned (.tuple #[.int .u64 0, .int .i64 0, .int .i64 e0]) ∧ w = w' :=
  (firstVar_any h hu hn).mono fun e w' ⟨h1, h2⟩ => ⟨by rw [h2, if_neg hE.out, if_neg hE.out, he.out], h1⟩

end Go.Proofs.Ytchpobikbcelfaa
