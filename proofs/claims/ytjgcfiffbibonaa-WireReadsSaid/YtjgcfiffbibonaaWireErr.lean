/-
  A reader behind an error: each call answers zero and leaves all as it is. And what a call leaves of what there is to read.
-/
import Derived.Test.YtjgcfiffbibonaaWireRead
namespace Go.Proofs.Ytjgcfiffbibonaa
open Go.RowKit

section
variable {base : Nat} {w : World} {r : Nat} {A : Option Addr} {m c : Nat} {zs : List Int} {e : Int}

theorem rnum_err (h : Rd 59 base w r A m c zs e) (h0 : Hid (e ≠ 0)) (n : Int) : Calls Try.prog 19 #[.pointer (some ⟨r, 0, none⟩), .int .i64 n] w fun e' w' => e' = .returned (.int .u64 0) ∧ w = w' := by
  have H : (e == 0) = false := by simpa using h0.out
  clear h0
  go_enter Try.func19, Try.ntmps19
  go_wp2_with (go_at_call 34; refine (reads_any h).mono ?_; rintro e w' ⟨rfl, rfl⟩)
  go_ret
  exact ⟨rfl, rfl⟩
theorem rvar_err (h : Rd 59 base w r A m c zs e) (h0 : Hid (e ≠ 0)) : Calls Try.prog 21 #[.pointer (some ⟨r, 0, none⟩)] w fun e' w' => e' = .returned (.int .u64 0) ∧ w = w' := by
  have H : (e == 0) = false := by simpa using h0.out
  clear h0
  go_enter Try.func21, Try.ntmps21
  go_wp2_with (go_at_call 34; refine (reads_any h).mono ?_; rintro e w' ⟨rfl, rfl⟩)
  go_ret
  exact ⟨rfl, rfl⟩
theorem rtext_err (h : Rd 59 base w r A m c zs e) (h0 : Hid (e ≠ 0)) (n : Int) : Calls Try.prog 23 #[.pointer (some ⟨r, 0, none⟩), .int .i64 n] w fun e' w' => e' = .returned (.slice none 0 0) ∧ w = w' := by
  have H : (e == 0) = false := by simpa using h0.out
  clear h0
  go_enter Try.func23, Try.ntmps23
  go_wp2_with (go_at_call 34; refine (reads_any h).mono ?_; rintro e w' ⟨rfl, rfl⟩)
  go_ret
  exact ⟨rfl, rfl⟩
theorem take_err (h : Rd 59 base w r A m c zs e) (h0 : Hid (e ≠ 0)) (n : Int) : Calls Try.prog 25 #[.pointer (some ⟨r, 0, none⟩), .int .i64 n] w fun e' w' => e' = .returned (.slice none 0 0) ∧ w = w' := by
  have H : (e == 0) = false := by simpa using h0.out
  clear h0
  go_enter Try.func25, Try.ntmps25
  go_wp2_with (go_at_call 34; refine (reads_any h).mono ?_; rintro e w' ⟨rfl, rfl⟩)
  go_ret
  exact ⟨rfl, rfl⟩
theorem end_err (h : Rd 59 base w r A m c zs e) (h0 : Hid (e ≠ 0)) : Calls Try.prog 30 #[.pointer (some ⟨r, 0, none⟩)] w fun e' w' => e' = .returned (.int .i64 e) ∧ w = w' :=
  (end_any h).mono fun e' w' ⟨h1, h2⟩ => ⟨by rw [h1]; unfold endE; rw [if_neg h0.out], h2⟩
end

/-- What is left to read is a tail of what there was. -/
def Tail (zs zs' : List Int) : Prop := ∃ k, zs' = zs.drop k
theorem Tail.refl (zs : List Int) : Tail zs zs := ⟨0, by simp⟩
theorem Tail.u8 {zs zs' : List Int} (h : Tail zs zs') (hu : U8s zs) : U8s zs' := by obtain ⟨k, rfl⟩ := h; exact hu.drop k
theorem Tail.len {zs zs' : List Int} (h : Tail zs zs') : zs'.length ≤ zs.length := by obtain ⟨k, rfl⟩ := h; simp
theorem take1_tail (zs : List Int) (e n : Int) : Tail zs (take1 zs e n).2.1 := by
  unfold take1
  split
  · exact Tail.refl _
  · split
    · exact Tail.refl _
    · split
      · exact Tail.refl _
      · exact ⟨_, rfl⟩
theorem num1_tail (zs : List Int) (e n : Int) : Tail zs (num1 zs e n).2.1 := by
  unfold num1
  split
  · exact Tail.refl _
  · split
    · exact Tail.refl _
    · split
      · exact Tail.refl _
      · exact ⟨_, rfl⟩
theorem var1_tail (zs : List Int) (e : Int) : Tail zs (var1 zs e).2.1 := by
  unfold var1
  split
  · exact Tail.refl _
  · split
    · exact ⟨_, rfl⟩
    · exact Tail.refl _
theorem text1_tail (zs : List Int) (e n : Int) : Tail zs (text1 zs e n).2.1 := by
  unfold text1
  split
  · exact Tail.refl _
  · split
    · exact Tail.refl _
    · split
      · exact Tail.refl _
      · split
        · exact Tail.refl _
        · exact ⟨fvK zs + (fvV zs).toNat, by rw [List.drop_drop]⟩

end Go.Proofs.Ytjgcfiffbibonaa
