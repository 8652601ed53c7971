/-
  The chapter's examples, which every statement of layer 5 asks: they answer true, and leave old memory as it was.
-/
import Derived.Test.YtkmobiggcehpbaaGuardTake
namespace Go.Proofs.Ytkmobiggcehpbaa
open Go.RowKit

/-- Take, where its answer is known. -/
theorem gTake_at {w : World} {g : Nat} {L : List Int} (h : Gd 49 w g L) (n E : Int) (L' : List Int) (h0 : 0 ≤ n) (h1 : n ≤ 18446744073709551615) (hE : chk n L = E) (hL : tk n L = L') :
    Calls Try.prog 13 #[.pointer (some ⟨g, 0, none⟩), .int .u64 n] w fun e w' => e = .returned (.int .i64 E) ∧ Gd 49 w' g L' ∧ w.grownBy w' (some g) := by
  subst hE hL
  exact gTake_any h n h0 h1
theorem gCheck_at {w : World} {g : Nat} {L : List Int} (h : Gd 49 w g L) (n E : Int) (h0 : 0 ≤ n) (h1 : n ≤ 18446744073709551615) (hE : chk n L = E) :
    Calls Try.prog 11 #[.pointer (some ⟨g, 0, none⟩), .int .u64 n] w fun e w' => e = .returned (.int .i64 E) ∧ w = w' := by
  subst hE
  exact gCheck_any h n h0 h1

theorem guardFixed_any (w : World) : Calls Try.prog 9 #[] w fun e w' => e = .returned (.bool true) ∧ Below w.heap.size w w' := by
  go_enter Try.func9, Try.ntmps9
  go_wp2_with fail
  refine (gNew_any _).mono ?_
  rintro e w1 ⟨rfl, hg, hb⟩
  obtain ⟨g, hge⟩ : ∃ g, g = w.heap.size := ⟨_, rfl⟩
  rw [← hge] at hg ⊢
  have X := Lib.hid (And.intro hg (show Below g w w1 by rw [hge]; exact hb))
  have HG := Lib.hid hge
  clear hg hb hge
  go_wp2_with fail
  refine (gTake_at X.out.1 70 0 [70] (by omega) (by omega) (by decide) (by decide)).mono ?_
  rintro e w2 ⟨rfl, hg, hr⟩
  have X2 := Lib.hid (And.intro hg (X.out.2.grown hr (by have := X.out.1.lt; omega) (fun k hk => by cases hk; omega)))
  clear hg hr X
  go_wp2_with fail
  refine (gTake_at X2.out.1 70 10 [70] (by omega) (by omega) (by decide) (by decide)).mono ?_
  rintro e w3 ⟨rfl, hg, hr⟩
  have X3 := Lib.hid (And.intro hg (X2.out.2.grown hr (by have := X2.out.1.lt; omega) (fun k hk => by cases hk; omega)))
  clear hg hr X2
  go_wp2_with fail
  refine (gTake_at X3.out.1 7 0 [70, 7] (by omega) (by omega) (by decide) (by decide)).mono ?_
  rintro e w4 ⟨rfl, hg, hr⟩
  have X4 := Lib.hid (And.intro hg (X3.out.2.grown hr (by have := X3.out.1.lt; omega) (fun k hk => by cases hk; omega)))
  clear hg hr X3
  go_wp2_with fail
  refine (gTake_at X4.out.1 6 10 [70, 7] (by omega) (by omega) (by decide) (by decide)).mono ?_
  rintro e w5 ⟨rfl, hg, hr⟩
  have X5 := Lib.hid (And.intro hg (X4.out.2.grown hr (by have := X4.out.1.lt; omega) (fun k hk => by cases hk; omega)))
  clear hg hr X4
  go_wp2_with fail
  refine (gTake_at X5.out.1 71 0 [70, 7, 71] (by omega) (by omega) (by decide) (by decide)).mono ?_
  rintro e w6 ⟨rfl, hg, hr⟩
  have X6 := Lib.hid (And.intro hg (X5.out.2.grown hr (by have := X5.out.1.lt; omega) (fun k hk => by cases hk; omega)))
  clear hg hr X5
  go_wp2_with fail
  refine (gCheck_at X6.out.1 7 10 (by omega) (by omega) (by decide)).mono ?_
  rintro e w' ⟨rfl, rfl⟩
  go_wp2
  go_ret
  exact ⟨rfl, by rw [← HG.out]; exact X6.out.2⟩
end Go.Proofs.Ytkmobiggcehpbaa
