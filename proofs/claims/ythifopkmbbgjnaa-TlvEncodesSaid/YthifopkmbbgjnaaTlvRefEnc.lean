/-
  The contract of the reference's Encode.
-/
import Derived.Test.YthifopkmbbgjnaaTlvRefCheck
import Derived.Test.YthifopkmbbgjnaaTlvEnc
namespace Go.Proofs.Ythifopkmbbgjnaa
open Go.RowKit

theorem refEncode_any {w : World} {S : Nat → Prop} {d : Nat} {A : Option Addr} {n c : Nat} {l : List It} (hi : Its w S d A n c l) :
    Calls Try.prog 13 #[.slice A n c] w (EncPost w l) := by
  have H := Lib.hid hi
  obtain ⟨E, hE⟩ : ∃ E, E = (encS l).2 := ⟨_, rfl⟩
  by_cases h0 : E = 0
  · have t0 : (E != 0) = false := by simpa using h0
    have hE0 : (encS l).2 = 0 := by rw [← hE]; exact h0
    have hc0 : (chkL 1 0 0 l).2 = 0 ∧ encS l = (itsB l, 0) := by
      unfold encS at hE0 ⊢
      split at hE0
      · rename_i h6; exact absurd hE0 h6
      · rename_i h6
        rw [if_neg h6]
        refine ⟨Classical.not_not.1 h6, ?_⟩
        split at hE0
        · rename_i h7; rw [if_pos h7]
        · simp at hE0
    have h1 := chkL_ok l 1 0 0 (Int.le_refl 0) (by omega) hc0.1
    have h2 := chkL_few l 1 0 0 (Int.le_refl 0) (Int.le_refl 0) (by omega) hc0.1
    have h3 : l.length ≤ 64 := by omega
    have h4 := chk_shal 4 l 1 0 0 (by omega) (Int.le_refl 0) (Int.le_refl 0) (by omega) (fun h => by omega) hc0.1
    have HE := Lib.hid (And.intro hE (And.intro hc0.2 (And.intro h1.1 (And.intro h2 (And.intro h3 (And.intro h4 h0))))))
    clear hi h0 hE0 hc0 h1 h2 h3 h4 hE
    go_enter Try.func13, Try.ntmps13
    go_wp2_with fail
    refine (refCheck_any H.out).mono ?_
    rintro e w1 ⟨rfl, hb⟩
    rw [← HE.out.1]
    have X := Lib.hid hb
    have HC := Lib.hid (bytes_any 4 (by omega) w1 S d A n c l (H.out.stay hb.size fun b _ hlt => hb.block b hlt) HE.out.2.2.2.2.2.1 HE.out.2.2.1 HE.out.2.2.2.1 HE.out.2.2.2.2.1)
    clear hb
    go_wp2_with fail
    refine HC.out.mono ?_
    rintro e w2 ⟨v, rfl, hm⟩
    have HP : EncPost w l (.returned (.tuple #[v, .int .i64 0])) w2 := by
      refine ⟨v, by rw [HE.out.2.1], ?_⟩
      rw [HE.out.2.1]
      exact hm.behind X.out
    clear hm HC
    go_wp2_with fail
    go_ret2
    exact HP
  · have t0 : (E != 0) = true := by simpa using h0
    have he : encS l = ([], E) := by
      rw [hE] at h0 ⊢
      unfold encS at h0 ⊢
      split at h0
      · rename_i h6; rw [if_pos h6]
      · rename_i h6
        rw [if_neg h6]
        split at h0
        · simp at h0
        · rename_i h7; rw [if_neg h7]
    have HE := Lib.hid (And.intro hE he)
    clear hi h0 hE he
    go_enter Try.func13, Try.ntmps13
    go_wp2_with fail
    refine (refCheck_any H.out).mono ?_
    rintro e w1 ⟨rfl, hb⟩
    rw [← HE.out.1]
    have HP : EncPost w l (.returned (.tuple #[.slice none 0 0, .int .i64 E])) w1 := by
      refine ⟨_, by rw [HE.out.2], ?_⟩
      rw [HE.out.2]
      exact Made.mk (World.ownsRow_nil _ _ _ _) hb
    clear hb
    go_wp2_with fail
    go_ret2
    exact HP

end Go.Proofs.Ythifopkmbbgjnaa
