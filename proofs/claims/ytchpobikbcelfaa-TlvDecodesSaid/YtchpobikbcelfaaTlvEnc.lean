/-
  The contracts of Encode and Check.
-/
import Derived.Test.YtchpobikbcelfaaTlvLay
namespace Go.Proofs.Ytchpobikbcelfaa
open Go.RowKit

def EncPost (w : World) (l : List It) (e : Ending) (w' : World) : Prop :=
  ∃ v, e = .returned (.tuple #[v, .int .i64 (encS l).2]) ∧ Made 5 (encS l).1 w v w'

/-- What was made behind old memory. -/
theorem Made.behind {t : TypeId} {zs : List Int} {w w1 w2 : World} {v : Value} (h : Made t zs w1 v w2) (hb : Below w.heap.size w w1) : Made t zs w v w2 := by
  obtain ⟨A, n, c, rfl, hm⟩ := h
  exact Made.mk (own_base hm.own hb.size) (hb.trans (hm.below.mono hb.size))

theorem encode_any {w : World} {S : Nat → Prop} {d : Nat} {A : Option Addr} {n cap : Nat} {l : List It} (hi : Its w S d A n cap l) :
    Calls Try.prog 12 #[.slice A n cap] w (EncPost w l) := by
  obtain ⟨E, hE⟩ : ∃ E, E = (chkL 1 0 0 l).2 := ⟨_, rfl⟩
  by_cases h0 : E = 0
  · have h1 := chkL_ok l 1 0 0 (Int.le_refl 0) (by omega) (by rw [← hE]; exact h0)
    have h2 := chkL_few l 1 0 0 (Int.le_refl 0) (Int.le_refl 0) (by omega) (by rw [← hE]; exact h0)
    have h3 : l.length ≤ 64 := by omega
    have HE : Hid (encS l = if (itsB l).length ≤ 4096 then (itsB l, 0) else ([], 4)) := by
      show _ = _; unfold encS; rw [if_neg (by rw [← hE]; simpa using h0)]
    have t0 : (E != 0) = false := by simpa using h0
    have H0 := Lib.hid h0
    have HI := Lib.hid (And.intro hi (And.intro h1.1 h2))
    have HEE := Lib.hid hE
    clear h0 h1 h2 hi hE
    go_enter Try.func12, Try.ntmps12
    go_wp2_with fail
    refine (checkItems_any HI.out.1).mono ?_
    rintro e w1 ⟨rfl, hb⟩
    rw [← HEE.out]
    have HB := Lib.hid hb
    have HC := Lib.hid (lay_any d w1 S A n cap l (HI.out.1.below hb) HI.out.2.1 HI.out.2.2 h3)
    clear hb
    go_wp2_with fail
    refine HC.out.mono ?_
    rintro e w2 ⟨v, rfl, hm⟩
    have HP : EncPost w l (.returned (.tuple #[v, .int .i64 (if (itsB l).length ≤ 4096 then 0 else 4)])) w2 := by
      refine ⟨v, ?_, ?_⟩
      · rw [HE.out]; split <;> rfl
      · have h5 := hm.behind HB.out
        rw [HE.out]
        split
        · rename_i h; rwa [if_pos h] at h5
        · rename_i h; rwa [if_neg h] at h5
    obtain ⟨E2, hE2⟩ : ∃ E2 : Int, E2 = if (itsB l).length ≤ 4096 then 0 else 4 := ⟨_, rfl⟩
    rw [← hE2] at HP ⊢
    clear hm HC hE2
    go_wp2_with fail
    go_ret2
    exact HP
  · have HE : Hid (encS l = ([], E)) := by
      show _ = _; unfold encS; rw [if_pos (by rw [← hE]; exact h0), hE]
    have t0 : (E != 0) = true := by simpa using h0
    have HEE := Lib.hid hE
    have HI := Lib.hid hi
    clear h0 hi hE
    go_enter Try.func12, Try.ntmps12
    go_wp2_with fail
    refine (checkItems_any HI.out).mono ?_
    rintro e w1 ⟨rfl, hb⟩
    rw [← HEE.out]
    have HP : EncPost w l (.returned (.tuple #[.slice none 0 0, .int .i64 E])) w1 := by
      refine ⟨_, by rw [HE.out], ?_⟩
      rw [HE.out]
      exact Made.mk (World.ownsRow_nil _ _ _ _) hb
    clear hb
    go_wp2_with fail
    go_ret2
    exact HP

theorem tlvCheck_any {w : World} {S : Nat → Prop} {d : Nat} {A : Option Addr} {n cap : Nat} {l : List It} (hi : Its w S d A n cap l) :
    Calls Try.prog 15 #[.slice A n cap] w fun e w' => e = .returned (.int .i64 (encS l).2) ∧ Below w.heap.size w w' := by
  have HI := Lib.hid hi
  clear hi
  go_enter Try.func15, Try.ntmps15
  go_wp2_with fail
  refine (encode_any HI.out).mono ?_
  rintro e w1 ⟨v, rfl, A1, n1, c1, rfl, hm⟩
  have hb := hm.below
  clear hm
  go_wp2_with fail
  go_ret
  exact ⟨rfl, hb⟩

end Go.Proofs.Ytchpobikbcelfaa
