/-
  The contract of the reference's Decode; what both decoders leave, in one form.
-/
import Derived.Test.YtchpobikbcelfaaTlvRefList
import Derived.Test.YtchpobikbcelfaaTlvDecode
import Derived.Test.YtchpobikbcelfaaTlvTurnS
namespace Go.Proofs.Ytchpobikbcelfaa
open Go.RowKit

theorem list_any (d : Nat) : ListC d := by
  induction d with
  | zero => exact list_step 0 fun d' h => by omega
  | succ d ih => exact list_step (d + 1) fun d' h => by obtain rfl : d = d' := by omega
                                                        exact ih

/-- What was read, and the error. -/
def drL (q : DR) : List It := match q with | .bad _ _ => [] | .ok _ l => l
def drE (q : DR) : Int := match q with | .bad _ E => E | .ok _ _ => 0
theorem its_none0 {w : World} {S : Nat → Prop} {d : Nat} : Its w S d none 0 0 [] := by
  cases d with
  | zero => exact ⟨rfl, rfl, Nat.zero_le _⟩
  | succ d => exact ⟨rfl, Nat.le_refl _, Nat.zero_le _, fun h => absurd h (by omega)⟩
theorem DecPost.flat {w w' : World} {q : DR} {e : Ending} (h : DecPost w q e w') :
    Below w.heap.size w w' ∧ ∃ A n c, e = .returned (.tuple #[.slice A n c, .int .i64 (drE q)]) ∧ Its w' (fun b => w.heap.size ≤ b ∧ Free w' b) 4 A n c (drL q) := by
  refine ⟨h.1, ?_⟩
  cases q with
  | bad c E => exact ⟨none, 0, 0, h.2, its_none0⟩
  | ok c l => exact h.2

def RDecPost (w : World) (q : DR) (e : Ending) (w' : World) : Prop :=
  Below w.heap.size w w' ∧ ∃ A n c, e = .returned (.tuple #[.slice A n c, .int .i64 (drE q)]) ∧ Its w' (fun b => w.heap.size ≤ b) 4 A n c (drL q)

theorem refDecode_any {w : World} {A : Option Addr} {n c : Nat} {zs : List Int} (hs : Sb w A n zs) (hu : U8s zs) (hc : n ≤ c ∧ c ≤ maxLen) :
    Calls Try.prog 19 #[.slice A n c] w (RDecPost w (decS zs)) := by
  have hl := hs.len
  by_cases h4 : 4096 < n
  · have HP : Hid (RDecPost w (decS zs) (.returned (.tuple #[.slice none 0 0, .int .i64 4])) w) := by
      have e : decS zs = .bad 0 4 := by unfold decS; rw [if_pos (by rw [hl]; exact h4)]
      show RDecPost _ _ _ _
      rw [e]
      exact ⟨Below.refl _ _, none, 0, 0, rfl, its_none0⟩
    clear hl hs hu hc
    go_enter Try.func19, Try.ntmps19
    go_wp2_with fail
    go_ret2
    exact HP.out
  · have HD : Hid (decS zs = decL 1 0 0 zs) := by show _ = _; unfold decS; rw [if_neg (by rw [hl]; exact h4)]
    have HC := Lib.hid (list_any 3 1 (by omega) (by omega) w A n c zs 0 hs hu hc (by omega) (by omega) (by omega))
    have h4' : n ≤ 4096 := by omega
    clear hl hs hu hc
    go_enter Try.func19, Try.ntmps19
    go_wp2_with fail
    refine HC.out.mono ?_
    intro e w1 hpost
    have HP : ∃ A2 n2 c2 cn, e = .returned (.tuple #[.slice A2 n2 c2, .int .i64 cn, .int .i64 (drE (decS zs))]) ∧ Hid (RDecPost w (decS zs) (.returned (.tuple #[.slice A2 n2 c2, .int .i64 (drE (decS zs))])) w1) := by
      rw [HD.out]
      cases hq : decL 1 0 0 zs with
      | bad c1 E =>
        rw [hq] at hpost
        obtain ⟨hb, c2, rfl⟩ := hpost
        exact ⟨none, 0, 0, c2, rfl, Lib.hid ⟨hb, none, 0, 0, rfl, its_none0⟩⟩
      | ok c1 l1 =>
        rw [hq] at hpost
        obtain ⟨hb, A2, n2, c2, rfl, hi⟩ := hpost
        exact ⟨A2, n2, c2, c1, rfl, Lib.hid ⟨hb, A2, n2, c2, rfl, hi⟩⟩
    obtain ⟨A2, n2, c2, cn, rfl, HP⟩ := HP
    obtain ⟨E, hE⟩ : ∃ E, E = drE (decS zs) := ⟨_, rfl⟩
    rw [← hE] at HP ⊢
    clear hE HC hpost
    go_wp2_with fail
    go_ret2
    exact HP.out

/-- What stands between the two readings: the copy and what came in are untouched, and so is what the reference read. -/
structure DSit (w w1 : World) (s2 : Nat) (A2 : Option Addr) (n2 c2 : Nat) (A3 : Option Addr) (c3 : Nat) (L : List It) (wr : World) : Prop where
  b0 : Below w.heap.size w wr
  b1 : Below w1.heap.size w1 wr
  i2 : Its wr (Fr (fun b => w1.heap.size ≤ b ∧ b < s2) wr) 4 A2 n2 c2 L
  i3 : Its wr (fun b => s2 ≤ b) 4 A3 n2 c3 L
theorem DSit.more {w w1 wr wr' : World} {s2 n2 c2 c3 : Nat} {A2 A3 : Option Addr} {L : List It} (h : DSit w w1 s2 A2 n2 c2 A3 c3 L wr) (hb : Below wr.heap.size wr wr') : DSit w w1 s2 A2 n2 c2 A3 c3 L wr' :=
  ⟨h.b0.trans (hb.mono h.b0.size), h.b1.trans (hb.mono h.b1.size), h.i2.move hb.size fun b hf hlt => ⟨hb.block b hlt, hf.1, free_block hf.2 (hb.block b hlt)⟩, h.i3.stay hb.size fun b _ hlt => hb.block b hlt⟩

end Go.Proofs.Ytchpobikbcelfaa
