/-
  Contracts of what Decode gives up by.
-/
import Derived.Test.YtchpobikbcelfaaTlvMem
import Derived.Test.YtchpobikbcelfaaWireRead
import Derived.Recover
import Derived.OneCell
import Derived.RegionTactic
namespace Go.Proofs.Ytchpobikbcelfaa
open Go.RowKit

theorem giveUp_ok (w : World) : Calls Try.prog 45 #[.int .i64 0] w fun e w' => e = .returned (.tuple #[]) ∧ w = w' := by
  go_enter Try.func45, Try.ntmps45
  go_wp2_with fail
  go_end0
  exact ⟨rfl, rfl⟩

/-- How it gives up: a panic whose value is the error. -/
def gaveUp (e : Int) : Ending := .panicked [{ v := .iface 27 (.int .i64 e), recovered := false }]

theorem giveUp_bad (E : Int) (h : E ≠ 0) (w : World) : Calls Try.prog 45 #[.int .i64 E] w fun e w' => e = gaveUp E ∧ w = w' := by
  have t : (E != 0) = true := by simpa using h
  clear h
  go_enter Try.func45, Try.ntmps45
  go_wp2_with fail
  exact ⟨rfl, rfl, rfl⟩

/-- What Decode's deferred function leaves of a panic: the results. -/
theorem caught (p q : Nat) (x y : Value) (t1 t2 : TypeId) (E : Int) (older : List PanicEntry) (w : World) (hp : w.heap[p]? = some (.cells #[x] t1 (0, 0))) (hq : w.heap[q]? = some (.cells #[y] t2 (0, 0))) (hne : p ≠ q) :
    CallsD Try.prog 30 #[.pointer (some ⟨p, 0, none⟩), .pointer (some ⟨q, 0, none⟩)] (.panicking ({ v := .iface 27 (.int .i64 E), recovered := false } :: older)) w fun e u' w' =>
      e = .returned (.tuple #[]) ∧ u' = .panicking ({ v := .iface 27 (.int .i64 E), recovered := true } :: older) ∧ w' = ((w.setCell ⟨p, 0, none⟩ (.slice none 0 0)).setCell ⟨q, 0, none⟩ (.int .i64 E)).drew := by
  have h1 := cell_of_one hp
  have h2 := free_of_one hp
  have h3 := cell_of_one hq
  have h4 := free_of_one hq
  have hta : ∀ w, (Instr.typeAssert (.iface 27 (.int .i64 E)) 20 27 false).run Try.prog w = .ok (.int .i64 E) w := fun _ => by kernel_rfl
  refine callsD_of_wpS Try.func30 rfl fun c₀ cs hu => ?_
  apply wpS_seq
  apply wpS_region
  simp [wpOpsS, go_sem, recoverD, hu, Try.ntmps30, Exit.thenS]
  apply wpS_seq
  apply wpS_region
  simp [wpOpsS, go_sem, Exit.thenS]
  refine wpS_cond (t := true) (by simp [Act.eval, Array.replicate]) ?_
  simp only [if_true]
  refine wpS_of_wp ?_
  go_region
  all_goals simp [bodyPostS, results, Try.results30]

theorem caught_not (p q : Nat) (w : World) :
    CallsD Try.prog 30 #[.pointer (some ⟨p, 0, none⟩), .pointer (some ⟨q, 0, none⟩)] .returning w fun e u' w' => e = .returned (.tuple #[]) ∧ u' = .returning ∧ w' = w := by
  refine callsD_of_wpS Try.func30 rfl fun c₀ cs hu => ?_
  apply wpS_seq
  apply wpS_region
  simp [wpOpsS, go_sem, recoverD, hu, Try.ntmps30, Exit.thenS]
  apply wpS_seq
  apply wpS_region
  simp [wpOpsS, go_sem, Exit.thenS]
  refine wpS_cond (t := false) (by simp [Act.eval, Array.replicate]) ?_
  simp only [Bool.false_eq_true, if_false]
  refine wpS_of_wp (wp_skip ?_)
  cases c₀
  simp_all [bodyPostS, results, Try.results30]

end Go.Proofs.Ytchpobikbcelfaa
