/-
  Contracts of Check and Encode and of what they call.
-/
import Derived.Test.YtchpobikbcelfaaTlvCheckL
import Derived.Laws.EntriesVeiled
namespace Go.Proofs.Ytchpobikbcelfaa
open Go.RowKit

theorem Below.of_grown {w w1 w' : World} {B : Nat} {row : Option Nat} (h : Below B w w1) (hg : w1.grownBy w' row) (hB : B ≤ w1.heap.size) (hr : ∀ k, row = some k → B ≤ k) : Below B w w' := h.grown hg hB hr

theorem checkItems_any {w : World} {S : Nat → Prop} {d : Nat} {A : Option Addr} {n cap : Nat} {l : List It} (hi : Its w S d A n cap l) :
    Calls Try.prog 27 #[.slice A n cap] w fun e w' => e = .returned (.int .i64 (chkL 1 0 0 l).2) ∧ Below w.heap.size w w' := by
  have hmf : ∀ (fn : Fn) (first cap : Array Value) (w : World), (Instr.makeFunc fn first cap).run Try.prog w = .ok (.func fn first cap) w := fun _ _ _ _ => rfl
  obtain ⟨fnv, hfn⟩ : ∃ fnv, fnv = Value.func (.func 34) #[] #[.pointer (some ⟨w.heap.size, 0, none⟩), .pointer (some ⟨w.heap.size + 1, 0, none⟩)] := ⟨_, rfl⟩
  obtain ⟨w2, hw2⟩ : ∃ w2, w2 = (w.alloc (.cells #[.int .i64 0] 3)).alloc (.cells #[fnv] 64) := ⟨_, rfl⟩
  have hb2 : Below w.heap.size w w2 := by rw [hw2]; exact ((Below.refl _ _).alloc (Nat.le_refl _) _).alloc (by simp) _
  have hs2 : w2.heap.size = w.heap.size + 2 := by rw [hw2]; simp
  have hcb : CB w2 w.heap.size (w.heap.size + 1) 0 := by
    refine ⟨?_, ?_, by omega⟩
    · rw [hw2, heap_alloc_old _ _ (by simp)]; exact heap_alloc_new _ _
    · rw [hw2, hfn]
      have := heap_alloc_new (w.alloc (.cells #[.int .i64 0] 3)) (.cells #[Value.func (.func 34) #[] #[.pointer (some ⟨w.heap.size, 0, none⟩), .pointer (some ⟨w.heap.size + 1, 0, none⟩)]] 64)
      simpa using this
  have hi2 : Its w2 (· ≠ w.heap.size) d A n cap l := (hi.mono (S' := (· ≠ w.heap.size)) (fun b _ hlt e => by omega)).below hb2
  have HC := Lib.hid (check_any w.heap.size (w.heap.size + 1) d w2 A n cap l 1 0 hi2 hcb (Int.le_refl 0) (by omega) (by omega) (by omega) (.inl (by omega)))
  have HB := Lib.hid (And.intro hb2 hs2)
  have HW := Lib.hid (And.intro hw2 hfn)
  clear hi2 hcb hb2 hs2 hi hw2 hfn
  go_enter Try.func27, Try.ntmps27
  go_wp2_with fail
  have HC' := HC.out
  rw [HW.out.1, HW.out.2] at HC'
  refine HC'.mono ?_
  rintro e w' ⟨rfl, _, hg⟩
  have hb : Below w.heap.size w w' := by
    have hw := HW.out.1
    rw [HW.out.2] at hw
    rw [← hw] at hg
    exact HB.out.1.grown hg (by have := HB.out.2; omega) (fun k hk => by injection hk with hk; omega)
  clear HC HB hg HC' HW
  go_wp2_with fail
  go_ret
  exact ⟨rfl, hb⟩

end Go.Proofs.Ytchpobikbcelfaa
