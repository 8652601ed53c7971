/-
  Contracts of what Encode calls to check a list: an item by itself, a list with all within it.
-/
import Derived.Test.YtchpobikbcelfaaTlvMem
import Derived.Test.YtchpobikbcelfaaWireVar
namespace Go.Proofs.Ytchpobikbcelfaa
open Go.RowKit

/-- An item as a value. -/
abbrev iv (k : Int) (c s : Bool) (B : Option Addr) (bn bc : Nat) (C : Option Addr) (cn cc : Nat) : Value := .agg #[.int .i64 k, .bool c, .bool s, .slice B bn bc, .slice C cn cc]

/-- The error of an item by itself, by lengths. -/
def errN (k : Int) (s : Bool) (bn cn : Nat) (ahead depth : Int) : Int :=
  if k ≤ ahead ∨ 1000 < k then 1 else
  if (s = true ∧ 0 < bn) ∨ (s = false ∧ 0 < cn) then 1 else
  if s = true ∧ 4 ≤ depth then 5 else
  if 4096 < bn then 4 else 0
theorem errN_eq {x : It} {bn cn : Nat} (hb : x.bytes.length = bn) (hc : x.items.length = cn) (ahead depth : Int) : errN x.kind x.lst bn cn ahead depth = err1 x ahead depth := by
  have e1 : (x.bytes ≠ []) ↔ 0 < bn := by rw [← hb]; exact List.length_pos_iff.symm
  have e2 : (x.items ≠ []) ↔ 0 < cn := by rw [← hc]; exact List.length_pos_iff.symm
  unfold errN err1
  rw [← hb] at e1 ⊢
  simp only [e1, e2]

theorem checkItem_any (k : Int) (c s : Bool) (B : Option Addr) (bn bc : Nat) (C : Option Addr) (cn cc : Nat) (ahead depth : Int) (w : World) :
    Calls Try.prog 35 #[iv k c s B bn bc C cn cc, .int .i64 ahead, .int .i64 depth] w fun e w' => e = .returned (.int .i64 (errN k s bn cn ahead depth)) ∧ Below w.heap.size w w' := by
  have hb : ∀ o, Below w.heap.size w (w.alloc o) := fun o => (Below.refl _ _).alloc (Nat.le_refl _) o
  have HB := Lib.hid hb
  clear hb
  by_cases h1 : k ≤ ahead
  · have HE : Hid (errN k s bn cn ahead depth = 1) := by show _ = _; unfold errN; rw [if_pos (.inl h1)]
    rw [HE.out]
    go_enter Try.func35, Try.ntmps35
    go_wp2
    go_ret
    exact ⟨rfl, HB.out _⟩
  by_cases h2 : 1000 < k
  · have HE : Hid (errN k s bn cn ahead depth = 1) := by show _ = _; unfold errN; rw [if_pos (.inr h2)]
    rw [HE.out]
    go_enter Try.func35, Try.ntmps35
    go_wp2
    go_ret
    exact ⟨rfl, HB.out _⟩
  cases s with
  | true =>
    by_cases h3 : 0 < bn
    · have HE : Hid (errN k true bn cn ahead depth = 1) := by show _ = _; unfold errN; simp; omega
      rw [HE.out]
      go_enter Try.func35, Try.ntmps35
      go_wp2
      go_ret
      exact ⟨rfl, HB.out _⟩
    · by_cases h4 : 4 ≤ depth
      · have HE : Hid (errN k true bn cn ahead depth = 5) := by show _ = _; unfold errN; simp; omega
        rw [HE.out]
        go_enter Try.func35, Try.ntmps35
        go_wp2
        go_ret
        exact ⟨rfl, HB.out _⟩
      · have HE : Hid (errN k true bn cn ahead depth = 0) := by show _ = _; unfold errN; simp; omega
        rw [HE.out]
        go_enter Try.func35, Try.ntmps35
        go_wp2
        go_ret
        exact ⟨rfl, HB.out _⟩
  | false =>
    by_cases h3 : 0 < cn
    · have HE : Hid (errN k false bn cn ahead depth = 1) := by show _ = _; unfold errN; simp; omega
      rw [HE.out]
      go_enter Try.func35, Try.ntmps35
      go_wp2
      go_ret
      exact ⟨rfl, HB.out _⟩
    · by_cases h4 : 4096 < bn
      · have HE : Hid (errN k false bn cn ahead depth = 4) := by show _ = _; unfold errN; simp; omega
        rw [HE.out]
        go_enter Try.func35, Try.ntmps35
        go_wp2
        go_ret
        exact ⟨rfl, HB.out _⟩
      · have HE : Hid (errN k false bn cn ahead depth = 0) := by show _ = _; unfold errN; simp; omega
        rw [HE.out]
        go_enter Try.func35, Try.ntmps35
        go_wp2
        go_ret
        exact ⟨rfl, HB.out _⟩

end Go.Proofs.Ytchpobikbcelfaa
