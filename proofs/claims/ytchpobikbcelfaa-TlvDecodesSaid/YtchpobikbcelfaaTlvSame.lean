/-
  The contract of the reference's Same over items, where both read as one list.
-/
import Derived.Test.YtchpobikbcelfaaTlvMem
import Derived.Test.YtchpobikbcelfaaWireLeaf
import Derived.Deep.QuietTactic
import Derived.BigQuiet
namespace Go.Proofs.Ytchpobikbcelfaa
open Go.RowKit

theorem Its.max {w : World} {S : Nat → Prop} {d : Nat} {A : Option Addr} {n c : Nat} {l : List It} (h : Its w S d A n c l) : n ≤ 9223372036854775807 := by
  cases d with
  | zero => obtain ⟨rfl, _⟩ := h; omega
  | succ d => have := h.2.1; have := h.2.2.1; unfold maxLen at this; omega
theorem World.drewN_drewN (w : World) (p q : Nat) : (w.drewN p).drewN q = w.drewN (p + q) := by
  unfold World.drewN; simp [Nat.add_assoc]

set_option maxRecDepth 100000 in
set_option maxHeartbeats 1000000 in
theorem sameIts_any (d : Nat) : ∀ (d' : Nat) (w : World) (S S' : Nat → Prop) (A A' : Option Addr) (n c c' : Nat) (l : List It), Its w S d A n c l → Its w S' d' A' n c' l →
    Calls Try.prog 16 #[.slice A n c, .slice A' n c'] w fun e w' => e = .returned (.bool true) ∧ ∃ q, w' = w.drewN q := by
  induction d with
  | zero =>
    intro d' w S S' A A' n c c' l hi hi'
    obtain ⟨rfl, rfl, _⟩ := hi
    clear hi'
    go_enter Try.func16, Try.ntmps16
    go_wp2_with fail
    go_loopw [13] (fun i wr => i = .int .i64 (0 : Nat) ∧ wr = w) (fun _ _ => 0)
    case atStart => exact ⟨rfl, rfl⟩
    case round =>
      obtain ⟨rfl, rfl⟩ := hrel
      go_wp2_with fail
      go_ret
      exact ⟨rfl, 0, rfl⟩
  | succ d ih =>
    intro d' w S S' A A' n c c' l hi hi'
    have hn := hi.max
    have hl := Lib.hid hi.len
    have IH := Lib.hid ih
    have H := Lib.hid (And.intro hi hi')
    clear ih hi hi'
    go_enter Try.func16, Try.ntmps16
    go_wp2_with fail
    go_loopw [13] (fun i wr => ∃ k q : Nat, k ≤ n ∧ i = .int .i64 k ∧ wr = w.drewN q) (fun i _ => n - (intOf i).toNat)
    case atStart => exact ⟨0, 0, Nat.zero_le _, rfl, rfl⟩
    case round =>
      obtain ⟨k, q, hk, rfl, rfl⟩ := hrel
      by_cases hlt : k < n
      · obtain ⟨x, hx⟩ : ∃ x, l[k]? = some x := ⟨_, List.getElem?_eq_getElem (by rw [hl.out]; exact hlt)⟩
        cases d' with
        | zero =>
          obtain ⟨rfl, _⟩ := H.out.2
          omega
        | succ d' =>
          obtain ⟨wr, hwr⟩ : ∃ wr, wr = w.drewN q := ⟨_, rfl⟩
          have hA : Its wr S (d + 1) A n c l := by rw [hwr]; exact H.out.1.drewN q
          have hB : Its wr S' (d' + 1) A' n c' l := by rw [hwr]; exact H.out.2.drewN q
          rw [← hwr]
          have HW := Lib.hid hwr
          clear hwr
          obtain ⟨ad, B, bn, bc, C, cn, cc, rfl, _, _, hat⟩ := hA.get hx
          obtain ⟨ad', B', bn', bc', C', cn', cc', rfl, _, _, hat'⟩ := hB.get hx
          obtain rfl : bn = bn' := hat.b.sb.len.symm.trans hat'.b.sb.len
          obtain rfl : cn = cn' := hat.i.len.symm.trans hat'.i.len
          have h0 := hat.c0
          have h1 := hat.c1
          have h2 := hat.c2
          have h3 := hat.c3
          have h4 := hat.c4
          have g0 := hat'.c0
          have g1 := hat'.c1
          have g2 := hat'.c2
          have g3 := hat'.c3
          have g4 := hat'.c4
          have hbn : bn ≤ 9223372036854775807 := by have := hat.b.le; have := hat.b.max; unfold maxLen at this; omega
          have t0 : (x.kind != x.kind) = false := by simp
          have t1 : (x.crit != x.crit) = false := by simp
          have t2 : (x.lst != x.lst) = false := by simp
          have X := Lib.hid (And.intro (And.intro hat.b.sb hat'.b.sb) (And.intro hat.i hat'.i))
          have hlt' : (k : Int) < (n : Int) := by omega
          have hk0 : (0 : Int) ≤ (k : Int) := by omega
          clear hat hat' hx hA hB
          go_wp2_with fail
          go_quiet (first
            | (go_at_call 14; exact Calls.quiet_of (same_true (X.out.1.1.drewN _) (X.out.1.2.drewN _) hbn))
            | (go_at_call 16; exact Calls.quiet_of (IH.out _ _ _ _ _ _ _ _ _ _ (X.out.2.1.drewN _) (X.out.2.2.drewN _))))
          go_wp2_with fail
          go_roundw
          case rel => exact ⟨k + 1, q + nq, by omega, by go_num, by rw [HW.out, World.drewN_drewN]⟩
          case measure => simp [intOf]; omega
      · go_wp2_with fail
        go_ret
        exact ⟨rfl, q, rfl⟩

end Go.Proofs.Ytchpobikbcelfaa
