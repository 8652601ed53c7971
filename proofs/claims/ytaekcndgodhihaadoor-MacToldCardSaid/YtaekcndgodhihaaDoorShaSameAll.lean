/-
  The reference's SameAll over two slices of slices that read alike.
-/
import Derived.Test.YtaekcndgodhihaaDoorShaParts
import Derived.Deep.QuietTactic
import Derived.BigQuiet
namespace Go.Proofs.YtaekcndgodhihaaDoor
open Go.RowKit

theorem drewN_drewN' (w : World) (p q : Nat) : (w.drewN p).drewN q = w.drewN (p + q) := by
  unfold World.drewN; simp [Nat.add_assoc]
theorem Ps.drewN {w : World} {A : Option Addr} {n : Nat} {L : List (List Int)} (h : Ps w A n L) (q : Nat) : Ps (w.drewN q) A n L := by
  refine ⟨h.len, fun hn => ?_⟩
  obtain ⟨ad, h1, h2, h3⟩ := h.at_ hn
  refine ⟨ad, h1, h2, fun k hk => ?_⟩
  obtain ⟨A', m, c', e1, e2, e3⟩ := h3 k hk
  exact ⟨A', m, c', e1, e2.drewN q, e3⟩

set_option maxRecDepth 100000 in
set_option maxHeartbeats 1000000 in
theorem sameAll_any {A A' : Option Addr} {n c c' : Nat} {L : List (List Int)} (w : World) (h : Ps w A n L) (h' : Ps w A' n L) (hn : n ≤ 9223372036854775807) :
    Calls Tryd.prog 14 #[.slice A n c, .slice A' n c'] w fun e w' => e = .returned (.bool true) ∧ ∃ q, w' = w.drewN q := by
  have H := Lib.hid (And.intro h h')
  clear h h'
  go_enter Tryd.func14, Tryd.ntmps14
  go_wp2_with fail
  go_loopw [13] (fun i wr => ∃ k q : Nat, k ≤ n ∧ i = .int .i64 k ∧ wr = w.drewN q) (fun i _ => n - (intOf i).toNat)
  case atStart => exact ⟨0, 0, Nat.zero_le _, rfl, rfl⟩
  case round =>
    obtain ⟨k, q, hk, rfl, rfl⟩ := hrel
    by_cases hlt : k < n
    · obtain ⟨wr, hwr⟩ : ∃ wr, wr = w.drewN q := ⟨_, rfl⟩
      have hA : Ps wr A n L := by rw [hwr]; exact H.out.1.drewN q
      have hB : Ps wr A' n L := by rw [hwr]; exact H.out.2.drewN q
      rw [← hwr]
      have HW := Lib.hid hwr
      clear hwr
      obtain ⟨ad, rfl, _, hat⟩ := hA.at_ (by omega)
      obtain ⟨ad', rfl, _, hat'⟩ := hB.at_ (by omega)
      obtain ⟨B, m, d, hc, hs, h1, h2, _⟩ := hat k hlt
      obtain ⟨B', m', d', hc', hs', h1', h2', _⟩ := hat' k hlt
      obtain rfl : m = m' := hs.len.symm.trans hs'.len
      have hm : m ≤ 9223372036854775807 := by omega
      have X := Lib.hid (And.intro hs hs')
      have hlt' : (k : Int) < (n : Int) := by omega
      have hk0 : (0 : Int) ≤ (k : Int) := by omega
      clear hat hat' hs hs' hA hB h1 h2 h1' h2'
      go_wp2_with fail
      go_quiet (first
        | (go_at_call 15; exact Calls.quiet_of (same_true (X.out.1.drewN _) (X.out.2.drewN _) hm)))
      go_wp2_with fail
      go_roundw
      case rel => exact ⟨k + 1, q + nq, by omega, by go_num, by rw [HW.out, drewN_drewN']⟩
      case measure => simp [intOf]; omega
    · go_wp2_with fail
      go_ret
      exact ⟨rfl, q, rfl⟩

end Go.Proofs.YtaekcndgodhihaaDoor
