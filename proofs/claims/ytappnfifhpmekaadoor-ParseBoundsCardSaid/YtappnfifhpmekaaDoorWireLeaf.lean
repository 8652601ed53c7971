/-
  Contracts of the small functions of wire and of the reference's Same and Copy: what each answers and what it leaves in memory.
-/
import Derived.Test.YtappnfifhpmekaaDoorProg
import Derived.Test.YtappnfifhpmekaaDoorWireMem
import Derived.BigQuiet
import Derived.Deep.QuietTactic
import Derived.Laws.CopyOwn
import Derived.WalkSpells
namespace Go.Proofs.YtappnfifhpmekaaDoor
open Go.RowKit

theorem retI {k : IntKind} {a b : Int} (h : a = b) : Ending.returned (.int k a) = .returned (.int k b) := by rw [h]

/-- What End answers. -/
def endE (e : Int) (n : Nat) : Int := if e = 0 then (if n = 0 then 0 else 6) else e

theorem info8 : (Tryd.prog.info? 5).map (fun i => (i.zero, i.size, i.bytes)) = some (some (.int .u8 0), 1, 1) := by kernel_rfl

theorem size8 : (Tryd.prog.info? 5).map (·.size) = some 1 := by kernel_rfl

/-- Copy: a row of its own, as long. -/
theorem copy_any {w : World} {A : Option Addr} {n c : Nat} {zs : List Int} (h : Sb w A n zs) (hn : n ≤ 140737488355328) :
    Calls Tryd.prog 16 #[.slice A n c] w fun e w' => ∃ g, e = .returned (.slice (some ⟨g, 0, none⟩) n n) ∧
      w'.ownsRow w.heap.size 5 1 (.slice (some ⟨g, 0, none⟩) n n) n (zs.map (Value.int .u8)) ∧ Below w.heap.size w w' := by
  obtain ⟨i0, hi, hz0, hz1, hz2⟩ := info_parts info8
  have hl := Lib.hid h.len
  go_enter Tryd.func16, Tryd.ntmps16
  go_wp2_with (first
    | (at_make; refine wpList_make_full _ rfl _ _ 23 rfl w.heap.size 5 i0 (.int .u8 0) 1 Tryd.underlying23 hi hz0 hz1 .i64 .i64 (n : Int) (n : Int) n rfl rfl rfl rfl (by rw [hz2]; omega) (by unfold maxLen; omega) (Nat.le_refl _) ?_; intro w1 hown hg)
    | (with_reducible refine wpList_cpy rfl (.tmp 7) (.tmp 8) 23 rfl w.heap.size 5 Tryd.underlying23 size8 w.heap.size n c A rfl rfl _ hown zs (h.below (Below.grown (Below.refl _ _) hg (Nat.le_refl _) (by intro k hk; cases hk))) ?_; intro w2 hown2 hb2))
  go_ret
  exact ⟨_, rfl, hown2, ((Below.refl _ _).grown hg (Nat.le_refl _) (by intro k hk; cases hk)).trans hb2⟩

set_option maxHeartbeats 400000 in
/-- Same over two slices that read as one list: true; memory is as it was, but for what was drawn. -/
theorem same_true {w : World} {A A' : Option Addr} {n c c' : Nat} {zs : List Int} (h : Sb w A n zs) (h' : Sb w A' n zs) (hn : n ≤ 9223372036854775807) :
    Calls Tryd.prog 11 #[.slice A n c, .slice A' n c'] w fun e w' => e = .returned (.bool true) ∧ ∃ q, w' = w.drewN q := by
  go_enter Tryd.func11, Tryd.ntmps11
  go_wp2
  go_loopw [13] (fun i wr => ∃ k q : Nat, k ≤ n ∧ i = .int .i64 k ∧ wr = w.drewN q) (fun i _ => n - (intOf i).toNat)
  case atStart => exact ⟨0, 0, Nat.zero_le _, rfl, rfl⟩
  case round =>
    obtain ⟨k, q, hk, rfl, rfl⟩ := hrel
    by_cases hlt : k < n
    · obtain ⟨ad, rfl⟩ := h.addr (by omega)
      obtain ⟨ad', rfl⟩ := h'.addr (by omega)
      have hc := h.cell hlt
      have hc' := h'.cell hlt
      go_wp2
      go_quiet (fail)
      go_wp2
      go_roundw
      case rel => exact ⟨k + 1, q + nq, by omega, by go_num, rfl⟩
      case measure => simp [intOf]; omega
    · go_wp2
      go_ret
      exact ⟨rfl, q, rfl⟩

end Go.Proofs.YtappnfifhpmekaaDoor
