/-
  The contract of the reference's root; and lists that the reference's block makes.
-/
import Derived.Test.YtogaakokplobaaaDoorShaTurned
import Derived.Test.YtogaakokplobaaaDoorShaSumW
namespace Go.Proofs.YtogaakokplobaaaDoor
open Go.RowKit

theorem words0_next (bs : List Int) (t : Nat) : (words0 bs t).set t (wordB bs t) = words0 bs (t + 1) := by
  refine ext_getD (by simp [words0]) fun j hj => ?_
  have hl : (words0 bs t).length = 64 := by simp [words0]
  rw [List.length_set, hl] at hj
  rw [getD_set, words0_at, words0_at, hl]
  by_cases h : t = j
  · subst h
    rw [if_pos ⟨rfl, hj⟩, if_pos ⟨hj, by omega⟩]
  · rw [if_neg (fun x => h x.1)]
    by_cases h2 : j < 64 ∧ j < t
    · rw [if_pos h2, if_pos ⟨h2.1, by omega⟩]
    · rw [if_neg h2, if_neg (fun x => h2 ⟨x.1, by have := x.2; omega⟩)]
theorem words0_zero (bs : List Int) : words0 bs 0 = List.replicate 64 0 := by
  refine ext_getD (by simp [words0]) fun j _ => ?_
  rw [words0_at, if_neg (by omega)]
  exact (z64_at j).symm
/-- A block's words as the reference lays them. -/
theorem comp_list {v bs : List Int} {a b c d e f g h : Int} (hr : rounds (sched bs 48) (St.of v) 64 = ⟨a, b, c, d, e, f, g, h⟩) :
    comp v bs = [(v.getD 0 0 + a) % 4294967296, (v.getD 1 0 + b) % 4294967296, (v.getD 2 0 + c) % 4294967296, (v.getD 3 0 + d) % 4294967296, (v.getD 4 0 + e) % 4294967296, (v.getD 5 0 + f) % 4294967296, (v.getD 6 0 + g) % 4294967296, (v.getD 7 0 + h) % 4294967296] := by
  refine ext_getD (by rw [comp_len]; rfl) fun j hj => ?_
  rw [comp_len] at hj
  unfold comp
  rw [hr, addK_at, if_pos ⟨hj, hj⟩]
  have hc : j = 0 ∨ j = 1 ∨ j = 2 ∨ j = 3 ∨ j = 4 ∨ j = 5 ∨ j = 6 ∨ j = 7 := by omega
  rcases hc with rfl | rfl | rfl | rfl | rfl | rfl | rfl | rfl <;> exact congrArg (· % 4294967296) (Int.add_comm _ _)

set_option maxRecDepth 100000 in
set_option maxHeartbeats 1600000 in
theorem root_any (t : Nat) (ht : t < 64) (w : World) :
    Calls Tryd.prog 61 #[.int .i64 t] w fun e w' => e = .returned (.int .u32 (rootsL.getD t 0)) ∧ Below w.heap.size w w' := by
  have htl : (t : Int) < 64 := by omega
  have hn : Hid (Blk (w.alloc (.cells (u32A (List.replicate 64 0)) 87)) w.heap.size 87 (u32A (List.replicate 64 0))) := Blk.new _ _ _
  have HC := Lib.hid (show ((w.alloc (.cells (u32A (List.replicate 64 0)) 87)).setRow w.heap.size (u32A rootsL)).cell? ⟨w.heap.size, t, none⟩ = some (.int .u32 (rootsL.getD t 0)) from
    Blk.cell32 (l := rootsL) ((Blk.new w (u32A (List.replicate 64 0)) 87).setRow _) (by simp [rootsL]; omega))
  go_enter Tryd.func61, Tryd.ntmps61
  go_upto_region 2 with (first
    | (refine wpList_build rfl 87 _ rfl (by kernel_rfl) ?_)
    | (refine wpList_store_row rfl 87 (.tmp 3) (.tmp 4) rfl w.heap.size (u32A rootsL) rfl rfl 87 (u32A (List.replicate 64 0)) hn.out (by kernel_rfl) rfl (u32A_one _) ?_))
  obtain ⟨w2, hw2⟩ : ∃ w2, w2 = (w.alloc (Obj.cells #[Value.int IntKind.u32 0, Value.int IntKind.u32 0, Value.int IntKind.u32 0, Value.int IntKind.u32 0, Value.int IntKind.u32 0, Value.int IntKind.u32 0, Value.int IntKind.u32 0, Value.int IntKind.u32 0, Value.int IntKind.u32 0, Value.int IntKind.u32 0, Value.int IntKind.u32 0, Value.int IntKind.u32 0, Value.int IntKind.u32 0, Value.int IntKind.u32 0, Value.int IntKind.u32 0, Value.int IntKind.u32 0, Value.int IntKind.u32 0, Value.int IntKind.u32 0, Value.int IntKind.u32 0, Value.int IntKind.u32 0, Value.int IntKind.u32 0, Value.int IntKind.u32 0, Value.int IntKind.u32 0, Value.int IntKind.u32 0, Value.int IntKind.u32 0, Value.int IntKind.u32 0, Value.int IntKind.u32 0, Value.int IntKind.u32 0, Value.int IntKind.u32 0, Value.int IntKind.u32 0, Value.int IntKind.u32 0, Value.int IntKind.u32 0, Value.int IntKind.u32 0, Value.int IntKind.u32 0, Value.int IntKind.u32 0, Value.int IntKind.u32 0, Value.int IntKind.u32 0, Value.int IntKind.u32 0, Value.int IntKind.u32 0, Value.int IntKind.u32 0, Value.int IntKind.u32 0, Value.int IntKind.u32 0, Value.int IntKind.u32 0, Value.int IntKind.u32 0, Value.int IntKind.u32 0, Value.int IntKind.u32 0, Value.int IntKind.u32 0, Value.int IntKind.u32 0, Value.int IntKind.u32 0, Value.int IntKind.u32 0, Value.int IntKind.u32 0, Value.int IntKind.u32 0, Value.int IntKind.u32 0, Value.int IntKind.u32 0, Value.int IntKind.u32 0, Value.int IntKind.u32 0, Value.int IntKind.u32 0, Value.int IntKind.u32 0, Value.int IntKind.u32 0, Value.int IntKind.u32 0, Value.int IntKind.u32 0, Value.int IntKind.u32 0, Value.int IntKind.u32 0, Value.int IntKind.u32 0] 87)).setRow w.heap.size (u32A rootsL) := ⟨_, rfl⟩
  have H2 := Lib.hid (show w2.cell? ⟨w.heap.size, t, none⟩ = some (.int .u32 (rootsL.getD t 0)) ∧ Below w.heap.size w w2 from by
    rw [hw2]
    exact ⟨HC.out, below_setRow ((Below.refl _ _).alloc (Nat.le_refl _) _) (Nat.le_refl _) _⟩)
  rw [← hw2]
  clear hw2 hn HC
  obtain ⟨k, hk⟩ : ∃ k, k = rootsL.getD t 0 := ⟨_, rfl⟩
  rw [← hk] at H2
  have HK := Lib.hid hk
  have hc := H2.out.1
  clear hk
  go_wp2_with fail
  go_ret
  exact ⟨retS HK.out, H2.out.2⟩
end Go.Proofs.YtogaakokplobaaaDoor
