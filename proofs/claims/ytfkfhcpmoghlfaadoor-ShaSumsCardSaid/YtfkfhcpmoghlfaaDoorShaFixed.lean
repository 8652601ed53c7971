/-
  The contract of fixed: the chapter's examples.
-/
import Derived.Test.YtfkfhcpmoghlfaaDoorShaSumW
import Derived.Test.YtfkfhcpmoghlfaaDoorShaKat
import Derived.Lib.SlBytesConst
namespace Go.Proofs.YtfkfhcpmoghlfaaDoor
open Go.RowKit

theorem Ps.zero (w : World) : Ps w none 0 [] := ⟨rfl, fun h => absurd h (by omega)⟩
/-- Parts that lie in one block from its head on. -/
theorem Ps.of {w : World} {b n : Nat} {L : List (List Int)} (hl : L.length = n) (hb : 0 < n → b < w.heap.size)
    (h : ∀ k, k < n → ∃ A' m c', w.cell? ⟨b, k, none⟩ = some (.slice A' m c') ∧ Sb w A' m (L.getD k []) ∧ m ≤ c' ∧ c' ≤ 9223372036854775807 ∧ B8s (L.getD k [])) : Ps w (some ⟨b, 0, none⟩) n L :=
  ⟨hl, fun hn => ⟨_, rfl, hb hn, fun k hk => by
    obtain ⟨A', m, c', h1, h2⟩ := h k hk
    exact ⟨A', m, c', by rw [addHead]; exact h1, h2⟩⟩⟩

set_option maxRecDepth 100000 in
set_option maxHeartbeats 800000 in
theorem fixed_any (w : World) (hr : Roots w) :
    Calls Tryd.prog 8 #[] w fun e w' => e = .returned (.bool true) ∧ Below w.heap.size w w' := by
  have H := Lib.hid hr
  clear hr
  have kc := fun (w : World) (C : Array Value) (n c : Nat) => Lib.run_convert_bytes_const (P := Tryd.prog) w 25 5 C n c Tryd.underlying25 Tryd.underlying5
  go_enter Tryd.func8, Tryd.ntmps8
  go_wp2_with fail
  refine (shaSum_any (L := []) _ H.out (Ps.zero _) (by simp) (by omega)).mono ?_
  rintro e w1 ⟨rfl, hb1⟩
  have K0 := Lib.hid kat0
  have KA := Lib.hid katA
  obtain ⟨s0, hs0⟩ : ∃ s, s = shaS [] := ⟨_, rfl⟩
  rw [show ([] : List (List Int)).flatten = [] from rfl, ← hs0]
  rw [← hs0] at K0
  have hl0 := Lib.hid (show s0.length = 32 from by rw [hs0]; exact shaS_len _)
  clear hs0
  have hn1 : Hid (Blk (w1.alloc (.cells (u8A (List.replicate 32 0)) 27)) w1.heap.size 27 (u8A (List.replicate 32 0))) := Blk.new _ _ _
  go_upto_region 2 with (refine wpList_store_row rfl 27 (.tmp 1) (.tmp 3) rfl w1.heap.size (u8A s0) rfl rfl 27 (u8A (List.replicate 32 0)) hn1.out (by rw [u8A_size, hl0.out]; exact info32) (by rw [u8A_size, u8A_size, hl0.out]; simp) (u8A_one _) ?_)
  obtain ⟨w2, hw2⟩ : ∃ w2, w2 = (w1.alloc (Obj.cells #[Value.int IntKind.u8 0, Value.int IntKind.u8 0, Value.int IntKind.u8 0, Value.int IntKind.u8 0, Value.int IntKind.u8 0, Value.int IntKind.u8 0, Value.int IntKind.u8 0, Value.int IntKind.u8 0, Value.int IntKind.u8 0, Value.int IntKind.u8 0, Value.int IntKind.u8 0, Value.int IntKind.u8 0, Value.int IntKind.u8 0, Value.int IntKind.u8 0, Value.int IntKind.u8 0, Value.int IntKind.u8 0, Value.int IntKind.u8 0, Value.int IntKind.u8 0, Value.int IntKind.u8 0, Value.int IntKind.u8 0, Value.int IntKind.u8 0, Value.int IntKind.u8 0, Value.int IntKind.u8 0, Value.int IntKind.u8 0, Value.int IntKind.u8 0, Value.int IntKind.u8 0, Value.int IntKind.u8 0, Value.int IntKind.u8 0, Value.int IntKind.u8 0, Value.int IntKind.u8 0, Value.int IntKind.u8 0, Value.int IntKind.u8 0] 27)).setRow w1.heap.size (u8A s0) := ⟨_, rfl⟩
  have H2 := Lib.hid (show Blk w2 w1.heap.size 27 (u8A s0) ∧ Below w.heap.size w w2 ∧ w2.heap.size = w1.heap.size + 1 ∧ w.heap.size ≤ w1.heap.size from by
    have hz := hb1.size
    rw [hw2]
    exact ⟨(Blk.new _ _ _).setRow _, below_setRow (hb1.alloc hz _) hz _, by simp, hz⟩)
  rw [← hw2]
  clear hw2 hb1 hn1
  go_wp2_with fail
  refine (shaSum_any (n := 1) (L := [[97, 98, 99]]) _ ?hr ?hp (by decide) (by omega)).mono ?_
  case hr => exact H.out.below (((H2.out.2.1.alloc (by have := H2.out; omega) _).alloc (by have := H2.out; simp; omega) _))
  case hp =>
    refine Ps.of rfl (by simp) fun k hk => ?_
    obtain rfl : k = 0 := by omega
    refine ⟨some ⟨w2.heap.size, 0, none⟩, 3, 3, (cell_of_row _ _ 0 _ _ _ (heap_alloc2_new w2 _ _)).trans rfl, ⟨rfl, fun _ => ⟨_, rfl, by simp; omega, fun j hj => ?_⟩⟩, by omega, by omega, by unfold B8s; decide⟩
    rw [addHead]
    have hj3 : j = 0 ∨ j = 1 ∨ j = 2 := by omega
    rcases hj3 with rfl | rfl | rfl <;> exact (cell_of_row _ _ _ _ _ _ (heap_alloc2_old w2 _ _)).trans rfl
  rintro e w4 ⟨rfl, hb4⟩
  rw [show ([[97, 98, 99]] : List (List Int)).flatten = [97, 98, 99] from rfl]
  obtain ⟨sA, hsA⟩ : ∃ s, s = shaS [97, 98, 99] := ⟨_, rfl⟩
  rw [← hsA] at KA ⊢
  have hlA := Lib.hid (show sA.length = 32 from by rw [hsA]; exact shaS_len _)
  have H4 := Lib.hid (show Blk w4 w1.heap.size 27 (u8A s0) ∧ Below w.heap.size w w4 from by
    have h2 := H2.out
    have hb5 : Below w2.heap.size w2 w4 := (((Below.refl _ _).alloc (Nat.le_refl _) _).alloc (by simp) _).trans (hb4.mono (by simp; omega))
    exact ⟨h2.1.below hb5 h2.1.lt, h2.2.1.trans (hb5.mono h2.2.1.size)⟩)
  have hn4 : Hid (Blk (w4.alloc (.cells (u8A (List.replicate 32 0)) 27)) w4.heap.size 27 (u8A (List.replicate 32 0))) := Blk.new _ _ _
  clear hb4 H2 hsA
  go_upto_region 3 with (refine wpList_store_row rfl 27 (.tmp 2) (.tmp 7) rfl w4.heap.size (u8A sA) rfl rfl 27 (u8A (List.replicate 32 0)) hn4.out (by rw [u8A_size, hlA.out]; exact info32) (by rw [u8A_size, u8A_size, hlA.out]; simp) (u8A_one _) ?_)
  obtain ⟨w5, hw5⟩ : ∃ w5, w5 = (w4.alloc (Obj.cells #[Value.int IntKind.u8 0, Value.int IntKind.u8 0, Value.int IntKind.u8 0, Value.int IntKind.u8 0, Value.int IntKind.u8 0, Value.int IntKind.u8 0, Value.int IntKind.u8 0, Value.int IntKind.u8 0, Value.int IntKind.u8 0, Value.int IntKind.u8 0, Value.int IntKind.u8 0, Value.int IntKind.u8 0, Value.int IntKind.u8 0, Value.int IntKind.u8 0, Value.int IntKind.u8 0, Value.int IntKind.u8 0, Value.int IntKind.u8 0, Value.int IntKind.u8 0, Value.int IntKind.u8 0, Value.int IntKind.u8 0, Value.int IntKind.u8 0, Value.int IntKind.u8 0, Value.int IntKind.u8 0, Value.int IntKind.u8 0, Value.int IntKind.u8 0, Value.int IntKind.u8 0, Value.int IntKind.u8 0, Value.int IntKind.u8 0, Value.int IntKind.u8 0, Value.int IntKind.u8 0, Value.int IntKind.u8 0, Value.int IntKind.u8 0] 27)).setRow w4.heap.size (u8A sA) := ⟨_, rfl⟩
  have H5 := Lib.hid (show Blk w5 w1.heap.size 27 (u8A s0) ∧ Blk w5 w4.heap.size 27 (u8A sA) ∧ Below w.heap.size w w5 from by
    have h4 := H4.out
    rw [hw5]
    exact ⟨(h4.1.alloc _).otherRow _ (Nat.ne_of_lt h4.1.lt), (Blk.new _ _ _).setRow _, below_setRow (h4.2.alloc h4.2.size _) h4.2.size _⟩)
  rw [← hw5]
  clear hw5 hn4 H4
  have c0 : w5.cell? ⟨w1.heap.size, 0, none⟩ = some (.int .u8 227) := by rw [← K0.out.1]; exact H5.out.1.cell8 (by rw [hl0.out]; omega)
  have c1 : w5.cell? ⟨w1.heap.size, 31, none⟩ = some (.int .u8 85) := by rw [← K0.out.2]; exact H5.out.1.cell8 (by rw [hl0.out]; omega)
  have c2 : w5.cell? ⟨w4.heap.size, 0, none⟩ = some (.int .u8 186) := by rw [← KA.out.1]; exact H5.out.2.1.cell8 (by rw [hlA.out]; omega)
  have c3 : w5.cell? ⟨w4.heap.size, 1, none⟩ = some (.int .u8 120) := by rw [← KA.out.2.1]; exact H5.out.2.1.cell8 (by rw [hlA.out]; omega)
  have c4 : w5.cell? ⟨w4.heap.size, 31, none⟩ = some (.int .u8 173) := by rw [← KA.out.2.2]; exact H5.out.2.1.cell8 (by rw [hlA.out]; omega)
  go_wp2_with fail
  go_ret
  exact ⟨rfl, H5.out.2.2⟩
end Go.Proofs.YtfkfhcpmoghlfaaDoor
