/-
  The contract of fixed: the chapter's example.
-/
import Derived.Test.YtogaakokplobaaaDoorSealOpen
import Derived.Lib.SlBytesConst
namespace Go.Proofs.YtogaakokplobaaaDoor
open Go.RowKit

def hdF : Hd := ⟨4, false, 1, 5⟩
theorem hdF_ok : HdOk hdF := ⟨by decide, by decide, by decide, by decide, by decide, by decide⟩
theorem hdF_may : mayH hdF = true := by decide
theorem hdF_seal : sealS [107] hdF [97, 98] = (dgS [107] hdF [97, 98], 0) := by
  unfold sealS
  rw [if_neg (by rw [hdF_may]; simp), if_neg (by simp)]
theorem hdF_head : (dgS [107] hdF [97, 98]).take 16 = [4, 0, 0, 0, 0, 1, 0, 0, 0, 0, 0, 0, 0, 5, 97, 98] := by
  have e : headL hdF ++ [97, 98] = [4, 0, 0, 0, 0, 1, 0, 0, 0, 0, 0, 0, 0, 5, 97, 98] := by rfl
  unfold dgS
  rw [e]
  rfl

set_option maxRecDepth 100000 in
set_option maxHeartbeats 1600000 in
theorem sealFixed_any (w : World) (hr : Roots w) :
    Calls Tryd.prog 9 #[] w fun e w' => e = .returned (.bool true) ∧ Below w.heap.size w w' := by
  have H := Lib.hid hr
  clear hr
  have kc := fun (w : World) (C : Array Value) (n c : Nat) => Lib.run_convert_bytes_const (P := Tryd.prog) w 22 5 C n c Tryd.underlying22 Tryd.underlying5
  have kc2 : ∀ (w : World) (o : Obj) (C : Array Value) (n c : Nat), (convert 22 22 (.slice (some ⟨w.heap.size + 1, 0, none⟩) n c)).run Tryd.prog ((w.alloc o).alloc (.cells C 5)) = .ok (.slice (some ⟨w.heap.size + 1, 0, none⟩) n c) ((w.alloc o).alloc (.cells C 5 (C.size, C.size + 1))) := fun w o C n c => by
    have h := kc (w.alloc o) C n c
    rwa [show (w.alloc o).heap.size = w.heap.size + 1 by simp] at h
  go_enter Tryd.func9, Tryd.ntmps9
  go_wp2_with fail
  have hb0 : Below w.heap.size w ((w.alloc (.cells #[.int .u8 107] 5 (1, 2))).alloc (.cells #[.int .u8 97, .int .u8 98] 5 (2, 3))) := ((Below.refl _ _).alloc (Nat.le_refl _) _).alloc (by simp) _
  have hk : Sb ((w.alloc (.cells #[.int .u8 107] 5 (1, 2))).alloc (.cells #[.int .u8 97, .int .u8 98] 5 (2, 3))) (some ⟨w.heap.size, 0, none⟩) 1 [107] := ⟨rfl, fun _ => ⟨_, rfl, by simp; omega, fun j hj => by
    obtain rfl : j = 0 := by omega
    rw [addHead]
    exact (cell_of_row _ _ _ _ _ _ (heap_alloc2_old w _ _)).trans rfl⟩⟩
  have hab : Sb ((w.alloc (.cells #[.int .u8 107] 5 (1, 2))).alloc (.cells #[.int .u8 97, .int .u8 98] 5 (2, 3))) (some ⟨w.heap.size + 1, 0, none⟩) 2 [97, 98] := ⟨rfl, fun _ => ⟨_, rfl, by simp, fun j hj => by
    rw [addHead]
    have hj2 : j = 0 ∨ j = 1 := by omega
    rcases hj2 with rfl | rfl <;> exact (cell_of_row _ _ _ _ _ _ (heap_alloc2_new w _ _)).trans rfl⟩⟩
  refine (seal_any hdF hdF_ok (c := 1) (d := 2) _ (H.out.below hb0) hk (by unfold B8s; decide) (by omega) (by omega) hab (by unfold B8s; decide) (by omega)).mono ?_
  rintro e w1 ⟨A, n, c, rfl, hm1⟩
  rw [hdF_seal] at hm1
  obtain rfl : n = 32 := by have h1 := hm1.len; rw [dgS_len] at h1; simpa using h1.symm
  obtain ⟨⟨bb, bo, bx⟩, rfl⟩ := hm1.sb.addr (by omega)
  rw [hdF_seal]
  obtain ⟨c1, c2⟩ : 16 ≤ c ∧ c ≤ 9223372036854775807 := by
    have h1 := hm1.le
    have h2 := hm1.max
    unfold maxLen at h2
    omega
  have X1 := Lib.hid (show Below w.heap.size w w1 ∧ Sb w1 (some ⟨bb, bo, bx⟩) 32 (dgS [107] hdF [97, 98]) ∧ 32 ≤ c from ⟨hb0.trans (hm1.below.mono hb0.size), hm1.sb, hm1.le⟩)
  clear hm1 hk hab hb0 kc2
  go_wp2_with fail
  have b2 : Below w1.heap.size w1 (w1.alloc (.cells #[.int .u8 107] 5 (1, 2))) := (Below.refl _ _).alloc (Nat.le_refl _) _
  have hk : Sb (w1.alloc (.cells #[.int .u8 107] 5 (1, 2))) (some ⟨w1.heap.size, 0, none⟩) 1 [107] := ⟨rfl, fun _ => ⟨_, rfl, by simp, fun j hj => by
    obtain rfl : j = 0 := by omega
    rw [addHead]
    exact (cell_of_row _ _ _ _ _ _ (heap_alloc_new w1 _)).trans rfl⟩⟩
  have b02 := X1.out.1.trans (b2.mono X1.out.1.size)
  refine (open_any (c := 1) (d := c) _ (H.out.below b02) hk (by unfold B8s; decide) (by omega) (by omega) (X1.out.2.1.below b2) (dgS_b hdF_ok (by unfold B8s; decide)) (by omega) ⟨X1.out.2.2, by omega⟩).mono ?_
  rintro e w3 ⟨A3, n3, c3, rfl, hm3⟩
  rw [open_dg hdF_ok hdF_may (by simp)] at hm3 ⊢
  have X3 := Lib.hid (show Below w.heap.size w w3 ∧ Sb w3 (some ⟨bb, bo, bx⟩) 32 (dgS [107] hdF [97, 98]) from ⟨b02.trans (hm3.below.mono b02.size), (X1.out.2.1.below b2).below hm3.below⟩)
  clear hm3 hk b2 b02 X1 kc
  have hn1 : Hid (Blk (w3.alloc (.cells #[.int .u8 0, .bool false, .int .u32 0, .int .u64 0] 26)) w3.heap.size 26 (hdA hd0)) := Blk.new _ _ _
  go_upto_region 3 with (refine wpList_store_row rfl 26 (.tmp 3) (.tmp 20) rfl w3.heap.size (hdA hdF) rfl rfl 26 (hdA hd0) hn1.out infoH rfl (hdA_one _) ?_)
  obtain ⟨w4, hw4⟩ : ∃ w4, w4 = (w3.alloc (.cells #[.int .u8 0, .bool false, .int .u32 0, .int .u64 0] 26)).setRow w3.heap.size (hdA hdF) := ⟨_, rfl⟩
  have X4 := Lib.hid (show Below w.heap.size w w4 ∧ Sb w4 (some ⟨bb, bo, bx⟩) 32 (dgS [107] hdF [97, 98]) from by
    have h1 : Below w3.heap.size w3 w4 := by rw [hw4]; exact below_setRow ((Below.refl _ _).alloc (Nat.le_refl _) _) (Nat.le_refl _) _
    exact ⟨X3.out.1.trans (h1.mono X3.out.1.size), X3.out.2.below h1⟩)
  rw [← hw4]
  clear hw4 hn1 X3
  go_wp2_with fail
  have b5 : Below w4.heap.size w4 (w4.alloc (.cells #[.int .u8 4, .int .u8 0, .int .u8 0, .int .u8 0, .int .u8 0, .int .u8 1, .int .u8 0, .int .u8 0, .int .u8 0, .int .u8 0, .int .u8 0, .int .u8 0, .int .u8 0, .int .u8 5, .int .u8 97, .int .u8 98] 5)) := (Below.refl _ _).alloc (Nat.le_refl _) _
  have hl : Sb (w4.alloc (.cells #[.int .u8 4, .int .u8 0, .int .u8 0, .int .u8 0, .int .u8 0, .int .u8 1, .int .u8 0, .int .u8 0, .int .u8 0, .int .u8 0, .int .u8 0, .int .u8 0, .int .u8 0, .int .u8 5, .int .u8 97, .int .u8 98] 5)) (some ⟨w4.heap.size, 0, none⟩) 16 [4, 0, 0, 0, 0, 1, 0, 0, 0, 0, 0, 0, 0, 5, 97, 98] :=
    Sb.own (World.ownsRow_lit (size := 1) (e := 5) w4 #[.int .u8 4, .int .u8 0, .int .u8 0, .int .u8 0, .int .u8 0, .int .u8 1, .int .u8 0, .int .u8 0, .int .u8 0, .int .u8 0, .int .u8 0, .int .u8 0, .int .u8 0, .int .u8 5, .int .u8 97, .int .u8 98] 16 (Nat.le_refl _) (by unfold maxLen; omega) rfl)
  refine (refSame_any ((X4.out.2.below b5).front (k := 16) (by omega)) hl (by omega) (by omega)).mono ?_
  rintro e w6 ⟨rfl, q6, rfl⟩
  rw [hdF_head, show decide (([4, 0, 0, 0, 0, 1, 0, 0, 0, 0, 0, 0, 0, 5, 97, 98] : List Int) = [4, 0, 0, 0, 0, 1, 0, 0, 0, 0, 0, 0, 0, 5, 97, 98]) = true from by simp]
  have b7 := below_drewN' (X4.out.1.trans (b5.mono X4.out.1.size)) q6
  clear X4 b5 hl
  go_wp2_with fail
  go_ret
  exact ⟨rfl, b7⟩
end Go.Proofs.YtogaakokplobaaaDoor
