/-
  The contract of fixed: the chapter's example.
-/
import Derived.Test.YtaekcndgodhihaaDoorMacCode
import Derived.Test.YtaekcndgodhihaaDoorMacKat
import Derived.Test.YtaekcndgodhihaaDoorMacHold
import Derived.Deep.QuietTactic
import Derived.BigQuiet
namespace Go.Proofs.YtaekcndgodhihaaDoor
open Go.RowKit

set_option maxRecDepth 100000 in
set_option maxHeartbeats 1600000 in
theorem macFixed_any (w : World) (hr : Roots w) :
    Calls Tryd.prog 9 #[] w fun e w' => e = .returned (.bool true) ∧ Below w.heap.size w w' := by
  have H := Lib.hid hr
  clear hr
  go_enter Tryd.func9, Tryd.ntmps9
  go_wp2_with fail
  refine (code_any (key := []) (L := []) w H.out (Sb.nil _ _) (fun _ h => by cases h) (by omega) (by omega) (Ps.zero _) (by omega) (by simp)).mono ?_
  rintro e w1 ⟨rfl, hb1⟩
  have K := Lib.hid katMac
  obtain ⟨s, hs⟩ : ∃ s, s = macS [] ([] : List (List Int)).flatten := ⟨_, rfl⟩
  rw [← hs]
  rw [show macS [] [] = s from hs.symm] at K
  have hl := Lib.hid (show s.length = 32 ∧ U8s s from ⟨by rw [hs]; exact macS_len _ _, by rw [hs]; exact macS_b _ _⟩)
  clear hs
  have hn1 : Hid (Blk (w1.alloc (.cells (u8A (List.replicate 32 0)) 28)) w1.heap.size 28 (u8A (List.replicate 32 0))) := Blk.new _ _ _
  go_upto_region 2 with (refine wpList_store_row rfl 28 (.tmp 1) (.tmp 2) rfl w1.heap.size (u8A s) rfl rfl 28 (u8A (List.replicate 32 0)) hn1.out (by rw [u8A_size, hl.out.1]; exact info32) (by rw [u8A_size, u8A_size, hl.out.1]; simp) (u8A_one _) ?_)
  obtain ⟨w2, hw2⟩ : ∃ w2, w2 = (w1.alloc (.cells (u8A (List.replicate 32 0)) 28)).setRow w1.heap.size (u8A s) := ⟨_, rfl⟩
  have H2 := Lib.hid (show Blk w2 w1.heap.size 28 (u8A s) ∧ Below w.heap.size w w2 from by
    rw [hw2]
    exact ⟨hn1.out.setRow _, below_setRow (hb1.alloc hb1.size _) hb1.size _⟩)
  have hw2' : w2 = (w1.alloc (.cells #[Value.int .u8 0, Value.int .u8 0, Value.int .u8 0, Value.int .u8 0, Value.int .u8 0, Value.int .u8 0, Value.int .u8 0, Value.int .u8 0, Value.int .u8 0, Value.int .u8 0, Value.int .u8 0, Value.int .u8 0, Value.int .u8 0, Value.int .u8 0, Value.int .u8 0, Value.int .u8 0, Value.int .u8 0, Value.int .u8 0, Value.int .u8 0, Value.int .u8 0, Value.int .u8 0, Value.int .u8 0, Value.int .u8 0, Value.int .u8 0, Value.int .u8 0, Value.int .u8 0, Value.int .u8 0, Value.int .u8 0, Value.int .u8 0, Value.int .u8 0, Value.int .u8 0, Value.int .u8 0] 28)).setRow w1.heap.size (u8A s) := hw2
  rw [← hw2']
  clear hw2 hw2' hn1 hb1
  have c0 : w2.cell? ⟨w1.heap.size, 0, none⟩ = some (.int .u8 182) := by rw [← K.out.1]; exact H2.out.1.cell8 (by rw [hl.out.1]; omega)
  have c1 : w2.cell? ⟨w1.heap.size, 1, none⟩ = some (.int .u8 19) := by rw [← K.out.2.1]; exact H2.out.1.cell8 (by rw [hl.out.1]; omega)
  have c2 : w2.cell? ⟨w1.heap.size, 31, none⟩ = some (.int .u8 173) := by rw [← K.out.2.2]; exact H2.out.1.cell8 (by rw [hl.out.1]; omega)
  have HSB := Lib.hid (show Sb w2 (some ⟨w1.heap.size, 0, none⟩) 32 s from ⟨hl.out.1, fun _ => ⟨_, rfl, H2.out.1.lt, fun k hk => by rw [addHead]; exact H2.out.1.cell8 (by rw [hl.out.1]; exact hk)⟩⟩)
  have HCALL : Hid (∀ q, Calls Tryd.prog 18 #[.slice (some ⟨w1.heap.size, 0, none⟩) 32 32, .slice (some ⟨w1.heap.size, 0, none⟩) 32 32] (w2.drewN q) fun e w' => e = .returned (.bool true) ∧ ∃ q', w' = (w2.drewN q).drewN q') := by
    show ∀ q, _
    intro q
    refine (macSame_any (w := w2.drewN q) (HSB.out.drewN q) (HSB.out.drewN q) hl.out.2 hl.out.2 (by omega) (by omega)).mono ?_
    rintro e w' ⟨rfl, h⟩
    exact ⟨by simp, h⟩
  go_wp2_with fail
  go_quiet ((go_at_call 18; exact Calls.quiet_of (HCALL.out _)))
  go_wp2_with fail
  go_ret
  exact ⟨rfl, below_drewN' H2.out.2 _⟩

end Go.Proofs.YtaekcndgodhihaaDoor
