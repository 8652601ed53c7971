/-
  The contracts of laid and of withLength.
-/
import Derived.Test.YtogaakokplobaaaDoorShaSpread
namespace Go.Proofs.YtogaakokplobaaaDoor
open Go.RowKit

theorem info32 : (Tryd.prog.info? 46).map (·.size) = some 32 := by kernel_rfl

set_option maxRecDepth 100000 in
theorem laid_any (v : List Int) (w : World) (hv : v.length = 8) (hvw : U32s v) :
    Calls Tryd.prog 53 #[.agg (u32A v)] w fun e w' => e = .returned (.agg (u8A (outK v 32))) ∧ Below w.heap.size w w' := by
  have H := Lib.hid (And.intro hv hvw)
  clear hv hvw
  go_enter Tryd.func53, Tryd.ntmps53
  go_wp2_with fail
  go_loopw [5] (fun i wr => ∃ k : Nat, k ≤ 32 ∧ i = .int .i64 k ∧ Blk wr w.heap.size 78 (u32A v) ∧ Blk wr (w.heap.size + 1 + 1) 46 (u8A (outK v k)) ∧ Blk wr (w.heap.size + 1) 46 (u8A (List.replicate 32 0)) ∧ Below w.heap.size w wr) (fun i _ => 32 - (intOf i).toNat)
  case atStart =>
    exact ⟨0, by omega, rfl, ((Blk.new _ _ _).alloc _).alloc _, Blk.new' (by simp) _ _, (Blk.new' (by simp) _ _).alloc _, (((Below.refl _ _).alloc (Nat.le_refl _) _).alloc (by simp) _).alloc (by simp; omega) _⟩
  case round =>
    obtain ⟨k, hk, rfl, hv, hblk, hres, hbel⟩ := hrel
    by_cases hlt : k < 32
    · have hkl : (k : Int) < 32 := by omega
      obtain ⟨x, hx⟩ : ∃ x, x = v.getD (k / 4) 0 := ⟨_, rfl⟩
      have hxw : W1 x := by rw [hx]; exact H.out.2.at _
      have hq : k / 4 < 8 := by omega
      have hcell : wr.cell? ⟨w.heap.size, k / 4, none⟩ = some (.int .u32 x) := by rw [hx]; exact hv.cell32 (by rw [H.out.1]; omega)
      have hc2 : wr.cell? ⟨w.heap.size + 1 + 1, k, none⟩ = some (.int .u8 ((outK v k).getD k 0)) := hblk.cell8 (by rw [outK_len]; omega)
      have hfree := hblk.free k
      have X := Lib.hid (And.intro hv (And.intro hblk (And.intro hres (And.intro hbel hx))))
      obtain ⟨x1, x2⟩ := hxw
      clear hv hblk hres hbel hx
      go_wp2_with fail
      go_roundw
      case rel =>
        refine ⟨k + 1, by omega, by go_num, X.out.1.other _ (by simp; omega), ?_, X.out.2.2.1.other _ (by simp), X.out.2.2.2.1.setCell (by simp; omega) _⟩
        have h1 := X.out.2.1.set8 k (x / 2 ^ (24 - 8 * (k % 4)) % 256)
        rw [X.out.2.2.2.2] at h1 ⊢
        exact h1
      case measure => simp [intOf]; omega
    · obtain rfl : k = 32 := by omega
      have Y := Lib.hid (And.intro hblk (And.intro hres hbel))
      clear hblk hv hres hbel hlt hk
      go_wp2_with (first
        | (refine wpList_load_row rfl 46 (.tmp 3) rfl (w.heap.size + 1 + 1) rfl 46 (u8A (outK v 32)) (0, 0) _ Y.out.1 Tryd.underlying46 rfl (by rw [u8A_size, outK_len]; exact info32) ?_)
        | (refine wpList_store_row rfl 46 (.tmp 2) (.tmp 21) rfl (w.heap.size + 1) (u8A (outK v 32)) rfl rfl 46 (u8A (List.replicate 32 0)) Y.out.2.1 (by rw [u8A_size, outK_len]; exact info32) (by rw [u8A_size, u8A_size, outK_len]; simp) (u8A_one _) ?_))
      refine bodyPost_ret (v := .agg (u8A (outK v 32))) (results_cell_row Tryd.results53 _ _ (w.heap.size + 1) 46 _ (0, 0) _ rfl (Y.out.2.1.setRow _) Tryd.underlying46 rfl (by rw [u8A_size, outK_len]; exact info32)) rfl ⟨rfl, below_setRow Y.out.2.2 (by omega) _⟩

set_option maxRecDepth 100000 in
theorem withLength_any (bs : List Int) (n : Nat) (w : World) (hb : bs.length = 64) (hn : n ≤ 1125899906842624) :
    Calls Tryd.prog 59 #[.agg (u8A bs), .int .u64 n] w fun e w' => e = .returned (.agg (u8A (lenK bs n 8))) ∧ Below w.heap.size w w' := by
  have H := Lib.hid hb
  clear hb
  go_enter Tryd.func59, Tryd.ntmps59
  go_wp2_with fail
  go_loopw [6] (fun i wr => ∃ k : Nat, k ≤ 8 ∧ i = .int .i64 k ∧ Blk wr w.heap.size 80 (u8A (lenK bs n k)) ∧ Blk wr (w.heap.size + 1) 80 (u8A (List.replicate 64 0)) ∧ Below w.heap.size w wr) (fun i _ => 8 - (intOf i).toNat)
  case atStart =>
    exact ⟨0, by omega, rfl, (Blk.new _ _ _).alloc _, Blk.new' (by simp) _ _, ((Below.refl _ _).alloc (Nat.le_refl _) _).alloc (by simp) _⟩
  case round =>
    obtain ⟨k, hk, rfl, hblk, hres, hbel⟩ := hrel
    by_cases hlt : k < 8
    · have hkl : (k : Int) < 8 := by omega
      have hc2 : wr.cell? ⟨w.heap.size, 63 - k, none⟩ = some (.int .u8 ((lenK bs n k).getD (63 - k) 0)) := hblk.cell8 (by rw [lenK_len, H.out]; omega)
      have hfree := hblk.free (63 - k)
      have X := Lib.hid (And.intro hblk (And.intro hres hbel))
      clear hblk hres hbel
      go_wp2_with fail
      go_roundw
      case rel => exact ⟨k + 1, by omega, by go_num, X.out.1.set8 (63 - k) _, X.out.2.1.other _ (by simp), X.out.2.2.setCell (by simp) _⟩
      case measure => simp [intOf]; omega
    · obtain rfl : k = 8 := by omega
      have hl : (lenK bs n 8).length = 64 := by rw [lenK_len, H.out]
      have Y := Lib.hid (And.intro hblk (And.intro hres (And.intro hbel hl)))
      clear hblk hres hbel hlt hk hl
      go_wp2_with (first
        | (refine wpList_load_row rfl 80 (.tmp 2) rfl w.heap.size rfl 80 (u8A (lenK bs n 8)) (0, 0) _ Y.out.1 Tryd.underlying80 rfl (by rw [u8A_size, Y.out.2.2.2]; exact infoB) ?_)
        | (refine wpList_store_row rfl 80 (.tmp 4) (.tmp 19) rfl (w.heap.size + 1) (u8A (lenK bs n 8)) rfl rfl 80 (u8A (List.replicate 64 0)) Y.out.2.1 (by rw [u8A_size, Y.out.2.2.2]; exact infoB) (by rw [u8A_size, u8A_size, Y.out.2.2.2]; simp) (u8A_one _) ?_))
      refine bodyPost_ret (v := .agg (u8A (lenK bs n 8))) (results_cell_row Tryd.results59 _ _ (w.heap.size + 1) 80 _ (0, 0) _ rfl (Y.out.2.1.setRow _) Tryd.underlying80 rfl (by rw [u8A_size, Y.out.2.2.2]; exact infoB)) rfl ⟨rfl, below_setRow Y.out.2.2.1 (by omega) _⟩

end Go.Proofs.YtogaakokplobaaaDoor
