/-
  The contract of spread: a block's words.
-/
import Derived.Test.YtogaakokplobaaaDoorShaLeaf
import Derived.BigQuiet
import Derived.BigRegion
import Derived.Deep.QuietTactic
import Derived.StillTailTactics
namespace Go.Proofs.YtogaakokplobaaaDoor
open Go.RowKit

theorem info64 : (Tryd.prog.info? 87).map (·.size) = some 64 := by kernel_rfl
theorem infoB : (Tryd.prog.info? 80).map (·.size) = some 64 := by kernel_rfl
theorem infoW : (Tryd.prog.info? 78).map (·.size) = some 8 := by kernel_rfl
theorem info1 : (Tryd.prog.info? 5).map (·.size) = some 1 := by kernel_rfl
theorem info1w : (Tryd.prog.info? 23).map (·.size) = some 1 := by kernel_rfl
theorem ag8 (w : World) : (isAgg 5).run Tryd.prog w = .ok false w := by kernel_rfl
theorem ag32 (w : World) : (isAgg 23).run Tryd.prog w = .ok false w := by kernel_rfl

set_option maxRecDepth 100000 in
theorem spread_any (bs : List Int) (w : World) (hb : bs.length = 64) (h8 : B8s bs) :
    Calls Tryd.prog 57 #[.agg (u8A bs)] w fun e w' => e = .returned (.agg (u32A (sched bs 48))) ∧ Below w.heap.size w w' := by
  have HB := Lib.hid (And.intro hb h8)
  have hB0 : Hid (Blk (w.alloc (.cells (u8A bs) 80)) w.heap.size 80 (u8A bs)) := Blk.new _ _ _
  have hz8 : Hid ((Tryd.prog.info? 80).map (·.size) = some (u8A bs).size) := by show _ = _; rw [u8A_size, hb]; exact infoB
  clear hb h8
  go_enter Tryd.func57, Tryd.ntmps57
  go_wp2_with (refine wpList_load_row rfl 80 (.tmp 1) rfl w.heap.size rfl 80 (u8A bs) (0, 0) _ ((hB0.out.alloc _).alloc _) Tryd.underlying80 rfl hz8.out ?_)
  go_loopw [12] (fun i wr => ∃ k : Nat, k ≤ 64 ∧ i = .int .i64 k ∧ Blk wr (w.heap.size + 1 + 1) 87 (u32A (ldW bs k)) ∧ Blk wr (w.heap.size + 1) 87 (u32A (List.replicate 64 0)) ∧ Below w.heap.size w wr) (fun i _ => 64 - (intOf i).toNat)
  case atStart =>
    refine ⟨0, by omega, rfl, ?_, ?_, ((Below.refl _ _).alloc (Nat.le_refl _) _).alloc (by simp) _ |>.alloc (by simp; omega) _⟩
    · exact Blk.new' (by simp) _ _
    · exact (Blk.new' (by simp) _ _).alloc _
  case round =>
    obtain ⟨k, hk, rfl, hblk, hres, hbel⟩ := hrel
    by_cases hlt : k < 64
    · have hkl : (k : Int) < 64 := by omega
      obtain ⟨z, hz⟩ : ∃ z, z = bs.getD k 0 := ⟨_, rfl⟩
      obtain ⟨v, hv⟩ : ∃ v, v = (ldW bs k).getD (k / 4) 0 := ⟨_, rfl⟩
      have hz8 : 0 ≤ z ∧ z ≤ 255 := by rw [hz]; exact HB.out.2.at k
      have hv8 : 0 ≤ v ∧ v ≤ 4294967295 := by rw [hv]; exact (ldW_w bs k).at _
      obtain ⟨hz1, hz2⟩ := hz8
      obtain ⟨hv1, hv2⟩ := hv8
      have hidx : ∀ w, (Instr.index 80 (.agg (u8A bs)) (.int .i64 (k : Int))).run Tryd.prog w = .ok (.int .u8 z) w := fun w => by
        rw [hz]; exact run_index_one w _ _ 64 _ k _ Tryd.underlying80 ag8 info1 hlt (u8A_get (by rw [HB.out.1]; exact hlt))
      have hcell : wr.cell? ⟨w.heap.size + 1 + 1, k / 4, none⟩ = some (.int .u32 v) := by rw [hv]; exact hblk.cell32 (by rw [ldW_len]; omega)
      have hfree := hblk.free (k / 4)
      have X := Lib.hid (And.intro hblk (And.intro hres (And.intro hbel (And.intro hz hv))))
      have hq : k / 4 < 64 := by omega
      clear hblk hres hbel hz hv
      go_wp2
      go_roundw
      case rel =>
        refine ⟨k + 1, by omega, by go_num, ?_, X.out.2.1.other _ (by simp), X.out.2.2.1.setCell (by simp; omega) _⟩
        have := X.out.1.set32 (k / 4) (bits .or .u32 (v * 256 % 4294967296) z)
        rw [X.out.2.2.2.1] at this ⊢
        rw [X.out.2.2.2.2] at this ⊢
        exact this
      case measure => simp [intOf]; omega
    · have X0 := Lib.hid (show Blk wr (w.heap.size + 1 + 1) 87 (u32A (sched bs 0)) ∧ Blk wr (w.heap.size + 1) 87 (u32A (List.replicate 64 0)) ∧ Below w.heap.size w wr from by
        refine ⟨?_, hres, hbel⟩
        have e : k = 64 := by omega
        rw [e, ldW_all bs HB.out.2] at hblk
        exact hblk)
      have hge : (64 : Int) ≤ (k : Int) := by omega
      clear hblk hres hbel hk hlt
      go_wp2_with fail
      clear hge
      go_loopw [6] (fun i wq => ∃ t : Nat, 16 ≤ t ∧ t ≤ 64 ∧ i = .int .i64 t ∧ Blk wq (w.heap.size + 1 + 1) 87 (u32A (sched bs (t - 16))) ∧ Blk wq (w.heap.size + 1) 87 (u32A (List.replicate 64 0)) ∧ Below w.heap.size w wq) (fun i _ => 64 - (intOf i).toNat)
      case atStart => exact ⟨16, by omega, by omega, rfl, X0.out.1, X0.out.2.1, X0.out.2.2⟩
      case round =>
        clear X0
        obtain ⟨t, ht, ht2, rfl, hblk, hres, hbel⟩ := hrel
        by_cases hlt2 : t < 64
        · have hkl : (t : Int) < 64 := by omega
          have hkl2 : (16 : Int) ≤ t := by omega
          obtain ⟨l, hl⟩ : ∃ l, l = sched bs (t - 16) := ⟨_, rfl⟩
          rw [← hl] at hblk
          have hll : l.length = 64 := by rw [hl]; exact sched_len _ _
          have hll2 := Lib.hid (show t < l.length by omega)
          have hlw : U32s l := by rw [hl]; exact sched_w _ HB.out.2 _
          obtain ⟨x, hx⟩ : ∃ x, x = l.getD (t - 15) 0 := ⟨_, rfl⟩
          obtain ⟨y, hy⟩ : ∃ x, x = l.getD (t - 2) 0 := ⟨_, rfl⟩
          obtain ⟨u, hu⟩ : ∃ x, x = l.getD (t - 16) 0 := ⟨_, rfl⟩
          obtain ⟨v, hv⟩ : ∃ x, x = l.getD (t - 7) 0 := ⟨_, rfl⟩
          have hxw : W1 x := by rw [hx]; exact hlw.at _
          have hyw : W1 y := by rw [hy]; exact hlw.at _
          have huw : W1 u := by rw [hu]; exact hlw.at _
          have hvw : W1 v := by rw [hv]; exact hlw.at _
          have c1 : wr.cell? ⟨w.heap.size + 1 + 1, t - 15, none⟩ = some (.int .u32 x) := by rw [hx]; exact hblk.cell32 (by omega)
          have c2 : wr.cell? ⟨w.heap.size + 1 + 1, t - 2, none⟩ = some (.int .u32 y) := by rw [hy]; exact hblk.cell32 (by omega)
          have c3 : wr.cell? ⟨w.heap.size + 1 + 1, t - 16, none⟩ = some (.int .u32 u) := by rw [hu]; exact hblk.cell32 (by omega)
          have c4 : wr.cell? ⟨w.heap.size + 1 + 1, t - 7, none⟩ = some (.int .u32 v) := by rw [hv]; exact hblk.cell32 (by omega)
          have hfree := hblk.free t
          have X := Lib.hid (And.intro hblk (And.intro hres (And.intro hbel (And.intro hl (And.intro hx (And.intro hy (And.intro hu hv)))))))
          have XW := Lib.hid (And.intro hxw hyw)
          obtain ⟨x1, x2⟩ := hxw
          obtain ⟨y1, y2⟩ := hyw
          obtain ⟨u1, u2⟩ := huw
          obtain ⟨v1, v2⟩ := hvw
          clear hblk hres hbel hl hx hy hu hv hlw hll
          go_wp2_with fail
          go_quiet (fail)
          go_wp2_with fail
          refine (right_any x 7 _ XW.out.1 (by omega) (by omega)).mono ?_
          rintro e w' ⟨rfl, rfl⟩
          go_wp2_with fail
          refine (right_any x 18 _ XW.out.1 (by omega) (by omega)).mono ?_
          rintro e w' ⟨rfl, rfl⟩
          go_wp2_with fail
          refine (right_any y 17 _ XW.out.2 (by omega) (by omega)).mono ?_
          rintro e w' ⟨rfl, rfl⟩
          go_wp2_with fail
          refine (right_any y 19 _ XW.out.2 (by omega) (by omega)).mono ?_
          rintro e w' ⟨rfl, rfl⟩
          go_wp2_with fail
          have d3 : (wr.drewN nq).cell? ⟨w.heap.size + 1 + 1, t - 16, none⟩ = some (.int .u32 u) := c3
          have d4 : (wr.drewN nq).cell? ⟨w.heap.size + 1 + 1, t - 7, none⟩ = some (.int .u32 v) := c4
          have df : (wr.drewN nq).frozen? ⟨w.heap.size + 1 + 1, t, none⟩ = false := hfree
          have XB := Lib.hid (show Blk (wr.drewN nq) (w.heap.size + 1 + 1) 87 (u32A l) ∧ Blk (wr.drewN nq) (w.heap.size + 1) 87 (u32A (List.replicate 64 0)) ∧ Below w.heap.size w (wr.drewN nq) from ⟨X.out.1.drewN _, X.out.2.1.drewN _, below_drewN' X.out.2.2.1 _⟩)
          have dt : (wr.drewN nq).cell? ⟨w.heap.size + 1 + 1, t, none⟩ = some (.int .u32 (l.getD t 0)) := X.out.1.cell32 hll2.out
          generalize wr.drewN nq = wq at d3 d4 dt df XB ⊢
          clear c1 c2 c3 c4 hfree
          go_region
          go_wp2_with fail
          go_roundw
          case rel =>
            refine ⟨t + 1, by omega, by omega, by go_num, ?_, (XB.out.2.1.other _ (by simp)).drew, (XB.out.2.2.setCell (by simp; omega) _).drew⟩
            have h1 := (XB.out.1.set32 t (nextW l (t - 16))).drew
            have e1 : t + 1 - 16 = (t - 16) + 1 := by omega
            have e2 : 16 + (t - 16) = t := by omega
            rw [e1]
            show Blk _ _ _ (u32A ((sched bs (t - 16)).set (16 + (t - 16)) (nextW (sched bs (t - 16)) (t - 16))))
            rw [e2, ← X.out.2.2.2.1]
            have e3 : nextW l (t - 16) = (u + v + bits .xor .u32 (bits .xor .u32 (rotL x 7) (rotL x 18)) (x / 8) + bits .xor .u32 (bits .xor .u32 (rotL y 17) (rotL y 19)) (y / 1024)) % 4294967296 := by
              unfold nextW smallS0 smallS1
              have f1 : t - 16 + 1 = t - 15 := by omega
              have f2 : t - 16 + 9 = t - 7 := by omega
              have f3 : t - 16 + 14 = t - 2 := by omega
              rw [f1, f2, f3, ← X.out.2.2.2.2.1, ← X.out.2.2.2.2.2.1, ← X.out.2.2.2.2.2.2.1, ← X.out.2.2.2.2.2.2.2]
              omega
            rw [e3] at h1 ⊢
            exact h1
          case measure => simp [intOf]; omega
        · obtain rfl : t = 64 := by omega
          have X0 := Lib.hid (And.intro hblk (And.intro hres hbel))
          clear hblk hres hbel hlt2 ht ht2
          go_wp2_with (first
            | (refine wpList_load_row rfl 87 (.tmp 3) rfl (w.heap.size + 1 + 1) rfl 87 (u32A (sched bs 48)) (0, 0) _ X0.out.1 Tryd.underlying87 rfl (by rw [u32A_size, sched_len]; exact info64) ?_)
            | (refine wpList_store_row rfl 87 (.tmp 2) (.tmp 71) rfl (w.heap.size + 1) (u32A (sched bs 48)) rfl rfl 87 (u32A (List.replicate 64 0)) X0.out.2.1 (by rw [u32A_size, sched_len]; exact info64) (by rw [u32A_size, u32A_size, sched_len]; simp) (u32A_one _) ?_))
          refine bodyPost_ret (v := .agg (u32A (sched bs 48))) (results_cell_row Tryd.results57 _ _ (w.heap.size + 1) 87 _ (0, 0) _ rfl (X0.out.2.1.setRow _) Tryd.underlying87 rfl (by rw [u32A_size, sched_len]; exact info64)) rfl ⟨rfl, below_setRow X0.out.2.2 (by omega) _⟩

end Go.Proofs.YtogaakokplobaaaDoor
