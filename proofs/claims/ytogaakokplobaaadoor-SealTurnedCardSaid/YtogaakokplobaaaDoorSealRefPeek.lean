/-
  The contract of the reference's Peek.
-/
import Derived.Test.YtogaakokplobaaaDoorSealPeekAny
namespace Go.Proofs.YtogaakokplobaaaDoor
open Go.RowKit

theorem cell_alloc_old {w : World} {a : Addr} {o : Obj} (h : a.block < w.heap.size) : (w.alloc o).cell? a = w.cell? a := World.cell?_alloc_lt _ _ _ h
theorem val_bound {zs : List Int} (hu : U8s zs) {p j : Nat} (hj : j ≤ 7) : 0 ≤ valL 0 ((zs.drop p).take j) ∧ valL 0 ((zs.drop p).take j) ≤ 72057594037927935 := by
  have b : B8s ((zs.drop p).take j) := fun z hz => hu z (List.mem_of_mem_drop (List.mem_of_mem_take hz))
  have v := valL_bound b 0 (by omega)
  have h1 : (256 : Nat) ^ ((zs.drop p).take j).length ≤ 256 ^ 7 := Nat.pow_le_pow_right (by omega) (by simp; omega)
  have h2 : ((256 ^ ((zs.drop p).take j).length : Nat) : Int) ≤ ((256 ^ 7 : Nat) : Int) := Int.ofNat_le.2 h1
  have h3 : ((256 ^ ((zs.drop p).take j).length : Nat) : Int) = (256 : Int) ^ ((zs.drop p).take j).length := by simp
  have h4 : ((256 ^ 7 : Nat) : Int) = 72057594037927936 := by rfl
  refine ⟨v.1, ?_⟩
  have := v.2
  omega
theorem val_next {zs : List Int} {p j : Nat} (h : p + j < zs.length) : valL 0 ((zs.drop p).take (j + 1)) = valL 0 ((zs.drop p).take j) * 256 + zs.getD (p + j) 0 := by
  rw [valL_step (by simp; omega)]
  congr 1
  simp [List.getD]

set_option maxHeartbeats 3200000 in
theorem refPeek_any {B : Option Addr} {n d : Nat} {zs : List Int} (w : World) (hb : Sb w B n zs) (hu : U8s zs) (hn : n ≤ 140737488351232) :
    Calls Tryd.prog 16 #[.slice B n d] w (PeekPost zs w) := by
  have hl := hb.len
  unfold PeekPost
  by_cases h1 : (n : Int) < 30
  · rw [peek_short (by omega)]
    clear hl hb hu
    have hres : Blk (w.alloc (.cells #[.int .u8 0, .bool false, .int .u32 0, .int .u64 0] 26)) w.heap.size 26 (hdA hd0) := Blk.new _ _ _
    have H := Lib.hid (And.intro hres (show Below w.heap.size w (w.alloc (.cells #[.int .u8 0, .bool false, .int .u32 0, .int .u64 0] 26)) from (Below.refl _ _).alloc (Nat.le_refl _) _))
    clear hres
    go_enter Tryd.func16, Tryd.ntmps16
    go_wp2_with fail
    exact bodyPost_ret (v := .tuple #[.agg (hdA hd0), .int .i64 2]) (results_cs Tryd.results16 _ _ w.heap.size 26 _ (0, 0) _ rfl H.out.1 Tryd.underlying26 rfl infoH _ rfl) rfl ⟨rfl, H.out.2⟩
  by_cases h2 : (542 : Int) < n
  · rw [peek_long (by omega)]
    clear hl hb hu
    have hres : Blk (w.alloc (.cells #[.int .u8 0, .bool false, .int .u32 0, .int .u64 0] 26)) w.heap.size 26 (hdA hd0) := Blk.new _ _ _
    have H := Lib.hid (And.intro hres (show Below w.heap.size w (w.alloc (.cells #[.int .u8 0, .bool false, .int .u32 0, .int .u64 0] 26)) from (Below.refl _ _).alloc (Nat.le_refl _) _))
    clear hres
    go_enter Tryd.func16, Tryd.ntmps16
    go_wp2_with fail
    exact bodyPost_ret (v := .tuple #[.agg (hdA hd0), .int .i64 4]) (results_cs Tryd.results16 _ _ w.heap.size 26 _ (0, 0) _ rfl H.out.1 Tryd.underlying26 rfl infoH _ rfl) rfl ⟨rfl, H.out.2⟩
  have hn30 : 30 ≤ n := by omega
  have hn542 : n ≤ 542 := by omega
  obtain ⟨⟨bb, bo, bx⟩, rfl⟩ := hb.addr (by omega)
  obtain rfl : bx = none := spot_none (by have := hb.cell (k := 0) (by omega); exact this)
  obtain ⟨w0, hw0⟩ : ∃ w0, w0 = w.alloc (.cells #[.int .u8 0, .bool false, .int .u32 0, .int .u64 0] 26) := ⟨_, rfl⟩
  have X0 := Lib.hid (show Below w.heap.size w w0 ∧ Blk w0 w.heap.size 26 (hdA hd0) ∧ Sb w0 (some ⟨bb, bo, none⟩) n zs from by rw [hw0]; exact ⟨(Below.refl _ _).alloc (Nat.le_refl _) _, Blk.new _ _ _, hb.alloc _⟩)
  obtain ⟨y0, hy0⟩ : ∃ y, y = zs.getD 0 0 := ⟨_, rfl⟩
  obtain ⟨y1, hy1⟩ : ∃ y, y = zs.getD 1 0 := ⟨_, rfl⟩
  obtain ⟨ep, hep⟩ : ∃ y, y = (readH zs).e := ⟨_, rfl⟩
  obtain ⟨sq, hsq⟩ : ∃ y, y = (readH zs).s := ⟨_, rfl⟩
  have HH := Lib.hid (show readH zs = ⟨y0, y1 == 1, ep, sq⟩ from head_ext hy0.symm (by rw [hy1]; rfl) hep.symm hsq.symm)
  have hg1 := hu.getD 1
  have hok := readH_ok hu
  have HB := Lib.hid (show (0 ≤ ep ∧ ep ≤ 4294967295) ∧ (0 ≤ sq ∧ sq ≤ 18446744073709551615) from by rw [hep, hsq]; exact ⟨⟨hok.e0, hok.e1⟩, hok.s0, hok.s1⟩)
  have HP := Lib.hid (show ((decide (y1 ≤ 1) && mayH ⟨y0, y1 == 1, ep, sq⟩) = false → peekS zs = (hd0, 3)) ∧ ((decide (y1 ≤ 1) && mayH ⟨y0, y1 == 1, ep, sq⟩) = true → peekS zs = (⟨y0, y1 == 1, ep, sq⟩, 0)) from by
    rw [← HH.out, hy1]
    exact ⟨fun e => peek_bad (by omega) (by omega) e, fun e => peek_good (by omega) (by omega) e⟩)
  have HV := Lib.hid (show valL 0 ((zs.drop 2).take 4) = ep ∧ valL 0 ((zs.drop 6).take 8) = sq ∧ U8s zs ∧ zs.length = n from ⟨hep.symm, hsq.symm, hu, hl⟩)
  have d0 : w0.cell? ⟨bb, bo, none⟩ = some (.int .u8 y0) := (X0.out.2.2.cell (k := 0) (by omega)).trans (by rw [hy0])
  have d1 : w0.cell? ⟨bb, bo + 1, none⟩ = some (.int .u8 y1) := (X0.out.2.2.cell (k := 1) (by omega)).trans (by rw [hy1])
  have hblt : bb < w0.heap.size := X0.out.2.2.lt (by omega)
  have HZ := Lib.hid (show Below w.heap.size w (w0.alloc (.cells #[.int .u8 y0, .bool (y1 == 1), .int .u32 0, .int .u64 0] 26)).drew ∧ Blk (w0.alloc (.cells #[.int .u8 y0, .bool (y1 == 1), .int .u32 0, .int .u64 0] 26)).drew w.heap.size 26 (hdA hd0) ∧ Blk (w0.alloc (.cells #[.int .u8 y0, .bool (y1 == 1), .int .u32 0, .int .u64 0] 26)).drew w0.heap.size 26 #[.int .u8 y0, .bool (y1 == 1), .int .u32 0, .int .u64 0] ∧ Sb (w0.alloc (.cells #[.int .u8 y0, .bool (y1 == 1), .int .u32 0, .int .u64 0] 26)).drew (some ⟨bb, bo, none⟩) n zs from
    ⟨(X0.out.1.alloc X0.out.1.size _).drew, (X0.out.2.1.alloc _).drew, (Blk.new _ _ _).drew, (X0.out.2.2.alloc _).drew⟩)
  have HS0 := Lib.hid hb
  have HN := Lib.hid hn30
  have hlt0 := Lib.hid (show w.heap.size < w0.heap.size from X0.out.2.1.lt)
  have d0' := (cell_alloc_old (a := ⟨bb, bo, none⟩) (o := .cells #[.int .u8 0, .bool false, .int .u32 0, .int .u64 0] 26) hblt).trans d0
  have d1' := (cell_alloc_old (a := ⟨bb, bo + 1, none⟩) (o := .cells #[.int .u8 0, .bool false, .int .u32 0, .int .u64 0] 26) hblt).trans d1
  have HY1 := Lib.hid hy1
  clear hl hb hu hok hy0 hy1 hep hsq
  go_enter Tryd.func16, Tryd.ntmps16
  go_upto_region 5 with fail
  rw [← hw0]
  clear hw0
  go_region
  obtain ⟨w3, hw3⟩ : ∃ w3, w3 = (w0.alloc (.cells #[.int .u8 y0, .bool (y1 == 1), .int .u32 0, .int .u64 0] 26)).drew := ⟨_, rfl⟩
  obtain ⟨b4, hb4⟩ : ∃ b4, b4 = w0.heap.size := ⟨_, rfl⟩
  rw [← hw3, ← hb4] at HZ
  rw [← hb4] at hlt0
  rw [← hw3, ← hb4]
  have w3X := Lib.hid (show Below w.heap.size w w3 ∧ Blk w3 w.heap.size 26 (hdA hd0) ∧ Blk w3 b4 26 #[.int .u8 y0, .bool (y1 == 1), .int .u32 0, .int .u64 0] from ⟨HZ.out.1, HZ.out.2.1, HZ.out.2.2.1⟩)
  clear hw3 hb4 HZ X0 d0 d1 d0' d1' hblt hn30 hn542 h1 h2
  go_wp2_with fail
  go_loopw [5, 6] (fun v5 i wr => ∃ (p : Nat) (acc : Int), 2 ≤ p ∧ p ≤ 6 ∧ i = .int .i64 p ∧ v5 = .int .u64 acc ∧ acc = valL 0 ((zs.drop 2).take (p - 2)) ∧ wr = w3) (fun _ i _ => 6 - (intOf i).toNat)
  case atStart => exact ⟨2, 0, by omega, by omega, rfl, rfl, rfl, rfl⟩
  case round =>
    obtain ⟨p, acc, hp1, hp2, rfl, rfl, hacc, rfl⟩ := hrel
    by_cases hlt : p < 6
    · have hkl : (p : Int) < 6 := by omega
      have hpn : (p : Int) < n := by have := HN.out; omega
      obtain ⟨y, hy⟩ : ∃ y, y = zs.getD p 0 := ⟨_, rfl⟩
      have hcell : wr.cell? ⟨bb, bo + p, none⟩ = some (.int .u8 y) := by rw [hy, ← addOff]; exact (HS0.out.below w3X.out.1).cell (k := p) (by have := HN.out; omega)
      have hyb := HV.out.2.2.1.getD p
      rw [← hy] at hyb
      obtain ⟨hy1, hy2⟩ := hyb
      have hvb := val_bound HV.out.2.2.1 (p := 2) (j := p - 2) (by omega)
      rw [← hacc] at hvb
      obtain ⟨hv1, hv2⟩ := hvb
      have HA := Lib.hid (show acc * 256 + y = valL 0 ((zs.drop 2).take (p + 1 - 2)) from by
        rw [hacc, hy, show p + 1 - 2 = p - 2 + 1 from by omega, val_next (by have := HV.out.2.2.2; have := HN.out; omega), show 2 + (p - 2) = p from by omega])
      clear hacc hy
      go_wp2_with fail
      go_roundw
      case rel => exact ⟨p + 1, _, by omega, by omega, by go_num, rfl, HA.out, by trivial⟩
      case measure => simp [intOf]; omega
    · obtain rfl : p = 6 := by omega
      have hace : ep = acc := by rw [hacc, ← HV.out.1]
      clear hacc hlt hp1 hp2
      subst hace
      have c2 : wr.cell? ⟨b4, 2, none⟩ = some (.int .u32 0) := (w3X.out.2.2.cell 2).trans rfl
      have f2 : wr.frozen? ⟨b4, 2, none⟩ = false := w3X.out.2.2.free 2
      obtain ⟨⟨e0, e1⟩, -⟩ := HB.out
      obtain ⟨w4, hw4⟩ : ∃ w4, w4 = wr.setCell ⟨b4, 2, none⟩ (.int .u32 ep) := ⟨_, rfl⟩
      have w4X := Lib.hid (show Below w.heap.size w w4 ∧ Blk w4 w.heap.size 26 (hdA hd0) ∧ Blk w4 b4 26 #[.int .u8 y0, .bool (y1 == 1), .int .u32 ep, .int .u64 0] from by
        have hne := hlt0.out
        rw [hw4]
        exact ⟨w3X.out.1.setCell (p := ⟨b4, 2, none⟩) (by show w.heap.size ≤ b4; omega) _, (heap_setCell_other _ _ _ _ (by show w.heap.size ≠ b4; omega)).trans w3X.out.2.1, heap_setCell_same wr b4 2 _ _ _ w3X.out.2.2⟩)
      go_wp2_with fail
      rw [← hw4]
      clear hw4 w3X c2 f2 e0 e1
      go_loopw [5, 7] (fun v5 i wr => ∃ (p : Nat) (acc : Int), 6 ≤ p ∧ p ≤ 14 ∧ i = .int .i64 p ∧ v5 = .int .u64 acc ∧ acc = valL 0 ((zs.drop 6).take (p - 6)) ∧ wr = w4) (fun _ i _ => 14 - (intOf i).toNat)
      case atStart => exact ⟨6, 0, by omega, by omega, rfl, rfl, rfl, rfl⟩
      case round =>
        obtain ⟨p, acc, hp1, hp2, rfl, rfl, hacc, rfl⟩ := hrel
        by_cases hlt : p < 14
        · have hkl : (p : Int) < 14 := by omega
          have hpn : (p : Int) < n := by have := HN.out; omega
          obtain ⟨y, hy⟩ : ∃ y, y = zs.getD p 0 := ⟨_, rfl⟩
          have hcell : wr.cell? ⟨bb, bo + p, none⟩ = some (.int .u8 y) := by rw [hy, ← addOff]; exact (HS0.out.below w4X.out.1).cell (k := p) (by have := HN.out; omega)
          have hyb := HV.out.2.2.1.getD p
          rw [← hy] at hyb
          obtain ⟨hy1, hy2⟩ := hyb
          have hvb := val_bound HV.out.2.2.1 (p := 6) (j := p - 6) (by omega)
          rw [← hacc] at hvb
          obtain ⟨hv1, hv2⟩ := hvb
          have HA := Lib.hid (show acc * 256 + y = valL 0 ((zs.drop 6).take (p + 1 - 6)) from by
            rw [hacc, hy, show p + 1 - 6 = p - 6 + 1 from by omega, val_next (by have := HV.out.2.2.2; have := HN.out; omega), show 6 + (p - 6) = p from by omega])
          clear hacc hy
          go_wp2_with fail
          go_roundw
          case rel => exact ⟨p + 1, _, by omega, by omega, by go_num, rfl, HA.out, by trivial⟩
          case measure => simp [intOf]; omega
        · obtain rfl : p = 14 := by omega
          have hace : sq = acc := by rw [hacc, ← HV.out.2.1]
          clear hacc hlt hp1 hp2
          subst hace
          have c3 : wr.cell? ⟨b4, 3, none⟩ = some (.int .u64 0) := (w4X.out.2.2.cell 3).trans rfl
          have f3 : wr.frozen? ⟨b4, 3, none⟩ = false := w4X.out.2.2.free 3
          obtain ⟨w5, hw5⟩ : ∃ w5, w5 = wr.setCell ⟨b4, 3, none⟩ (.int .u64 sq) := ⟨_, rfl⟩
          have w5X := Lib.hid (show Below w.heap.size w w5 ∧ Blk w5 w.heap.size 26 (hdA hd0) ∧ Blk w5 b4 26 (hdA ⟨y0, y1 == 1, ep, sq⟩) from by
            have hne := hlt0.out
            rw [hw5]
            exact ⟨w4X.out.1.setCell (p := ⟨b4, 3, none⟩) (by show w.heap.size ≤ b4; omega) _, (heap_setCell_other _ _ _ _ (by show w.heap.size ≠ b4; omega)).trans w4X.out.2.1, heap_setCell_same wr b4 3 _ _ _ w4X.out.2.2⟩)
          have hpn : (1 : Int) < n := by have := HN.out; omega
          go_upto_region 18 with fail
          rw [← hw5]
          clear hw5 w4X c3 f3
          have hcell : w5.cell? ⟨bb, bo + 1, none⟩ = some (.int .u8 y1) := by rw [HY1.out, ← addOff]; exact (HS0.out.below w5X.out.1).cell (k := 1) (by have := HN.out; omega)
          by_cases h1 : y1 ≤ 1
          · have hM := Lib.hid (refMay_any ⟨y0, y1 == 1, ep, sq⟩ w5)
            have HP2 := Lib.hid (show (mayH ⟨y0, y1 == 1, ep, sq⟩ = false → peekS zs = (hd0, 3)) ∧ (mayH ⟨y0, y1 == 1, ep, sq⟩ = true → peekS zs = (⟨y0, y1 == 1, ep, sq⟩, 0)) from by
              have h := HP.out
              rw [show decide (y1 ≤ 1) = true by simpa using h1, Bool.true_and] at h
              exact h)
            have hd : decide (1 < y1) = false := by simp; omega
            clear HP HV HN
            go_wp2_with (refine wpList_unguard (by rfl) ?_; refine wpList_load_row rfl 26 (.tmp 4) rfl b4 rfl 26 (hdA ⟨y0, y1 == 1, ep, sq⟩) (0, 0) _ w5X.out.2.2 Tryd.underlying26 rfl infoH ?_)
            refine hM.out.mono ?_
            rintro e w6 ⟨rfl, hw6⟩
            have X6 := Lib.hid (show Below w.heap.size w w6 ∧ Blk w6 w.heap.size 26 (hdA hd0) ∧ Blk w6 b4 26 (hdA ⟨y0, y1 == 1, ep, sq⟩) from by
              rw [hw6]
              exact ⟨w5X.out.1.alloc w5X.out.1.size _, w5X.out.2.1.alloc _, w5X.out.2.2.alloc _⟩)
            clear hw6 hM hcell w5X
            obtain ⟨bm, hbm⟩ : ∃ b, b = mayH ⟨y0, y1 == 1, ep, sq⟩ := ⟨_, rfl⟩
            rw [← hbm] at HP2 ⊢
            clear hbm
            cases bm with
            | false =>
              have HF := Lib.hid (HP2.out.1 rfl)
              obtain ⟨⟨c0, c1, c2, c3⟩, f0, f1, f2, f3⟩ := X6.out.2.1.zeros
              go_wp2_with fail
              have hres : Blk (put4 w6 w.heap.size (.int .u8 0) (.bool false) (.int .u32 0) (.int .u64 0)) w.heap.size 26 (hdA hd0) := put4_blk X6.out.2.1
              exact bodyPost_ret (v := .tuple #[.agg (hdA hd0), .int .i64 3]) (results_cs Tryd.results16 _ _ w.heap.size 26 _ (0, 0) _ rfl hres Tryd.underlying26 rfl infoH _ rfl) rfl (by rw [HF.out]; exact ⟨rfl, put4_below X6.out.1 (Nat.le_refl _)⟩)
            | true =>
              have HF := Lib.hid (HP2.out.2 rfl)
              go_wp2_with (first
                | refine wpList_load_row rfl 26 (.tmp 4) rfl b4 rfl 26 (hdA ⟨y0, y1 == 1, ep, sq⟩) (0, 0) _ X6.out.2.2 Tryd.underlying26 rfl infoH ?_
                | refine wpList_store_row rfl 26 (.tmp 2) (.tmp 63) rfl w.heap.size (hdA ⟨y0, y1 == 1, ep, sq⟩) rfl rfl 26 (hdA hd0) X6.out.2.1 infoH rfl (hdA_one _) ?_)
              have hres := X6.out.2.1.setRow (hdA ⟨y0, y1 == 1, ep, sq⟩)
              exact bodyPost_ret (v := .tuple #[.agg (hdA ⟨y0, y1 == 1, ep, sq⟩), .int .i64 0]) (results_cs Tryd.results16 _ _ w.heap.size 26 _ (0, 0) _ rfl hres Tryd.underlying26 rfl infoH _ rfl) rfl (by rw [HF.out]; exact ⟨rfl, below_setRow X6.out.1 (Nat.le_refl _) _⟩)
          · have HF := Lib.hid (show peekS zs = (hd0, 3) from HP.out.1 (by rw [show decide (y1 ≤ 1) = false by simpa using h1]; rfl))
            have hd : decide (1 < y1) = true := by simp; omega
            clear HP HV HN
            obtain ⟨⟨c0, c1, c2, c3⟩, f0, f1, f2, f3⟩ := w5X.out.2.1.zeros
            go_wp2_with fail
            have hres : Blk (put4 w5 w.heap.size (.int .u8 0) (.bool false) (.int .u32 0) (.int .u64 0)) w.heap.size 26 (hdA hd0) := put4_blk w5X.out.2.1
            exact bodyPost_ret (v := .tuple #[.agg (hdA hd0), .int .i64 3]) (results_cs Tryd.results16 _ _ w.heap.size 26 _ (0, 0) _ rfl hres Tryd.underlying26 rfl infoH _ rfl) rfl (by rw [HF.out]; exact ⟨rfl, put4_below w5X.out.1 (Nat.le_refl _)⟩)
end Go.Proofs.YtogaakokplobaaaDoor
