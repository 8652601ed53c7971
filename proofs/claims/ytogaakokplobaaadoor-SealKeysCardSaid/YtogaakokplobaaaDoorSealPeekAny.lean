/-
  The contract of Peek.
-/
import Derived.Test.YtogaakokplobaaaDoorSealPeek
namespace Go.Proofs.YtogaakokplobaaaDoor
open Go.RowKit

def PeekPost (zs : List Int) (w : World) (e : Ending) (w' : World) : Prop := e = .returned (.tuple #[.agg (hdA (peekS zs).1), .int .i64 (peekS zs).2]) ∧ Below w.heap.size w w'

theorem getDtake {zs : List Int} {k j : Nat} (h : j < k) : (zs.take k).getD j 0 = zs.getD j 0 := by simp only [List.getD, List.getElem?_take, if_pos h]
theorem read_take (zs : List Int) : readH (zs.take 14) = readH zs := by
  refine head_ext (getDtake (by omega)) ?_ ?_ ?_
  · show ((zs.take 14).getD 1 0 == 1) = (zs.getD 1 0 == 1)
    rw [getDtake (by omega)]
  · show valL 0 (((zs.take 14).drop 2).take 4) = valL 0 ((zs.drop 2).take 4)
    rw [List.drop_take, List.take_take]
    rfl
  · show valL 0 (((zs.take 14).drop 6).take 8) = valL 0 ((zs.drop 6).take 8)
    rw [List.drop_take, List.take_take]
    rfl
theorem peek_short {zs : List Int} (h : zs.length < 30) : peekS zs = (hd0, 2) := by unfold peekS; rw [if_pos h]
theorem peek_long {zs : List Int} (h : 542 < zs.length) : peekS zs = (hd0, 4) := by unfold peekS; rw [if_neg (by omega), if_pos h]
theorem peek_bad {zs : List Int} (h0 : 30 ≤ zs.length) (h : zs.length ≤ 542) (hb : (decide (zs.getD 1 0 ≤ 1) && mayH (readH zs)) = false) : peekS zs = (hd0, 3) := by
  unfold peekS
  rw [if_neg (by omega), if_neg (by omega), if_pos]
  by_cases h1 : zs.getD 1 0 ≤ 1
  · rw [show decide (zs.getD 1 0 ≤ 1) = true by simpa using h1] at hb
    exact .inr (by simpa using hb)
  · exact .inl (by omega)
theorem peek_good {zs : List Int} (h0 : 30 ≤ zs.length) (h : zs.length ≤ 542) (hb : (decide (zs.getD 1 0 ≤ 1) && mayH (readH zs)) = true) : peekS zs = (readH zs, 0) := by
  unfold peekS
  rw [if_neg (by omega), if_neg (by omega), if_neg]
  rw [Bool.and_eq_true] at hb
  have h1 : zs.getD 1 0 ≤ 1 := by simpa using hb.1
  rw [hb.2]
  simp only [Bool.true_eq_false, or_false]
  omega

set_option maxHeartbeats 1600000 in
theorem peek_any {B : Option Addr} {n d : Nat} {zs : List Int} (w : World) (hb : Sb w B n zs) (hu : U8s zs) (hn : n ≤ 140737488351232) (hd : n ≤ d ∧ d ≤ 9223372036854775807) :
    Calls Tryd.prog 14 #[.slice B n d] w (PeekPost zs w) := by
  have hl := hb.len
  unfold PeekPost
  by_cases h1 : (n : Int) < 30
  · rw [peek_short (by omega)]
    clear hl hb hu
    have hres : Blk (w.alloc (.cells #[.int .u8 0, .bool false, .int .u32 0, .int .u64 0] 26)) w.heap.size 26 (hdA hd0) := Blk.new _ _ _
    have H := Lib.hid (And.intro hres (show Below w.heap.size w (w.alloc (.cells #[.int .u8 0, .bool false, .int .u32 0, .int .u64 0] 26)) from (Below.refl _ _).alloc (Nat.le_refl _) _))
    clear hres
    go_enter Tryd.func14, Tryd.ntmps14
    go_wp2_with fail
    exact bodyPost_ret (v := .tuple #[.agg (hdA hd0), .int .i64 2]) (results_cs Tryd.results14 _ _ w.heap.size 26 _ (0, 0) _ rfl H.out.1 Tryd.underlying26 rfl infoH _ rfl) rfl ⟨rfl, H.out.2⟩
  by_cases h2 : (542 : Int) < n
  · rw [peek_long (by omega)]
    clear hl hb hu
    have hres : Blk (w.alloc (.cells #[.int .u8 0, .bool false, .int .u32 0, .int .u64 0] 26)) w.heap.size 26 (hdA hd0) := Blk.new _ _ _
    have H := Lib.hid (And.intro hres (show Below w.heap.size w (w.alloc (.cells #[.int .u8 0, .bool false, .int .u32 0, .int .u64 0] 26)) from (Below.refl _ _).alloc (Nat.le_refl _) _))
    clear hres
    go_enter Tryd.func14, Tryd.ntmps14
    go_wp2_with fail
    exact bodyPost_ret (v := .tuple #[.agg (hdA hd0), .int .i64 4]) (results_cs Tryd.results14 _ _ w.heap.size 26 _ (0, 0) _ rfl H.out.1 Tryd.underlying26 rfl infoH _ rfl) rfl ⟨rfl, H.out.2⟩
  have hn30 : 30 ≤ n := by omega
  have hn542 : n ≤ 542 := by omega
  obtain ⟨w0, hw0⟩ : ∃ w0, w0 = w.alloc (.cells #[.int .u8 0, .bool false, .int .u32 0, .int .u64 0] 26) := ⟨_, rfl⟩
  have X0 := Lib.hid (show Below w.heap.size w w0 ∧ Blk w0 w.heap.size 26 (hdA hd0) from by rw [hw0]; exact ⟨(Below.refl _ _).alloc (Nat.le_refl _) _, Blk.new _ _ _⟩)
  have HC := Lib.hid (readHeader_any (c := d) w0 ((hb.below X0.out.1).front (k := 14) (by omega)) (hu.take 14))
  rw [read_take, getDtake (by omega)] at HC
  obtain ⟨h, hh⟩ : ∃ h, h = readH zs := ⟨_, rfl⟩
  obtain ⟨ok, hok⟩ : ∃ ok, ok = (decide (zs.getD 1 0 ≤ 1) && mayH (readH zs)) := ⟨_, rfl⟩
  rw [← hok, ← hh] at HC
  have HP := Lib.hid (show (ok = false → peekS zs = (hd0, 3)) ∧ (ok = true → peekS zs = (h, 0)) from
    ⟨fun e => peek_bad (by omega) (by omega) (by rw [← hok, e]), fun e => by rw [hh]; exact peek_good (by omega) (by omega) (by rw [← hok, e])⟩)
  have hd14 : 14 ≤ d := by omega
  clear hl hb hu hh hok hn hd
  cases ok with
  | false =>
    rw [HP.out.1 rfl]
    go_enter Tryd.func14, Tryd.ntmps14
    go_wp2_with fail
    rw [← hw0]
    clear hw0
    refine HC.out.mono ?_
    rintro e w1 ⟨rfl, hb1⟩
    have X1 := Lib.hid (show Below w.heap.size w w1 ∧ Blk w1 w.heap.size 26 (hdA hd0) from ⟨X0.out.1.trans (hb1.mono X0.out.1.size), X0.out.2.below hb1 X0.out.2.lt⟩)
    clear hb1 HC X0
    have hn1 : Hid (Blk (w1.alloc (.cells #[.int .u8 0, .bool false, .int .u32 0, .int .u64 0] 26)) w1.heap.size 26 (hdA hd0)) := Blk.new _ _ _
    go_upto_region 6 with (refine wpList_store_row rfl 26 (.tmp 4) (.tmp 20) rfl w1.heap.size (hdA h) rfl rfl 26 (hdA hd0) hn1.out infoH rfl (hdA_one _) ?_)
    obtain ⟨w2, hw2⟩ : ∃ w2, w2 = (w1.alloc (.cells #[.int .u8 0, .bool false, .int .u32 0, .int .u64 0] 26)).setRow w1.heap.size (hdA h) := ⟨_, rfl⟩
    have X2 := Lib.hid (show Below w.heap.size w w2 ∧ Blk w2 w.heap.size 26 (hdA hd0) ∧ Blk w2 w1.heap.size 26 (hdA h) from by
      rw [hw2]
      exact ⟨below_setRow (X1.out.1.alloc X1.out.1.size _) X1.out.1.size _, (X1.out.2.alloc _).otherRow _ (Nat.ne_of_lt X1.out.2.lt), hn1.out.setRow _⟩)
    rw [← hw2]
    clear hw2 hn1 X1
    obtain ⟨⟨c0, c1, c2, c3⟩, f0, f1, f2, f3⟩ := X2.out.2.1.zeros
    go_wp2_with fail
    have hres : Blk (put4 w2 w.heap.size (.int .u8 0) (.bool false) (.int .u32 0) (.int .u64 0)) w.heap.size 26 (hdA hd0) := put4_blk X2.out.2.1
    exact bodyPost_ret (v := .tuple #[.agg (hdA hd0), .int .i64 3]) (results_cs Tryd.results14 _ _ w.heap.size 26 _ (0, 0) _ rfl hres Tryd.underlying26 rfl infoH _ rfl) rfl ⟨rfl, put4_below X2.out.1 (Nat.le_refl _)⟩
  | true =>
    rw [HP.out.2 rfl]
    go_enter Tryd.func14, Tryd.ntmps14
    go_wp2_with fail
    rw [← hw0]
    clear hw0
    refine HC.out.mono ?_
    rintro e w1 ⟨rfl, hb1⟩
    have X1 := Lib.hid (show Below w.heap.size w w1 ∧ Blk w1 w.heap.size 26 (hdA hd0) from ⟨X0.out.1.trans (hb1.mono X0.out.1.size), X0.out.2.below hb1 X0.out.2.lt⟩)
    clear hb1 HC X0
    have hn1 : Hid (Blk (w1.alloc (.cells #[.int .u8 0, .bool false, .int .u32 0, .int .u64 0] 26)) w1.heap.size 26 (hdA hd0)) := Blk.new _ _ _
    go_upto_region 6 with (refine wpList_store_row rfl 26 (.tmp 4) (.tmp 20) rfl w1.heap.size (hdA h) rfl rfl 26 (hdA hd0) hn1.out infoH rfl (hdA_one _) ?_)
    obtain ⟨w2, hw2⟩ : ∃ w2, w2 = (w1.alloc (.cells #[.int .u8 0, .bool false, .int .u32 0, .int .u64 0] 26)).setRow w1.heap.size (hdA h) := ⟨_, rfl⟩
    have X2 := Lib.hid (show Below w.heap.size w w2 ∧ Blk w2 w.heap.size 26 (hdA hd0) ∧ Blk w2 w1.heap.size 26 (hdA h) from by
      rw [hw2]
      exact ⟨below_setRow (X1.out.1.alloc X1.out.1.size _) X1.out.1.size _, (X1.out.2.alloc _).otherRow _ (Nat.ne_of_lt X1.out.2.lt), hn1.out.setRow _⟩)
    rw [← hw2]
    clear hw2 hn1 X1
    go_wp2_with (first
      | refine wpList_load_row rfl 26 (.tmp 4) rfl w1.heap.size rfl 26 (hdA h) (0, 0) _ X2.out.2.2 Tryd.underlying26 rfl infoH ?_
      | refine wpList_store_row rfl 26 (.tmp 2) (.tmp 25) rfl w.heap.size (hdA h) rfl rfl 26 (hdA hd0) X2.out.2.1 infoH rfl (hdA_one _) ?_)
    have hres := X2.out.2.1.setRow (hdA h)
    exact bodyPost_ret (v := .tuple #[.agg (hdA h), .int .i64 0]) (results_cs Tryd.results14 _ _ w.heap.size 26 _ (0, 0) _ rfl hres Tryd.underlying26 rfl infoH _ rfl) rfl ⟨rfl, below_setRow X2.out.1 (Nat.le_refl _) _⟩

end Go.Proofs.YtogaakokplobaaaDoor
