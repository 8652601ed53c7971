/-
  Proved: SealOpens answers true for all keys and bytes, over the table of roots that the program's text lays (a tied card).
-/
import Derived.Test.YtogaakokplobaaaDoorOpen
import Derived.Test.YtogaakokplobaaaDoorCards
import Derived.Test.YtogaakokplobaaaDoorTie
import Derived.SevenTiedAt
import Derived.Test.YtogaakokplobaaaDoorShaTab
import Derived.Test.YtogaakokplobaaaDoorSealHdEq
import Derived.WalkKit
namespace Go.Proofs.YtogaakokplobaaaDoor.sealOpens
open Go.ChangeShapes Go.WideShapes Go.ChangeAt Go.RowKit

theorem own_head {w : World} {base : Nat} {e : TypeId} {A : Option Addr} {n c : Nat} {xs : List Value} (h : w.ownsRow base e 1 (.slice A n c) n xs) (hn : 0 < n) : ∃ g, A = some ⟨g, 0, none⟩ := by
  rcases h.2 with ⟨h1, _⟩ | ⟨g, cap, cur, hv, _⟩
  · simp at h1
    omega
  · injection hv with hv
    exact ⟨g, hv⟩

set_option maxRecDepth 100000 in
set_option maxHeartbeats 6400000 in
/-- The walk. -/
theorem walk {A : Option Addr} {n c : Nat} {key : List Int} {B : Option Addr} {m d : Nat} {zs : List Int} (w : World) (hr : Roots w) (hs : Sb w A n key) (h8 : U8s key) (_ : n ≤ 140737488351232) (hc : n ≤ c ∧ c ≤ maxLen)
    (hs' : Sb w B m zs) (h8' : U8s zs) (_ : m ≤ 140737488351232) (hd : m ≤ d ∧ d ≤ maxLen) :
    Calls Tryd.prog 4 #[.slice A n c, .slice B m d] w fun e w' => e = .returned (.bool true) ∧ Below w.heap.size w w' := by
  unfold maxLen at hc hd
  have H := Lib.hid (show Roots w ∧ Sb w A n key ∧ B8s key ∧ (n ≤ c ∧ c ≤ 9223372036854775807) ∧ Sb w B m zs ∧ B8s zs ∧ (m ≤ d ∧ d ≤ 9223372036854775807) from ⟨hr, hs, h8, ⟨hc.1, by omega⟩, hs', h8', ⟨hd.1, by omega⟩⟩)
  clear hr hs h8 hs' h8' hc hd
  by_cases hbig : (1000 : Int) < (n : Int)
  · go_enter Tryd.func4, Tryd.ntmps4
    go_wp2_with fail
    refine (sealFixed_any _ H.out.1).mono ?_
    rintro e w1 ⟨rfl, hb1⟩
    go_wp2_with fail
    go_ret
    exact ⟨rfl, hb1⟩
  by_cases hbig2 : (16384 : Int) < (m : Int)
  · go_enter Tryd.func4, Tryd.ntmps4
    go_wp2_with fail
    refine (sealFixed_any _ H.out.1).mono ?_
    rintro e w1 ⟨rfl, hb1⟩
    go_wp2_with fail
    go_ret
    exact ⟨rfl, hb1⟩
  have hle := openS_len key zs
  have hzl := H.out.2.2.2.2.1.len
  obtain ⟨o, ho⟩ : ∃ o, o = openS key zs := ⟨_, rfl⟩
  obtain ⟨q, hq⟩ : ∃ q, q = peekS zs := ⟨_, rfl⟩
  rw [← ho] at hle
  obtain ⟨⟨k2, d2, e2, s2⟩, bd, r2⟩ := o
  obtain ⟨⟨k1, d1, e1, s1⟩, r1⟩ := q
  dsimp only at hle
  have HP := Lib.hid hq
  have HO := Lib.hid (show ((⟨k2, d2, e2, s2⟩, bd, r2) : Hd × List Int × Int) = openS key zs ∧ bd.length ≤ 16384 from ⟨ho, by omega⟩)
  have t1 : (r1 != r1) = false := by simp
  have t2 : (r2 != r2) = false := by simp
  clear hle hzl ho hq
  go_enter Tryd.func4, Tryd.ntmps4
  go_wp2_with fail
  refine (copy_any H.out.2.1 (by omega)).mono ?_
  rintro e w1 ⟨g1, rfl, hown1, hb1⟩
  have Y1 := Lib.hid (show Below w.heap.size w w1 ∧ Sb w1 (some ⟨g1, 0, none⟩) n key from ⟨hb1, Sb.own hown1⟩)
  clear hown1 hb1
  go_wp2_with fail
  refine (copy_any (H.out.2.2.2.2.1.below Y1.out.1) (by omega)).mono ?_
  rintro e w2 ⟨g2, rfl, hown2, hb2⟩
  have Y2 := Lib.hid (show Below w.heap.size w w2 ∧ Sb w2 (some ⟨g1, 0, none⟩) n key ∧ Sb w2 (some ⟨g2, 0, none⟩) m zs from ⟨Y1.out.1.trans (hb2.mono Y1.out.1.size), Y1.out.2.below hb2, Sb.own hown2⟩)
  clear hown2 hb2 Y1
  go_wp2_with fail
  refine (peek_any (d := m) w2 Y2.out.2.2 H.out.2.2.2.2.2.1 (by omega) (by have := H.out.2.2.2.2.2.2; omega)).mono ?_
  rintro e w3 ⟨rfl, hb3⟩
  rw [← HP.out]
  have Y3 := Lib.hid (show Below w.heap.size w w3 ∧ Sb w3 (some ⟨g1, 0, none⟩) n key ∧ Sb w3 (some ⟨g2, 0, none⟩) m zs from ⟨Y2.out.1.trans (hb3.mono Y2.out.1.size), Y2.out.2.1.below hb3, Y2.out.2.2.below hb3⟩)
  clear hb3 Y2
  have hn1 : Hid (Blk (w3.alloc (.cells #[.int .u8 0, .bool false, .int .u32 0, .int .u64 0] 26)) w3.heap.size 26 (hdA hd0)) := Blk.new _ _ _
  go_upto_region 5 with (refine wpList_store_row rfl 26 (.tmp 7) (.tmp 34) rfl w3.heap.size (hdA ⟨k1, d1, e1, s1⟩) rfl rfl 26 (hdA hd0) hn1.out infoH rfl (hdA_one _) ?_)
  obtain ⟨w4, hw⟩ : ∃ w2, w2 = (w3.alloc (.cells #[.int .u8 0, .bool false, .int .u32 0, .int .u64 0] 26)).setRow w3.heap.size (hdA ⟨k1, d1, e1, s1⟩) := ⟨_, rfl⟩
  have Y4 := Lib.hid (show Below w.heap.size w w4 ∧ Sb w4 (some ⟨g1, 0, none⟩) n key ∧ Sb w4 (some ⟨g2, 0, none⟩) m zs ∧ Blk w4 w3.heap.size 26 (hdA ⟨k1, d1, e1, s1⟩) from by
    have h1 : Below w3.heap.size w3 w4 := by rw [hw]; exact below_setRow ((Below.refl _ _).alloc (Nat.le_refl _) _) (Nat.le_refl _) _
    exact ⟨Y3.out.1.trans (h1.mono Y3.out.1.size), Y3.out.2.1.below h1, Y3.out.2.2.below h1, by rw [hw]; exact hn1.out.setRow _⟩)
  rw [← hw]
  clear hw hn1 Y3
  go_wp2_with fail
  refine (open_any (c := n) (d := m) w4 (H.out.1.below Y4.out.1) Y4.out.2.1 H.out.2.2.1 (by have := H.out.2.2.2.1; omega) (by omega) Y4.out.2.2.1 H.out.2.2.2.2.2.1 (by omega) (by have := H.out.2.2.2.2.2.2; omega)).mono ?_
  rintro e w5 ⟨A5, n5, c5, rfl, hm5⟩
  rw [← HO.out.1] at hm5 ⊢
  have W4 := Lib.hid (show Below w.heap.size w w4 ∧ Sb w4 (some ⟨g1, 0, none⟩) n key ∧ Sb w4 (some ⟨g2, 0, none⟩) m zs from ⟨Y4.out.1, Y4.out.2.1, Y4.out.2.2.1⟩)
  have Y5 := Lib.hid (show Below w.heap.size w w5 ∧ Blk w5 w3.heap.size 26 (hdA ⟨k1, d1, e1, s1⟩) ∧ w5.ownsRow w4.heap.size 5 1 (.slice A5 n5 c5) n5 (bd.map (Value.int .u8)) ∧ Below w4.heap.size w4 w5 ∧ n5 ≤ 16384 from ⟨Y4.out.1.trans (hm5.below.mono Y4.out.1.size), Y4.out.2.2.2.below hm5.below Y4.out.2.2.2.lt, hm5.own, hm5.below, by have h1 := hm5.len; have h2 := HO.out.2; dsimp only at h1; omega⟩)
  clear hm5 Y4
  have hn1 : Hid (Blk (w5.alloc (.cells #[.int .u8 0, .bool false, .int .u32 0, .int .u64 0] 26)) w5.heap.size 26 (hdA hd0)) := Blk.new _ _ _
  go_upto_region 6 with (refine wpList_store_row rfl 26 (.tmp 9) (.tmp 40) rfl w5.heap.size (hdA ⟨k2, d2, e2, s2⟩) rfl rfl 26 (hdA hd0) hn1.out infoH rfl (hdA_one _) ?_)
  obtain ⟨w6, hw⟩ : ∃ w2, w2 = (w5.alloc (.cells #[.int .u8 0, .bool false, .int .u32 0, .int .u64 0] 26)).setRow w5.heap.size (hdA ⟨k2, d2, e2, s2⟩) := ⟨_, rfl⟩
  have Y6 := Lib.hid (show Below w.heap.size w w6 ∧ Blk w6 w3.heap.size 26 (hdA ⟨k1, d1, e1, s1⟩) ∧ w6.ownsRow w4.heap.size 5 1 (.slice A5 n5 c5) n5 (bd.map (Value.int .u8)) ∧ Below w4.heap.size w4 w6 ∧ n5 ≤ 16384 ∧ Blk w6 w5.heap.size 26 (hdA ⟨k2, d2, e2, s2⟩) from by
    have h1 : Below w5.heap.size w5 w6 := by rw [hw]; exact below_setRow ((Below.refl _ _).alloc (Nat.le_refl _) _) (Nat.le_refl _) _
    exact ⟨Y5.out.1.trans (h1.mono Y5.out.1.size), Y5.out.2.1.below h1 Y5.out.2.1.lt, own_belowS Y5.out.2.2.1 h1, Y5.out.2.2.2.1.trans (h1.mono Y5.out.2.2.2.1.size), Y5.out.2.2.2.2, by rw [hw]; exact hn1.out.setRow _⟩)
  rw [← hw]
  clear hw hn1 Y5
  go_wp2_with fail
  refine (refPeek_any (d := d) w6 (H.out.2.2.2.2.1.below Y6.out.1) H.out.2.2.2.2.2.1 (by omega)).mono ?_
  rintro e w7 ⟨rfl, hb7⟩
  rw [← HP.out]
  have Y7 := Lib.hid (show Below w.heap.size w w7 ∧ Blk w7 w3.heap.size 26 (hdA ⟨k1, d1, e1, s1⟩) ∧ w7.ownsRow w4.heap.size 5 1 (.slice A5 n5 c5) n5 (bd.map (Value.int .u8)) ∧ Below w4.heap.size w4 w7 ∧ n5 ≤ 16384 ∧ Blk w7 w5.heap.size 26 (hdA ⟨k2, d2, e2, s2⟩) from ⟨Y6.out.1.trans (hb7.mono Y6.out.1.size), Y6.out.2.1.below hb7 Y6.out.2.1.lt, own_belowS Y6.out.2.2.1 hb7, Y6.out.2.2.2.1.trans (hb7.mono Y6.out.2.2.2.1.size), Y6.out.2.2.2.2.1, Y6.out.2.2.2.2.2.below hb7 Y6.out.2.2.2.2.2.lt⟩)
  clear hb7 Y6
  have hn1 : Hid (Blk (w7.alloc (.cells #[.int .u8 0, .bool false, .int .u32 0, .int .u64 0] 26)) w7.heap.size 26 (hdA hd0)) := Blk.new _ _ _
  go_upto_region 7 with (refine wpList_store_row rfl 26 (.tmp 12) (.tmp 46) rfl w7.heap.size (hdA ⟨k1, d1, e1, s1⟩) rfl rfl 26 (hdA hd0) hn1.out infoH rfl (hdA_one _) ?_)
  obtain ⟨w8, hw⟩ : ∃ w2, w2 = (w7.alloc (.cells #[.int .u8 0, .bool false, .int .u32 0, .int .u64 0] 26)).setRow w7.heap.size (hdA ⟨k1, d1, e1, s1⟩) := ⟨_, rfl⟩
  have Y8 := Lib.hid (show Below w.heap.size w w8 ∧ Blk w8 w3.heap.size 26 (hdA ⟨k1, d1, e1, s1⟩) ∧ w8.ownsRow w4.heap.size 5 1 (.slice A5 n5 c5) n5 (bd.map (Value.int .u8)) ∧ Below w4.heap.size w4 w8 ∧ n5 ≤ 16384 ∧ Blk w8 w5.heap.size 26 (hdA ⟨k2, d2, e2, s2⟩) ∧ Blk w8 w7.heap.size 26 (hdA ⟨k1, d1, e1, s1⟩) from by
    have h1 : Below w7.heap.size w7 w8 := by rw [hw]; exact below_setRow ((Below.refl _ _).alloc (Nat.le_refl _) _) (Nat.le_refl _) _
    exact ⟨Y7.out.1.trans (h1.mono Y7.out.1.size), Y7.out.2.1.below h1 Y7.out.2.1.lt, own_belowS Y7.out.2.2.1 h1, Y7.out.2.2.2.1.trans (h1.mono Y7.out.2.2.2.1.size), Y7.out.2.2.2.2.1, Y7.out.2.2.2.2.2.below h1 Y7.out.2.2.2.2.2.lt, by rw [hw]; exact hn1.out.setRow _⟩)
  rw [← hw]
  clear hw hn1 Y7
  go_wp2_with fail
  refine (refOpen_any (c := c) (d := d) w8 (H.out.2.1.below Y8.out.1) H.out.2.2.1 H.out.2.2.2.1 (by omega) (H.out.2.2.2.2.1.below Y8.out.1) H.out.2.2.2.2.2.1 (by omega) H.out.2.2.2.2.2.2).mono ?_
  rintro e w9 ⟨A9, n9, c9, rfl, hm9⟩
  rw [← HO.out.1] at hm9 ⊢
  have Y9 := Lib.hid (show Below w.heap.size w w9 ∧ Blk w9 w3.heap.size 26 (hdA ⟨k1, d1, e1, s1⟩) ∧ w9.ownsRow w4.heap.size 5 1 (.slice A5 n5 c5) n5 (bd.map (Value.int .u8)) ∧ Below w4.heap.size w4 w9 ∧ n5 ≤ 16384 ∧ Blk w9 w5.heap.size 26 (hdA ⟨k2, d2, e2, s2⟩) ∧ Blk w9 w7.heap.size 26 (hdA ⟨k1, d1, e1, s1⟩) ∧ Sb w9 A9 n9 bd ∧ n9 ≤ 16384 from ⟨Y8.out.1.trans (hm9.below.mono Y8.out.1.size), Y8.out.2.1.below hm9.below Y8.out.2.1.lt, own_belowS Y8.out.2.2.1 hm9.below, Y8.out.2.2.2.1.trans (hm9.below.mono Y8.out.2.2.2.1.size), Y8.out.2.2.2.2.1, Y8.out.2.2.2.2.2.1.below hm9.below Y8.out.2.2.2.2.2.1.lt, Y8.out.2.2.2.2.2.2.below hm9.below Y8.out.2.2.2.2.2.2.lt, hm9.sb, by have h1 := hm9.len; have h2 := HO.out.2; dsimp only at h1; omega⟩)
  clear hm9 Y8
  have hn1 : Hid (Blk (w9.alloc (.cells #[.int .u8 0, .bool false, .int .u32 0, .int .u64 0] 26)) w9.heap.size 26 (hdA hd0)) := Blk.new _ _ _
  go_upto_region 8 with (refine wpList_store_row rfl 26 (.tmp 14) (.tmp 52) rfl w9.heap.size (hdA ⟨k2, d2, e2, s2⟩) rfl rfl 26 (hdA hd0) hn1.out infoH rfl (hdA_one _) ?_)
  obtain ⟨w10, hw⟩ : ∃ w2, w2 = (w9.alloc (.cells #[.int .u8 0, .bool false, .int .u32 0, .int .u64 0] 26)).setRow w9.heap.size (hdA ⟨k2, d2, e2, s2⟩) := ⟨_, rfl⟩
  have Y10 := Lib.hid (show Below w.heap.size w w10 ∧ Blk w10 w3.heap.size 26 (hdA ⟨k1, d1, e1, s1⟩) ∧ w10.ownsRow w4.heap.size 5 1 (.slice A5 n5 c5) n5 (bd.map (Value.int .u8)) ∧ Below w4.heap.size w4 w10 ∧ n5 ≤ 16384 ∧ Blk w10 w5.heap.size 26 (hdA ⟨k2, d2, e2, s2⟩) ∧ Blk w10 w7.heap.size 26 (hdA ⟨k1, d1, e1, s1⟩) ∧ Sb w10 A9 n9 bd ∧ n9 ≤ 16384 ∧ Blk w10 w9.heap.size 26 (hdA ⟨k2, d2, e2, s2⟩) from by
    have h1 : Below w9.heap.size w9 w10 := by rw [hw]; exact below_setRow ((Below.refl _ _).alloc (Nat.le_refl _) _) (Nat.le_refl _) _
    exact ⟨Y9.out.1.trans (h1.mono Y9.out.1.size), Y9.out.2.1.below h1 Y9.out.2.1.lt, own_belowS Y9.out.2.2.1 h1, Y9.out.2.2.2.1.trans (h1.mono Y9.out.2.2.2.1.size), Y9.out.2.2.2.2.1, Y9.out.2.2.2.2.2.1.below h1 Y9.out.2.2.2.2.2.1.lt, Y9.out.2.2.2.2.2.2.1.below h1 Y9.out.2.2.2.2.2.2.1.lt, Y9.out.2.2.2.2.2.2.2.1.below h1, Y9.out.2.2.2.2.2.2.2.2, by rw [hw]; exact hn1.out.setRow _⟩)
  rw [← hw]
  clear hw hn1 Y9
  go_wp2_with fail
  refine (sealFixed_any _ (H.out.1.below Y10.out.1)).mono ?_
  rintro e w11 ⟨rfl, hbf⟩
  have Y11 := Lib.hid (show Below w.heap.size w w11 ∧ Blk w11 w3.heap.size 26 (hdA ⟨k1, d1, e1, s1⟩) ∧ w11.ownsRow w4.heap.size 5 1 (.slice A5 n5 c5) n5 (bd.map (Value.int .u8)) ∧ Below w4.heap.size w4 w11 ∧ n5 ≤ 16384 ∧ Blk w11 w5.heap.size 26 (hdA ⟨k2, d2, e2, s2⟩) ∧ Blk w11 w7.heap.size 26 (hdA ⟨k1, d1, e1, s1⟩) ∧ Sb w11 A9 n9 bd ∧ n9 ≤ 16384 ∧ Blk w11 w9.heap.size 26 (hdA ⟨k2, d2, e2, s2⟩) from ⟨Y10.out.1.trans (hbf.mono Y10.out.1.size), Y10.out.2.1.below hbf Y10.out.2.1.lt, own_belowS Y10.out.2.2.1 hbf, Y10.out.2.2.2.1.trans (hbf.mono Y10.out.2.2.2.1.size), Y10.out.2.2.2.2.1, Y10.out.2.2.2.2.2.1.below hbf Y10.out.2.2.2.2.2.1.lt, Y10.out.2.2.2.2.2.2.1.below hbf Y10.out.2.2.2.2.2.2.1.lt, Y10.out.2.2.2.2.2.2.2.1.below hbf, Y10.out.2.2.2.2.2.2.2.2.1, Y10.out.2.2.2.2.2.2.2.2.2.below hbf Y10.out.2.2.2.2.2.2.2.2.2.lt⟩)
  clear hbf Y10
  go_wp2_with (first | refine wpList_unguard (by rfl) ?_; refine wpList_load_row rfl 26 (.tmp 9) rfl w5.heap.size rfl 26 #[.int .u8 k2, .bool d2, .int .u32 e2, .int .u64 s2] (0, 0) _ Y11.out.2.2.2.2.2.1 Tryd.underlying26 rfl infoH ?_ | refine wpList_unguard (by rfl) ?_; refine wpList_load_row rfl 26 (.tmp 14) rfl w9.heap.size rfl 26 #[.int .u8 k2, .bool d2, .int .u32 e2, .int .u64 s2] (0, 0) _ Y11.out.2.2.2.2.2.2.2.2.2 Tryd.underlying26 rfl infoH ?_)
  refine (refSame_any (Sb.own Y11.out.2.2.1) Y11.out.2.2.2.2.2.2.2.1 (by have := Y11.out.2.2.2.2.1; omega) (by have := Y11.out.2.2.2.2.2.2.2.2.1; omega)).mono ?_
  rintro e w12 ⟨rfl, qs, hwq⟩
  rw [show decide (bd = bd) = true by simp]
  have bq : Below w11.heap.size w11 w12 := by rw [hwq]; exact below_drewN' (Below.refl _ _) qs
  have Y12 := Lib.hid (show Below w.heap.size w w12 ∧ Blk w12 w3.heap.size 26 (hdA ⟨k1, d1, e1, s1⟩) ∧ w12.ownsRow w4.heap.size 5 1 (.slice A5 n5 c5) n5 (bd.map (Value.int .u8)) ∧ Below w4.heap.size w4 w12 ∧ n5 ≤ 16384 ∧ Blk w12 w7.heap.size 26 (hdA ⟨k1, d1, e1, s1⟩) from ⟨Y11.out.1.trans (bq.mono Y11.out.1.size), Y11.out.2.1.below bq Y11.out.2.1.lt, own_belowS Y11.out.2.2.1 bq, Y11.out.2.2.2.1.trans (bq.mono Y11.out.2.2.2.1.size), Y11.out.2.2.2.2.1, Y11.out.2.2.2.2.2.2.1.below bq Y11.out.2.2.2.2.2.2.1.lt⟩)
  clear hwq bq Y11
  go_wp2_with (first | refine wpList_unguard (by rfl) ?_; refine wpList_load_row rfl 26 (.tmp 7) rfl w3.heap.size rfl 26 #[.int .u8 k1, .bool d1, .int .u32 e1, .int .u64 s1] (0, 0) _ Y12.out.2.1 Tryd.underlying26 rfl infoH ?_ | refine wpList_unguard (by rfl) ?_; refine wpList_load_row rfl 26 (.tmp 12) rfl w7.heap.size rfl 26 #[.int .u8 k1, .bool d1, .int .u32 e1, .int .u64 s1] (0, 0) _ Y12.out.2.2.2.2.2 Tryd.underlying26 rfl infoH ?_)
  go_loopw [85] (fun i wr => ∃ (k : Nat) (l : List Int), k ≤ n5 ∧ i = .int .i64 k ∧ wr.ownsRow w4.heap.size 5 1 (.slice A5 n5 c5) n5 (l.map (Value.int .u8)) ∧ Below w4.heap.size w4 wr) (fun i _ => n5 - (intOf i).toNat)
  case atStart => exact ⟨0, bd, Nat.zero_le _, rfl, Y12.out.2.2.1, Y12.out.2.2.2.1⟩
  case round =>
    have HN := Lib.hid Y12.out.2.2.2.2.1
    clear Y12
    obtain ⟨k, l, hk, rfl, hown, hbel⟩ := hrel
    by_cases hlt : k < n5
    · have hkl : (k : Int) < n5 := by omega
      have hmx : n5 ≤ 9223372036854775807 := by have := HN.out; omega
      obtain ⟨g, rfl⟩ := own_head hown (by omega)
      have hcell : wr.cell? ⟨g, k, none⟩ = some (.int .u8 (l.getD k 0)) := by have := (Sb.own hown).cell hlt; rwa [addHead] at this
      have hfree := hown.frozenAt k
      obtain ⟨y, hy⟩ : ∃ y, y = l.getD k 0 := ⟨_, rfl⟩
      rw [← hy] at hcell
      have Y := Lib.hid (show _ ∧ _ ∧ _ from ⟨hown, hbel, (own_block hown).1⟩)
      clear hown hbel hy
      go_wp2_with fail
      go_roundw
      case rel => exact ⟨k + 1, l.set k _, by omega, by go_num, by rw [List.map_set]; exact (Y.out.1.stored k _).1, Y.out.2.1.setCell (p := ⟨g, k, none⟩) Y.out.2.2 _⟩
      case measure => simp [intOf]; omega
    · obtain rfl : k = n5 := by omega
      have Y := Lib.hid (show Below w.heap.size w wr ∧ Sb wr (some ⟨g1, 0, none⟩) n key ∧ Sb wr (some ⟨g2, 0, none⟩) m zs from ⟨W4.out.1.trans (hbel.mono W4.out.1.size), W4.out.2.1.below hbel, W4.out.2.2.below hbel⟩)
      clear hown hbel
      go_wp2_with fail
      refine (refSame_any Y.out.2.1 (H.out.2.1.below Y.out.1) (by omega) (by omega)).mono ?_
      rintro e w14 ⟨rfl, qs, hwq⟩
      rw [show decide (key = key) = true by simp]
      have bq : Below wr.heap.size wr w14 := by rw [hwq]; exact below_drewN' (Below.refl _ _) qs
      have Y13 := Lib.hid (show Below w.heap.size w w14 ∧ Sb w14 (some ⟨g2, 0, none⟩) m zs from ⟨Y.out.1.trans (bq.mono Y.out.1.size), Y.out.2.2.below bq⟩)
      clear hwq bq Y
      go_wp2_with fail
      refine (refSame_any Y13.out.2 (H.out.2.2.2.2.1.below Y13.out.1) (by omega) (by omega)).mono ?_
      rintro e w15 ⟨rfl, qs, hwq⟩
      rw [show decide (zs = zs) = true by simp]
      have bq : Below w14.heap.size w14 w15 := by rw [hwq]; exact below_drewN' (Below.refl _ _) qs
      have Y14 := Lib.hid (show Below w.heap.size w w15 from Y13.out.1.trans (bq.mono Y13.out.1.size))
      clear hwq bq Y13
      have bz := Y14.out
      clear Y14
      go_wp2_with fail
      go_ret
      exact ⟨rfl, bz⟩

set_option maxRecDepth 100000 in
theorem lifted (os : Os) (started : os.Started) (H : Type) (enc : TypeId × Value → H) :
    ReturnsInHanded {} Tryd.checked os 4 .any (fun w args => (Rows.sealOpensSpec.pre enc Tryd.prog Tryd.f4 [] false w args ∧ laidMetH Tryd.prog laidL w) ∧ sizedMet enc Tryd.prog Tryd.f4 (OpenSpec.ofChange Rows.sealOpensSpec) false w args)
      (Rows.sealOpensSpec.post enc Tryd.prog Tryd.f4 false true false false) := by
  refine returnsInHanded_of_change_and (C := Tryd.checked) (X := fun w _ => laidMetH Tryd.prog laidL w) (fun _ _ _ hh h => h.of_heap hh) own started (by kernel_rfl) Tryd.func4
    (ChangeSpec.witness_shaped (enc := enc) (C := Tryd.checked) (os := os) (X := fun w _ => laidMetH Tryd.prog laidL w) false (World.doorLaid Tryd.prog 400 os) #[.slice none 0 0, .slice none 0 0] 8 rfl (World.shaped_of_RefB (by kernel_rfl) (by kernel_rfl)) (by kernel_rfl) (by kernel_rfl) (by kernel_rfl) (door_met os _)) ?_
  intro W base args ds gs before hval0 hW _ hsz0 hL _
  have hsz : (DataW.weightsEach Tryd.prog (Tryd.f4.params.toList ++ Rows.sealOpensSpec.plain.varTypes Tryd.prog) (ds ++ gs)).all (· ≤ reachBytes) = true := hsz0
  clear hsz0
  have hval : ∀ (j : Nat) t v, Tryd.f4.params[j]? = some t → args[j]? = some v → Value.okWide Tryd.prog W .any base t v := hval0
  have hW' := hW
  obtain ⟨p, q, hA0, hV, rfl, _, _⟩ := hW
  have hA : DataW.TrodAll enc Tryd.prog W 0 (fun _ => true) true Tryd.f4.params.toList args.toList ds p := hA0
  rw [Tryd.params4] at hA hval hsz
  obtain ⟨v0, vs0, d0, ds0, p0, q0, hargs, rfl, rfl, h0, r0⟩ := trodAll_cons hA
  obtain ⟨v1, vs1, d1, ds1, p1, q1, rfl, rfl, rfl, h1, r1⟩ := trodAll_cons r0
  obtain ⟨rfl, rfl, rfl⟩ := trodAll_nil r1
  obtain rfl : args = #[v0, v1] := by cases args; simp_all
  obtain ⟨rfl, rfl⟩ := trodVars_none hV
  have lt0 : ∀ x ∈ p0, x.block < W.heap.size := by obtain ⟨m, hm⟩ := h0; exact DataW.trod_lt m _ _ _ hm
  obtain ⟨A0, n0, c0, z0, rfl, s0, u0, l0, g0⟩ := open_bytes_c (hval 0 22 v0 rfl rfl) h0
  have m0 := g0 _ _ 0 hsz rfl rfl
  have lt1 : ∀ x ∈ p1, x.block < W.heap.size := by obtain ⟨m, hm⟩ := h1; exact DataW.trod_lt m _ _ _ hm
  obtain ⟨A1, n1, c1, z1, rfl, s1, u1, l1, g1⟩ := open_bytes_c (hval 1 22 v1 rfl rfl) h1
  have m1 := g1 _ _ 1 hsz rfl rfl
  clear hA0 hval0
  refine (walk W (roots_of_laid hL) s0 u0 m0 l0 s1 u1 m1 l1).mono fun e W' ⟨he, bel⟩ => ?_
  subst he
  exact ⟨_, rfl, _, _, _, [], _, [], hW', trodAll_mk1 (shut_bool Tryd.underlying4 _), (trodAll_cons_mk (Below.trod laidOut (by kernel_rfl) (of_decide_eq_true (by kernel_rfl)) h0 bel lt0) (trodAll_cons_mk (Below.trod laidOut (by kernel_rfl) (of_decide_eq_true (by kernel_rfl)) h1 bel lt1) trodAll_mk0)), rfl, bel.frame _, fun h => by cases h⟩

theorem over : Rows.sealOpensRow.holds Tryd.pinned (OpenSpec.ofChange Rows.sealOpensSpec) :=
  OpenClaim.holds_of_wide 4 Tryd.f4 rfl rfl rfl rfl rfl rfl rfl ⟨rfl, rfl, rfl, rfl, rfl⟩ rfl rfl rfl rfl rfl (by kernel_rfl) Tryd.func4 (by kernel_rfl)
    (of_decide_eq_true (by kernel_rfl)) (by unfold Func.isWrapper; first | (rw [if_pos (by decide +kernel)]; kernel_rfl) | (rw [if_neg (by decide +kernel)]; exact ⟨rfl, rfl⟩))
    (fun os started H enc _ => lifted os started H enc)

theorem proved : Rows.SealOpensCardSaid :=
  Claim7.holds_tied_plain_at .later [] [.data] true Rows.sealOpensCard.stood.harness false
    over (fun _ h => by cases h) (by kernel_rfl) (fun _ h => by cases h) sealOpens_row_tie rfl ⟨rfl, rfl⟩ (by kernel_rfl) rfl
    (fun f fn hf hfn => by
      obtain rfl : f = 4 := Option.some.inj ((show Tryd.prog.funcNamed "spyglass/spyglasslaw06.SealOpens" = some 4 by kernel_rfl).symm.trans hf) |>.symm
      obtain rfl : fn = Tryd.f4 := (Option.some.inj (Tryd.func4.symm.trans hfn)).symm
      exact ⟨by kernel_rfl, fun j t ht => by
        rw [Tryd.params4] at ht
        have hm : t ∈ [22, 22] := by simpa using Array.mem_of_getElem? ht
        have hall : ([22, 22].all fun u => !Tryd.prog.wantsStandIn u) = true := by kernel_rfl
        exact (show Tryd.prog.wantsStandIn t = false by simpa using List.all_eq_true.1 hall t hm)⟩)
    (by kernel_rfl)
end Go.Proofs.YtogaakokplobaaaDoor.sealOpens
