/-
  Proved: SealBack answers true for all keys, headers and bodies, over the table of roots that the program's text lays (a tied card).
-/
import Derived.Test.YtogaakokplobaaaDoorOpen
import Derived.Test.YtogaakokplobaaaDoorCards
import Derived.Test.YtogaakokplobaaaDoorTie
import Derived.SevenTiedAt
import Derived.Test.YtogaakokplobaaaDoorShaTab
import Derived.Test.YtogaakokplobaaaDoorSealHdEq
import Derived.Test.YtogaakokplobaaaDoorSealIn
import Derived.WalkKit
namespace Go.Proofs.YtogaakokplobaaaDoor.sealBack
open Go.ChangeShapes Go.WideShapes Go.ChangeAt Go.RowKit

set_option maxRecDepth 100000 in
set_option maxHeartbeats 6400000 in
/-- The walk. -/
theorem walk {A : Option Addr} {n c : Nat} {key : List Int} {h : Hd} {B : Option Addr} {m d : Nat} {zs : List Int} (w : World) (hr : Roots w) (hs : Sb w A n key) (h8 : U8s key) (hn : n ≤ 140737488351232) (hc : n ≤ c ∧ c ≤ maxLen)
    (hok : HdOk h) (hs' : Sb w B m zs) (h8' : U8s zs) (hm : m ≤ 140737488351232) (hd : m ≤ d ∧ d ≤ maxLen) :
    Calls Tryd.prog 5 #[.slice A n c, .agg (hdA h), .slice B m d] w fun e w' => e = .returned (.bool true) ∧ Below w.heap.size w w' := by
  unfold maxLen at hc hd
  have H := Lib.hid (show Roots w ∧ Sb w A n key ∧ B8s key ∧ (n ≤ c ∧ c ≤ 9223372036854775807) ∧ Sb w B m zs ∧ B8s zs ∧ (m ≤ d ∧ d ≤ 9223372036854775807) ∧ HdOk h from ⟨hr, hs, h8, ⟨hc.1, by omega⟩, hs', h8', ⟨hd.1, by omega⟩, hok⟩)
  have hzl := hs'.len
  clear hr hs h8 hs' h8' hc hd hok
  obtain ⟨w0, hw0⟩ : ∃ w0, w0 = w.alloc (.cells (hdA h) 26) := ⟨_, rfl⟩
  have X0 := Lib.hid (show Below w.heap.size w w0 ∧ Blk w0 w.heap.size 26 (hdA h) from by rw [hw0]; exact ⟨(Below.refl _ _).alloc (Nat.le_refl _) _, Blk.new _ _ _⟩)
  by_cases hbig : (1000 : Int) < (n : Int)
  · go_enter Tryd.func5, Tryd.ntmps5
    go_wp2_with fail
    rw [← hw0]
    clear hw0
    refine (sealFixed_any _ (H.out.1.below X0.out.1)).mono ?_
    rintro e w1 ⟨rfl, hb1⟩
    have b1 := X0.out.1.trans (hb1.mono X0.out.1.size)
    go_wp2_with fail
    go_ret
    exact ⟨rfl, b1⟩
  by_cases hbig2 : (16384 : Int) < (m : Int)
  · go_enter Tryd.func5, Tryd.ntmps5
    go_wp2_with fail
    rw [← hw0]
    clear hw0
    refine (sealFixed_any _ (H.out.1.below X0.out.1)).mono ?_
    rintro e w1 ⟨rfl, hb1⟩
    have b1 := X0.out.1.trans (hb1.mono X0.out.1.size)
    go_wp2_with fail
    go_ret
    exact ⟨rfl, b1⟩
  by_cases he : (sealS key h zs).2 = 0
  · obtain ⟨hmay, hbl, hse⟩ := seal_fits he
    have HS := Lib.hid (show mayH h = true ∧ zs.length ≤ 512 ∧ sealS key h zs = (dgS key h zs, 0) from ⟨hmay, hbl, hse⟩)
    clear he hmay hse
    obtain ⟨k1, d1, e1, s1⟩ := h
    go_enter Tryd.func5, Tryd.ntmps5
    go_upto_region 3 with fail
    rw [← hw0]
    clear hw0
    go_wp2_with (refine wpList_load_row rfl 26 (.tmp 4) rfl w.heap.size rfl 26 (hdA ⟨k1, d1, e1, s1⟩) (0, 0) _ X0.out.2 Tryd.underlying26 rfl infoH ?_)
    refine (seal_any (c := c) (d := d) ⟨k1, d1, e1, s1⟩ H.out.2.2.2.2.2.2.2 w0 (H.out.1.below X0.out.1) (H.out.2.1.below X0.out.1) H.out.2.2.1 H.out.2.2.2.1 (by omega) (H.out.2.2.2.2.1.below X0.out.1) H.out.2.2.2.2.2.1 (by omega)).mono ?_
    rintro e w1 ⟨A1, n1, c1, rfl, hm1⟩
    rw [HS.out.2.2] at hm1 ⊢
    have Y1 := Lib.hid (show Below w.heap.size w w1 ∧ Blk w1 w.heap.size 26 (hdA ⟨k1, d1, e1, s1⟩) ∧ Sb w1 A1 n1 (dgS key ⟨k1, d1, e1, s1⟩ zs) ∧ n1 ≤ c1 ∧ c1 ≤ 9223372036854775807 ∧ n1 ≤ 542 from ⟨X0.out.1.trans (hm1.below.mono X0.out.1.size), X0.out.2.below hm1.below X0.out.2.lt, hm1.sb, hm1.le, by have h1 := hm1.max; unfold maxLen at h1; omega, by have h1 := hm1.len; rw [dgS_len] at h1; have h2 := HS.out.2.1; omega⟩)
    clear hm1 X0
    have HOP := Lib.hid (open_dg (key := key) H.out.2.2.2.2.2.2.2 HS.out.1 HS.out.2.1)
    have HPK := Lib.hid (peek_dg (key := key) H.out.2.2.2.2.2.2.2 HS.out.1 HS.out.2.1)
    go_wp2_with fail
    refine (open_any (c := c) (d := c1) w1 (H.out.1.below Y1.out.1) (H.out.2.1.below Y1.out.1) H.out.2.2.1 H.out.2.2.2.1 (by omega) Y1.out.2.2.1 (dgS_b H.out.2.2.2.2.2.2.2 H.out.2.2.2.2.2.1) (by have := Y1.out.2.2.2; omega) ⟨Y1.out.2.2.2.1, Y1.out.2.2.2.2.1⟩).mono ?_
    rintro e w2 ⟨A2, n2, c2, rfl, hm2⟩
    rw [HOP.out] at hm2 ⊢
    have Y2 := Lib.hid (show Below w.heap.size w w2 ∧ Blk w2 w.heap.size 26 (hdA ⟨k1, d1, e1, s1⟩) ∧ Sb w2 A1 n1 (dgS key ⟨k1, d1, e1, s1⟩ zs) ∧ (n1 ≤ c1 ∧ c1 ≤ 9223372036854775807 ∧ n1 ≤ 542) ∧ Sb w2 A2 n2 zs ∧ n2 ≤ 512 from ⟨Y1.out.1.trans (hm2.below.mono Y1.out.1.size), Y1.out.2.1.below hm2.below Y1.out.2.1.lt, Y1.out.2.2.1.below hm2.below, Y1.out.2.2.2, hm2.sb, by have h1 := hm2.len; have h2 := HS.out.2.1; dsimp only at h1; omega⟩)
    clear hm2 Y1
    have hn1 : Hid (Blk (w2.alloc (.cells #[.int .u8 0, .bool false, .int .u32 0, .int .u64 0] 26)) w2.heap.size 26 (hdA hd0)) := Blk.new _ _ _
    go_upto_region 7 with (refine wpList_store_row rfl 26 (.tmp 9) (.tmp 52) rfl w2.heap.size (hdA ⟨k1, d1, e1, s1⟩) rfl rfl 26 (hdA hd0) hn1.out infoH rfl (hdA_one _) ?_)
    obtain ⟨w3, hw⟩ : ∃ wz, wz = (w2.alloc (.cells #[.int .u8 0, .bool false, .int .u32 0, .int .u64 0] 26)).setRow w2.heap.size (hdA ⟨k1, d1, e1, s1⟩) := ⟨_, rfl⟩
    have Y3 := Lib.hid (show Below w.heap.size w w3 ∧ Blk w3 w.heap.size 26 (hdA ⟨k1, d1, e1, s1⟩) ∧ Sb w3 A1 n1 (dgS key ⟨k1, d1, e1, s1⟩ zs) ∧ (n1 ≤ c1 ∧ c1 ≤ 9223372036854775807 ∧ n1 ≤ 542) ∧ Sb w3 A2 n2 zs ∧ n2 ≤ 512 ∧ Blk w3 w2.heap.size 26 (hdA ⟨k1, d1, e1, s1⟩) from by
      have h1 : Below w2.heap.size w2 w3 := by rw [hw]; exact below_setRow ((Below.refl _ _).alloc (Nat.le_refl _) _) (Nat.le_refl _) _
      exact ⟨Y2.out.1.trans (h1.mono Y2.out.1.size), Y2.out.2.1.below h1 Y2.out.2.1.lt, Y2.out.2.2.1.below h1, Y2.out.2.2.2.1, Y2.out.2.2.2.2.1.below h1, Y2.out.2.2.2.2.2, by rw [hw]; exact hn1.out.setRow _⟩)
    rw [← hw]
    clear hw hn1 Y2
    go_wp2_with fail
    refine (peek_any (d := c1) w3 Y3.out.2.2.1 (dgS_b H.out.2.2.2.2.2.2.2 H.out.2.2.2.2.2.1) (by have := Y3.out.2.2.2.1; omega) ⟨Y3.out.2.2.2.1.1, Y3.out.2.2.2.1.2.1⟩).mono ?_
    rintro e w4 ⟨rfl, hb4⟩
    rw [HPK.out]
    have Y4 := Lib.hid (show Below w.heap.size w w4 ∧ Blk w4 w.heap.size 26 (hdA ⟨k1, d1, e1, s1⟩) ∧ Sb w4 A1 n1 (dgS key ⟨k1, d1, e1, s1⟩ zs) ∧ (n1 ≤ c1 ∧ c1 ≤ 9223372036854775807 ∧ n1 ≤ 542) ∧ Sb w4 A2 n2 zs ∧ n2 ≤ 512 ∧ Blk w4 w2.heap.size 26 (hdA ⟨k1, d1, e1, s1⟩) from ⟨Y3.out.1.trans (hb4.mono Y3.out.1.size), Y3.out.2.1.below hb4 Y3.out.2.1.lt, Y3.out.2.2.1.below hb4, Y3.out.2.2.2.1, Y3.out.2.2.2.2.1.below hb4, Y3.out.2.2.2.2.2.1, Y3.out.2.2.2.2.2.2.below hb4 Y3.out.2.2.2.2.2.2.lt⟩)
    clear hb4 Y3
    have hn1 : Hid (Blk (w4.alloc (.cells #[.int .u8 0, .bool false, .int .u32 0, .int .u64 0] 26)) w4.heap.size 26 (hdA hd0)) := Blk.new _ _ _
    go_upto_region 8 with (refine wpList_store_row rfl 26 (.tmp 12) (.tmp 58) rfl w4.heap.size (hdA ⟨k1, d1, e1, s1⟩) rfl rfl 26 (hdA hd0) hn1.out infoH rfl (hdA_one _) ?_)
    obtain ⟨w5, hw⟩ : ∃ wz, wz = (w4.alloc (.cells #[.int .u8 0, .bool false, .int .u32 0, .int .u64 0] 26)).setRow w4.heap.size (hdA ⟨k1, d1, e1, s1⟩) := ⟨_, rfl⟩
    have Y5 := Lib.hid (show Below w.heap.size w w5 ∧ Blk w5 w.heap.size 26 (hdA ⟨k1, d1, e1, s1⟩) ∧ Sb w5 A1 n1 (dgS key ⟨k1, d1, e1, s1⟩ zs) ∧ (n1 ≤ c1 ∧ c1 ≤ 9223372036854775807 ∧ n1 ≤ 542) ∧ Sb w5 A2 n2 zs ∧ n2 ≤ 512 ∧ Blk w5 w2.heap.size 26 (hdA ⟨k1, d1, e1, s1⟩) ∧ Blk w5 w4.heap.size 26 (hdA ⟨k1, d1, e1, s1⟩) from by
      have h1 : Below w4.heap.size w4 w5 := by rw [hw]; exact below_setRow ((Below.refl _ _).alloc (Nat.le_refl _) _) (Nat.le_refl _) _
      exact ⟨Y4.out.1.trans (h1.mono Y4.out.1.size), Y4.out.2.1.below h1 Y4.out.2.1.lt, Y4.out.2.2.1.below h1, Y4.out.2.2.2.1, Y4.out.2.2.2.2.1.below h1, Y4.out.2.2.2.2.2.1, Y4.out.2.2.2.2.2.2.below h1 Y4.out.2.2.2.2.2.2.lt, by rw [hw]; exact hn1.out.setRow _⟩)
    rw [← hw]
    clear hw hn1 Y4
    go_wp2_with fail
    refine (sealFixed_any _ (H.out.1.below Y5.out.1)).mono ?_
    rintro e w6 ⟨rfl, hbf⟩
    have Y6 := Lib.hid (show Below w.heap.size w w6 ∧ Blk w6 w.heap.size 26 (hdA ⟨k1, d1, e1, s1⟩) ∧ Sb w6 A1 n1 (dgS key ⟨k1, d1, e1, s1⟩ zs) ∧ (n1 ≤ c1 ∧ c1 ≤ 9223372036854775807 ∧ n1 ≤ 542) ∧ Sb w6 A2 n2 zs ∧ n2 ≤ 512 ∧ Blk w6 w2.heap.size 26 (hdA ⟨k1, d1, e1, s1⟩) ∧ Blk w6 w4.heap.size 26 (hdA ⟨k1, d1, e1, s1⟩) from ⟨Y5.out.1.trans (hbf.mono Y5.out.1.size), Y5.out.2.1.below hbf Y5.out.2.1.lt, Y5.out.2.2.1.below hbf, Y5.out.2.2.2.1, Y5.out.2.2.2.2.1.below hbf, Y5.out.2.2.2.2.2.1, Y5.out.2.2.2.2.2.2.1.below hbf Y5.out.2.2.2.2.2.2.1.lt, Y5.out.2.2.2.2.2.2.2.below hbf Y5.out.2.2.2.2.2.2.2.lt⟩)
    clear hbf Y5
    go_wp2_with (first | refine wpList_unguard (by rfl) ?_; refine wpList_load_row rfl 26 (.tmp 9) rfl w2.heap.size rfl 26 #[.int .u8 k1, .bool d1, .int .u32 e1, .int .u64 s1] (0, 0) _ Y6.out.2.2.2.2.2.2.1 Tryd.underlying26 rfl infoH ?_ | refine wpList_unguard (by rfl) ?_; refine wpList_load_row rfl 26 (.tmp 4) rfl w.heap.size rfl 26 #[.int .u8 k1, .bool d1, .int .u32 e1, .int .u64 s1] (0, 0) _ Y6.out.2.1 Tryd.underlying26 rfl infoH ?_)
    refine (refSame_any Y6.out.2.2.2.2.1 (H.out.2.2.2.2.1.below Y6.out.1) (by have := Y6.out.2.2.2.2.2.1; omega) (by omega)).mono ?_
    rintro e w7 ⟨rfl, qs, hwq⟩
    rw [show decide (zs = zs) = true by simp]
    have bq : Below w6.heap.size w6 w7 := by rw [hwq]; exact below_drewN' (Below.refl _ _) qs
    have Y7 := Lib.hid (show Below w.heap.size w w7 ∧ Blk w7 w.heap.size 26 (hdA ⟨k1, d1, e1, s1⟩) ∧ Blk w7 w4.heap.size 26 (hdA ⟨k1, d1, e1, s1⟩) from ⟨Y6.out.1.trans (bq.mono Y6.out.1.size), Y6.out.2.1.below bq Y6.out.2.1.lt, Y6.out.2.2.2.2.2.2.2.below bq Y6.out.2.2.2.2.2.2.2.lt⟩)
    clear hwq bq Y6
    have bz := Y7.out.1
    go_wp2_with (first | refine wpList_unguard (by rfl) ?_; refine wpList_load_row rfl 26 (.tmp 12) rfl w4.heap.size rfl 26 #[.int .u8 k1, .bool d1, .int .u32 e1, .int .u64 s1] (0, 0) _ Y7.out.2.2 Tryd.underlying26 rfl infoH ?_ | refine wpList_unguard (by rfl) ?_; refine wpList_load_row rfl 26 (.tmp 4) rfl w.heap.size rfl 26 #[.int .u8 k1, .bool d1, .int .u32 e1, .int .u64 s1] (0, 0) _ Y7.out.2.1 Tryd.underlying26 rfl infoH ?_)
    go_ret
    exact ⟨rfl, bz⟩
  · obtain ⟨hnil, hor⟩ := seal_not he
    obtain ⟨r, hr⟩ : ∃ r, r = (sealS key h zs).2 := ⟨_, rfl⟩
    have HR := Lib.hid hr
    rw [← hr] at he
    have HS := Lib.hid (show (sealS key h zs).1 = [] ∧ (mayH h = false ∨ 512 < zs.length) from ⟨hnil, hor⟩)
    have hdr : (r != 0) = true := by simpa using he
    clear he hr hnil hor
    go_enter Tryd.func5, Tryd.ntmps5
    go_upto_region 3 with fail
    rw [← hw0]
    clear hw0
    go_wp2_with (refine wpList_load_row rfl 26 (.tmp 4) rfl w.heap.size rfl 26 (hdA h) (0, 0) _ X0.out.2 Tryd.underlying26 rfl infoH ?_)
    refine (seal_any (c := c) (d := d) h H.out.2.2.2.2.2.2.2 w0 (H.out.1.below X0.out.1) (H.out.2.1.below X0.out.1) H.out.2.2.1 H.out.2.2.2.1 (by omega) (H.out.2.2.2.2.1.below X0.out.1) H.out.2.2.2.2.2.1 (by omega)).mono ?_
    rintro e w1 ⟨A1, n1, c1, rfl, hm1⟩
    rw [HS.out.1] at hm1
    rw [← HR.out]
    obtain rfl : n1 = 0 := by have := hm1.len; simpa using this.symm
    have Y1 := Lib.hid (show Below w.heap.size w w1 ∧ Blk w1 w.heap.size 26 (hdA h) from ⟨X0.out.1.trans (hm1.below.mono X0.out.1.size), X0.out.2.below hm1.below X0.out.2.lt⟩)
    clear hm1 X0
    go_wp2_with fail
    refine (sealFixed_any _ (H.out.1.below Y1.out.1)).mono ?_
    rintro e w2 ⟨rfl, hbf⟩
    have Y2 := Lib.hid (show Below w.heap.size w w2 ∧ Blk w2 w.heap.size 26 (hdA h) from ⟨Y1.out.1.trans (hbf.mono Y1.out.1.size), Y1.out.2.below hbf Y1.out.2.lt⟩)
    clear hbf Y1
    by_cases hm1 : mayH h = true
    · have hbig3 : (512 : Int) < (m : Int) := by
        rcases HS.out.2 with h1 | h1
        · rw [hm1] at h1; cases h1
        · omega
      go_wp2_with (refine wpList_unguard (by rfl) ?_; refine wpList_load_row rfl 26 (.tmp 4) rfl w.heap.size rfl 26 (hdA h) (0, 0) _ Y2.out.2 Tryd.underlying26 rfl infoH ?_)
      refine (refMay_any h _).mono ?_
      rintro e w3 ⟨rfl, hw3⟩
      rw [hm1]
      have bz : Below w.heap.size w w3 := by rw [hw3]; exact Y2.out.1.alloc Y2.out.1.size _
      clear hw3 Y2 HS
      go_wp2_with fail
      go_ret
      exact ⟨rfl, bz⟩
    · have hm2 : mayH h = false := by simpa using hm1
      go_wp2_with (refine wpList_unguard (by rfl) ?_; refine wpList_load_row rfl 26 (.tmp 4) rfl w.heap.size rfl 26 (hdA h) (0, 0) _ Y2.out.2 Tryd.underlying26 rfl infoH ?_)
      refine (refMay_any h _).mono ?_
      rintro e w3 ⟨rfl, hw3⟩
      rw [hm2]
      have bz : Below w.heap.size w w3 := by rw [hw3]; exact Y2.out.1.alloc Y2.out.1.size _
      clear hw3 Y2 HS
      go_wp2_with fail
      go_ret
      exact ⟨rfl, bz⟩

set_option maxRecDepth 100000 in
theorem lifted (os : Os) (started : os.Started) (H : Type) (enc : TypeId × Value → H) :
    ReturnsInHanded {} Tryd.checked os 5 .any (fun w args => (Rows.sealBackSpec.pre enc Tryd.prog Tryd.f5 [] false w args ∧ laidMetH Tryd.prog laidL w) ∧ sizedMet enc Tryd.prog Tryd.f5 (OpenSpec.ofChange Rows.sealBackSpec) false w args)
      (Rows.sealBackSpec.post enc Tryd.prog Tryd.f5 false true false false) := by
  refine returnsInHanded_of_change_and (C := Tryd.checked) (X := fun w _ => laidMetH Tryd.prog laidL w) (fun _ _ _ hh h => h.of_heap hh) own started (by kernel_rfl) Tryd.func5
    (ChangeSpec.witness_shaped (enc := enc) (C := Tryd.checked) (os := os) (X := fun w _ => laidMetH Tryd.prog laidL w) false (World.doorLaid Tryd.prog 400 os) #[.slice none 0 0, .agg #[.int .u8 0, .bool false, .int .u32 0, .int .u64 0], .slice none 0 0] 8 rfl (World.shaped_of_RefB (by kernel_rfl) (by kernel_rfl)) (by kernel_rfl) (by kernel_rfl) (by kernel_rfl) (door_met os _)) ?_
  intro W base args ds gs before hval0 hW _ hsz0 hL _
  have hsz : (DataW.weightsEach Tryd.prog (Tryd.f5.params.toList ++ Rows.sealBackSpec.plain.varTypes Tryd.prog) (ds ++ gs)).all (· ≤ reachBytes) = true := hsz0
  clear hsz0
  have hval : ∀ (j : Nat) t v, Tryd.f5.params[j]? = some t → args[j]? = some v → Value.okWide Tryd.prog W .any base t v := hval0
  have hW' := hW
  obtain ⟨p, q, hA0, hV, rfl, _, _⟩ := hW
  have hA : DataW.TrodAll enc Tryd.prog W 0 (fun _ => true) true Tryd.f5.params.toList args.toList ds p := hA0
  rw [Tryd.params5] at hA hval hsz
  obtain ⟨v0, vs0, d0, ds0, p0, q0, hargs, rfl, rfl, h0, r0⟩ := trodAll_cons hA
  obtain ⟨v1, vs1, d1, ds1, p1, q1, rfl, rfl, rfl, h1, r1⟩ := trodAll_cons r0
  obtain ⟨v2, vs2, d2, ds2, p2, q2, rfl, rfl, rfl, h2, r2⟩ := trodAll_cons r1
  obtain ⟨rfl, rfl, rfl⟩ := trodAll_nil r2
  obtain rfl : args = #[v0, v1, v2] := by cases args; simp_all
  obtain ⟨rfl, rfl⟩ := trodVars_none hV
  have lt0 : ∀ x ∈ p0, x.block < W.heap.size := by obtain ⟨m, hm⟩ := h0; exact DataW.trod_lt m _ _ _ hm
  obtain ⟨A0, n0, c0, z0, rfl, s0, u0, l0, g0⟩ := open_bytes_c (hval 0 22 v0 rfl rfl) h0
  have m0 := g0 _ _ 0 hsz rfl rfl
  have lt1 : ∀ x ∈ p1, x.block < W.heap.size := by obtain ⟨m, hm⟩ := h1; exact DataW.trod_lt m _ _ _ hm
  obtain ⟨g1, rfl, s1⟩ := open_header (hval 1 26 v1 rfl rfl) h1
  have lt2 : ∀ x ∈ p2, x.block < W.heap.size := by obtain ⟨m, hm⟩ := h2; exact DataW.trod_lt m _ _ _ hm
  obtain ⟨A2, n2, c2, z2, rfl, s2, u2, l2, g2⟩ := open_bytes_c (hval 2 22 v2 rfl rfl) h2
  have m2 := g2 _ _ 2 hsz rfl rfl
  clear hA0 hval0
  refine (walk W (roots_of_laid hL) s0 u0 m0 l0 s1 s2 u2 m2 l2).mono fun e W' ⟨he, bel⟩ => ?_
  subst he
  exact ⟨_, rfl, _, _, _, [], _, [], hW', trodAll_mk1 (shut_bool Tryd.underlying4 _), (trodAll_cons_mk (Below.trod laidOut (by kernel_rfl) (of_decide_eq_true (by kernel_rfl)) h0 bel lt0) (trodAll_cons_mk (Below.trod laidOut (by kernel_rfl) (of_decide_eq_true (by kernel_rfl)) h1 bel lt1) (trodAll_cons_mk (Below.trod laidOut (by kernel_rfl) (of_decide_eq_true (by kernel_rfl)) h2 bel lt2) trodAll_mk0))), rfl, bel.frame _, fun h => by cases h⟩

theorem over : Rows.sealBackRow.holds Tryd.pinned (OpenSpec.ofChange Rows.sealBackSpec) :=
  OpenClaim.holds_of_wide 5 Tryd.f5 rfl rfl rfl rfl rfl rfl rfl ⟨rfl, rfl, rfl, rfl, rfl⟩ rfl rfl rfl rfl rfl (by kernel_rfl) Tryd.func5 (by kernel_rfl)
    (of_decide_eq_true (by kernel_rfl)) (by unfold Func.isWrapper; first | (rw [if_pos (by decide +kernel)]; kernel_rfl) | (rw [if_neg (by decide +kernel)]; exact ⟨rfl, rfl⟩))
    (fun os started H enc _ => lifted os started H enc)

theorem proved : Rows.SealBackCardSaid :=
  Claim7.holds_tied_plain_at .later [] [.data] true Rows.sealBackCard.stood.harness false
    over (fun _ h => by cases h) (by kernel_rfl) (fun _ h => by cases h) sealBack_row_tie rfl ⟨rfl, rfl⟩ (by kernel_rfl) rfl
    (fun f fn hf hfn => by
      obtain rfl : f = 5 := Option.some.inj ((show Tryd.prog.funcNamed "spyglass/spyglasslaw06.SealBack" = some 5 by kernel_rfl).symm.trans hf) |>.symm
      obtain rfl : fn = Tryd.f5 := (Option.some.inj (Tryd.func5.symm.trans hfn)).symm
      exact ⟨by kernel_rfl, fun j t ht => by
        rw [Tryd.params5] at ht
        have hm : t ∈ [22, 26, 22] := by simpa using Array.mem_of_getElem? ht
        have hall : ([22, 26, 22].all fun u => !Tryd.prog.wantsStandIn u) = true := by kernel_rfl
        exact (show Tryd.prog.wantsStandIn t = false by simpa using List.all_eq_true.1 hall t hm)⟩)
    (by kernel_rfl)
end Go.Proofs.YtogaakokplobaaaDoor.sealBack
