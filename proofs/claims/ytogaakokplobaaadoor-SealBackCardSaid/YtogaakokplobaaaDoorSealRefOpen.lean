/-
  The contract of the reference's Open.
-/
import Derived.Test.YtogaakokplobaaaDoorSealOpen
import Derived.Test.YtogaakokplobaaaDoorSealRefPeek
namespace Go.Proofs.YtogaakokplobaaaDoor
open Go.RowKit

theorem run_sub16 (k : Nat) (w : World) (hk : (k : Int) + 16 ≤ 9223372036854775807) : (binOp .sub 3 (.int .i64 ((k : Int) + 16)) (.int .i64 16)).run Tryd.prog w = .ok (.int .i64 k) w := by
  have e : (k : Int) + 16 - 16 = k := by omega
  simp [binOp, go_sem, e]
  rw [IntKind.wrap_i64]
  omega

set_option maxHeartbeats 3200000 in
theorem refOpen_any {A : Option Addr} {n c : Nat} {key : List Int} {B : Option Addr} {m d : Nat} {zs : List Int} (w : World) (hs : Sb w A n key) (h8 : B8s key) (hc : n ≤ c ∧ c ≤ 9223372036854775807) (hn : n ≤ 1125899906842)
    (hb : Sb w B m zs) (hz : B8s zs) (hm : m ≤ 140737488351232) (hd : m ≤ d ∧ d ≤ 9223372036854775807) :
    Calls Tryd.prog 17 #[.slice A n c, .slice B m d] w (OpenPost key zs w) := by
  have hl := hb.len
  have H := Lib.hid (show Sb w A n key ∧ B8s key ∧ (n ≤ c ∧ c ≤ 9223372036854775807) ∧ n ≤ 1125899906842 ∧ Sb w B m zs ∧ B8s zs ∧ (m ≤ d ∧ d ≤ 9223372036854775807) from ⟨hs, h8, hc, hn, hb, hz, hd⟩)
  unfold OpenPost
  obtain ⟨w0, hw0⟩ : ∃ w0, w0 = w.alloc (.cells #[.int .u8 0, .bool false, .int .u32 0, .int .u64 0] 26) := ⟨_, rfl⟩
  have X0 := Lib.hid (show Below w.heap.size w w0 ∧ Blk w0 w.heap.size 26 (hdA hd0) from by rw [hw0]; exact ⟨(Below.refl _ _).alloc (Nat.le_refl _) _, Blk.new _ _ _⟩)
  have HC := Lib.hid (refPeek_any (d := d) w0 (hb.below X0.out.1) hz hm)
  unfold PeekPost at HC
  clear hs h8 hc hn hb hz hd
  by_cases he : (peekS zs).2 = 0
  · obtain ⟨l0, l1, _, _, hpk⟩ := peek_fits he
    rw [hpk] at HC
    obtain ⟨h, hh⟩ : ∃ h, h = readH zs := ⟨_, rfl⟩
    rw [← hh] at HC
    have HE := Lib.hid (And.intro he hh)
    clear he hpk hh
    obtain ⟨k, rfl⟩ : ∃ k, m = k + 16 := ⟨m - 16, by omega⟩
    have hk14 : 14 ≤ k := by omega
    have hk542 : k ≤ 542 := by omega
    clear hm l0 l1
    have HL := Lib.hid hl
    clear hl
    obtain ⟨ad, rfl⟩ := H.out.2.2.2.2.1.addr (by omega)
    go_enter Tryd.func17, Tryd.ntmps17
    go_wp2_with fail
    rw [← hw0]
    clear hw0
    refine HC.out.mono ?_
    rintro e w1 ⟨rfl, hb1⟩
    have X1 := Lib.hid (show Below w.heap.size w w1 ∧ Blk w1 w.heap.size 26 (hdA hd0) from ⟨X0.out.1.trans (hb1.mono X0.out.1.size), X0.out.2.below hb1 X0.out.2.lt⟩)
    clear hb1 HC X0
    have hn1 : Hid (Blk (w1.alloc (.cells #[.int .u8 0, .bool false, .int .u32 0, .int .u64 0] 26)) w1.heap.size 26 (hdA hd0)) := Blk.new _ _ _
    go_upto_region 5 with (refine wpList_store_row rfl 26 (.tmp 7) (.tmp 13) rfl w1.heap.size (hdA h) rfl rfl 26 (hdA hd0) hn1.out infoH rfl (hdA_one _) ?_)
    obtain ⟨w2, hw2⟩ : ∃ w2, w2 = (w1.alloc (.cells #[.int .u8 0, .bool false, .int .u32 0, .int .u64 0] 26)).setRow w1.heap.size (hdA h) := ⟨_, rfl⟩
    have X2 := Lib.hid (show Below w.heap.size w w2 ∧ Blk w2 w.heap.size 26 (hdA hd0) ∧ Blk w2 w1.heap.size 26 (hdA h) from by
      rw [hw2]
      exact ⟨below_setRow (X1.out.1.alloc X1.out.1.size _) X1.out.1.size _, (X1.out.2.alloc _).otherRow _ (Nat.ne_of_lt X1.out.2.lt), hn1.out.setRow _⟩)
    rw [← hw2]
    have X1lt := Lib.hid X1.out.2.lt
    clear hw2 hn1 X1
    have H5 := Lib.hid (show 0 < d ∧ k + 16 ≤ d ∧ d ≤ 9223372036854775807 from ⟨by have := H.out.2.2.2.2.2.2.1; omega, H.out.2.2.2.2.2.2⟩)
    refine wp_region_held_drew (S := fun w' => Below w.heap.size w w' ∧ Blk w' w.heap.size 26 (hdA hd0) ∧ Blk w' w1.heap.size 26 (hdA h)) (by kernel_rfl) ⟨X2.out.1.drew, X2.out.2.1.drew, X2.out.2.2.drew⟩ (fun hHeld => ?_)
    refine wpAnyH_take (i := 0) (v := .slice A n c) rfl (by kernel_rfl) (by kernel_rfl) (by kernel_rfl) (fun _ _ _ h => h) (yieldsIf_move (by rfl) (.tmp 0) rfl _ rfl) hHeld ?_
    simp only [Act.put, List.getElem_toArray, List.getElem_cons_zero, List.setIfInBounds_toArray, List.set_cons_succ, List.set_cons_zero]
    refine wpAnyH_take (i := 1) (v := .slice (some ad) (k + 16) d) rfl (by kernel_rfl) (by kernel_rfl) (by kernel_rfl) (fun _ _ _ h => h) (yieldsIf_move (by rfl) (.tmp 1) rfl _ rfl) hHeld ?_
    simp only [Act.put, List.getElem_toArray, List.getElem_cons_succ, List.getElem_cons_zero, List.setIfInBounds_toArray, List.set_cons_succ, List.set_cons_zero]
    refine wpAnyH_take (i := 2) (v := .int .i64 ((k : Int) + 16)) rfl (by kernel_rfl) (by kernel_rfl) (by kernel_rfl) (fun _ _ _ h => h) (yieldsIf_move (by rfl) (.tmp 9) rfl _ rfl) hHeld ?_
    simp only [Act.put, List.getElem_toArray, List.getElem_cons_succ, List.getElem_cons_zero, List.setIfInBounds_toArray, List.set_cons_succ, List.set_cons_zero]
    refine wpAnyH_take (i := 3) (v := .int .i64 k) rfl (by kernel_rfl) (by kernel_rfl) (by kernel_rfl) (fun _ _ _ h => h) (yieldsIf_sub (by rfl) 3 3 (.tmp 23) (.const (.int .i64 16)) rfl _ _ _ rfl rfl (fun w => run_sub16 k w (by omega))) hHeld ?_
    simp only [Act.put, List.getElem_toArray, List.getElem_cons_succ, List.getElem_cons_zero, List.setIfInBounds_toArray, List.set_cons_succ, List.set_cons_zero]
    refine wpAnyH_take (i := 4) (v := .slice (some ad) k d) rfl (by kernel_rfl) (by kernel_rfl) (by kernel_rfl) (fun _ _ _ h => h) (yieldsIf_sliceTo (by rfl) 22 (.tmp 22) (.tmp 24) rfl _ _ _ rfl rfl (run_to8 ad (k + 16) d k (by have := H5.out.2.1; omega))) hHeld ?_
    simp only [Act.put, List.getElem_toArray, List.getElem_cons_succ, List.getElem_cons_zero, List.setIfInBounds_toArray, List.set_cons_succ, List.set_cons_zero]
    refine wpAnyH_take (i := 6) (v := .slice (some ad) (k + 16) d) rfl (by kernel_rfl) (by kernel_rfl) (by kernel_rfl) (fun _ _ _ h => h) (yieldsIf_move (by rfl) (.tmp 1) rfl _ rfl) hHeld ?_
    simp only [Act.put, List.getElem_toArray, List.getElem_cons_succ, List.getElem_cons_zero, List.setIfInBounds_toArray, List.set_cons_succ, List.set_cons_zero]
    refine wpAnyH_take (i := 7) (v := .int .i64 ((k : Int) + 16)) rfl (by kernel_rfl) (by kernel_rfl) (by kernel_rfl) (fun _ _ _ h => h) (yieldsIf_move (by rfl) (.tmp 9) rfl _ rfl) hHeld ?_
    simp only [Act.put, List.getElem_toArray, List.getElem_cons_succ, List.getElem_cons_zero, List.setIfInBounds_toArray, List.set_cons_succ, List.set_cons_zero]
    refine wpAnyH_take (i := 8) (v := .int .i64 k) rfl (by kernel_rfl) (by kernel_rfl) (by kernel_rfl) (fun _ _ _ h => h) (yieldsIf_sub (by rfl) 3 3 (.tmp 28) (.const (.int .i64 16)) rfl _ _ _ rfl rfl (fun w => run_sub16 k w (by omega))) hHeld ?_
    simp only [Act.put, List.getElem_toArray, List.getElem_cons_succ, List.getElem_cons_zero, List.setIfInBounds_toArray, List.set_cons_succ, List.set_cons_zero]
    refine wpAnyH_take (i := 9) (v := .slice (some (ad.add k)) 16 (d - k)) rfl (by kernel_rfl) (by kernel_rfl) (by kernel_rfl) (fun _ _ _ h => h) (yieldsIf_sliceFrom (by rfl) 22 (.tmp 27) (.tmp 29) rfl _ _ _ rfl rfl (run_from8q ad (k + 16) d k 16 (by omega) (by have := H5.out.2.1; omega) (by omega))) hHeld ?_
    simp only [Act.put, List.getElem_toArray, List.getElem_cons_succ, List.getElem_cons_zero, List.setIfInBounds_toArray, List.set_cons_succ, List.set_cons_zero]
    refine wpAnyH_ready (rs := [5]) (by kernel_rfl) (by simp) (AllReadyH.cons rfl (fun K hK => ?_) AllReadyH.nil)
    rw [if_pos (by rfl)]
    go_simp
    refine (refTag_any (c := c) (d := d) _ (H.out.1.below hHeld.1) H.out.2.1 H.out.2.2.1 (by have := H.out.2.2.2.1; omega) ((H.out.2.2.2.2.1.below hHeld.1).front (k := k) (by omega)) (show U8s (zs.take k) from (show U8s zs from H.out.2.2.2.2.2.1).take k) ⟨by have := H5.out.2.1; omega, H5.out.2.2⟩ (by omega)).mono ?_
    rintro e w3 ⟨A3, c3, rfl, hm3⟩
    have hb3 := hm3.below
    have hT := Lib.hid hm3.sb
    clear hm3
    refine hK.out _ _ ⟨hHeld.1.trans (hb3.mono hHeld.1.size), hHeld.2.1.below hb3 hHeld.2.1.lt, hHeld.2.2.below hb3 hHeld.2.2.lt⟩ (fun hHeld => ?_)
    clear hK K hb3
    refine wpAnyH_ready (rs := [10]) (by kernel_rfl) (by simp) (AllReadyH.cons rfl (fun K hK => ?_) AllReadyH.nil)
    rw [if_pos (by rfl)]
    go_simp
    refine (refSame_any (c := c3) (c' := d - k) hT.out ((H.out.2.2.2.2.1.below hHeld.1).fromq (k := k) (q := 16) (by omega) (by omega)) (by omega) (by omega)).mono ?_
    rintro e w4 ⟨rfl, q4, rfl⟩
    refine hK.out _ _ ⟨below_drewN' hHeld.1 q4, hHeld.2.1.drewN q4, hHeld.2.2.drewN q4⟩ (fun hHeld => ?_)
    clear hK K hT
    obtain ⟨b, hb⟩ : ∃ b, b = decide (tagS key (zs.take k) = zs.drop k) := ⟨_, rfl⟩
    rw [← hb]
    refine wpAnyH_take (i := 11) (v := .bool (!b)) rfl (by kernel_rfl) (by kernel_rfl) (by kernel_rfl) (fun _ _ _ h => h) (yieldsIf_no (by rfl) 4 (.tmp 31) rfl b rfl) hHeld ?_
    simp only [Act.put, List.getElem_toArray, List.getElem_cons_succ, List.getElem_cons_zero, List.setIfInBounds_toArray, List.set_cons_succ, List.set_cons_zero]
    refine wpAnyH_done (by kernel_rfl) ?_ _
    obtain ⟨w5, hw5⟩ : ∃ w5, w5 = w3.drewN q4 := ⟨_, rfl⟩
    rw [← hw5] at hHeld ⊢
    clear hw5
    have X5 := Lib.hid hHeld
    have hlen : zs.length - 16 = k := by have := HL.out; omega
    clear hHeld
    cases b with
    | false =>
      have HF := Lib.hid (show openS key zs = (hd0, [], 8) from open_tag HE.out.1 (by rw [hlen]; simpa [eq_comm] using hb.symm))
      clear hb hlen
      obtain ⟨⟨c0, c1, c2, c3⟩, f0, f1, f2, f3⟩ := X5.out.2.1.zeros
      go_wp2_with fail
      have hres : Blk (put4 w5 w.heap.size (.int .u8 0) (.bool false) (.int .u32 0) (.int .u64 0)) w.heap.size 26 (hdA hd0) := put4_blk X5.out.2.1
      exact bodyPost_ret (v := .tuple #[.agg (hdA hd0), .slice none 0 0, .int .i64 8]) (results_css Tryd.results17 _ _ w.heap.size 26 _ (0, 0) _ rfl hres Tryd.underlying26 rfl infoH _ _ rfl rfl) rfl (by rw [HF.out]; exact ⟨_, _, _, rfl, MadeAt.mk' (World.ownsRow_nil _ _ _ _) (put4_below X5.out.1 (Nat.le_refl _))⟩)
    | true =>
      have HF := Lib.hid (show openS key zs = (h, (zs.take k).drop 14, 0) from by
        rw [open_good HE.out.1 (by rw [hlen]; simpa [eq_comm] using hb.symm), hlen, HE.out.2])
      clear hb hlen
      go_upto_region 7 with fail
      refine wp_region_held_drew (S := fun w' => Below w.heap.size w w' ∧ (∃ g : Hd, Blk w' w.heap.size 26 (hdA g)) ∧ Blk w' w1.heap.size 26 (hdA h)) (by kernel_rfl) ⟨X5.out.1.drew, ⟨_, X5.out.2.1.drew⟩, X5.out.2.2.drew⟩ (fun hHeld => ?_)
      refine wpAnyH_take (i := 0) (v := .agg (hdA h)) rfl (by kernel_rfl) (by kernel_rfl) (by kernel_rfl) (fun _ _ _ h => h) (yieldsIf_row (by rfl) 26 (.tmp 7) rfl w1.heap.size rfl 26 (hdA h) _ (fun _ h => h.2.2) Tryd.underlying26 rfl infoH) hHeld ?_
      simp only [Act.put, List.getElem_toArray, List.getElem_cons_zero, List.setIfInBounds_toArray, List.set_cons_succ, List.set_cons_zero]
      refine wpAnyH_take (i := 1) (v := .slice (some ad) (k + 16) d) rfl (by kernel_rfl) (by kernel_rfl) (by kernel_rfl) (fun _ _ _ h => h) (yieldsIf_move (by rfl) (.tmp 1) rfl _ rfl) hHeld ?_
      simp only [Act.put, List.getElem_toArray, List.getElem_cons_succ, List.getElem_cons_zero, List.setIfInBounds_toArray, List.set_cons_succ, List.set_cons_zero]
      refine wpAnyH_take (i := 2) (v := .int .i64 ((k : Int) + 16)) rfl (by kernel_rfl) (by kernel_rfl) (by kernel_rfl) (fun _ _ _ h => h) (yieldsIf_move (by rfl) (.tmp 9) rfl _ rfl) hHeld ?_
      simp only [Act.put, List.getElem_toArray, List.getElem_cons_succ, List.getElem_cons_zero, List.setIfInBounds_toArray, List.set_cons_succ, List.set_cons_zero]
      refine wpAnyH_take (i := 3) (v := .int .i64 k) rfl (by kernel_rfl) (by kernel_rfl) (by kernel_rfl) (fun _ _ _ h => h) (yieldsIf_sub (by rfl) 3 3 (.tmp 36) (.const (.int .i64 16)) rfl _ _ _ rfl rfl (fun w => run_sub16 k w (by omega))) hHeld ?_
      simp only [Act.put, List.getElem_toArray, List.getElem_cons_succ, List.getElem_cons_zero, List.setIfInBounds_toArray, List.set_cons_succ, List.set_cons_zero]
      refine wpAnyH_take (i := 4) (v := .slice (some (ad.add 14)) (k - 14) (d - 14)) rfl (by kernel_rfl) (by kernel_rfl) (by kernel_rfl) (fun _ _ _ h => h) (yieldsIf_sliceOf (by rfl) 22 (.tmp 35) (.const (.int .i64 14)) (.tmp 37) rfl _ _ _ _ rfl rfl rfl (run_of8 ad (k + 16) d 14 k (by omega) (by have := H5.out.2.1; omega) (by have := H5.out.2.1; omega))) hHeld ?_
      simp only [Act.put, List.getElem_toArray, List.getElem_cons_succ, List.getElem_cons_zero, List.setIfInBounds_toArray, List.set_cons_succ, List.set_cons_zero]
      refine wpAnyH_ready (rs := [5]) (by kernel_rfl) (by simp) (AllReadyH.cons rfl (fun K hK => ?_) AllReadyH.nil)
      rw [if_pos (by rfl)]
      go_simp
      refine (copy_any (c := d - 14) (((H.out.2.2.2.2.1.below hHeld.1).front (k := k) (by omega)).from (k := 14) hk14) (by omega)).mono ?_
      rintro e w6 ⟨g6, rfl, ho6, hb6⟩
      have hm6 := MadeAt.mk' ho6 hb6
      have X6 := Lib.hid (And.intro hm6 (show w.heap.size < w5.drew.heap.size from hHeld.2.1.choose_spec.lt))
      have X7 := Lib.hid (show Below w.heap.size w w6 ∧ (∃ g : Hd, Blk w6 w.heap.size 26 (hdA g)) ∧ Blk w6 w1.heap.size 26 (hdA h) from ⟨hHeld.1.trans (hb6.mono hHeld.1.size), ⟨_, hHeld.2.1.choose_spec.below hb6 hHeld.2.1.choose_spec.lt⟩, hHeld.2.2.below hb6 hHeld.2.2.lt⟩)
      refine hK.out _ _ X7.out (fun hHeld => ?_)
      clear hK K hm6 ho6 hb6
      refine wpAnyH_ready (rs := [6]) (by kernel_rfl) (by simp) (AllReadyH.cons rfl (fun K hK => ?_) AllReadyH.nil)
      rw [if_pos (by rfl)]
      refine wp_store_row 26 (.tmp 4) (.tmp 34) rfl w.heap.size (hdA h) rfl rfl 26 _ hHeld.2.1.choose_spec infoH rfl (hdA_one _) ?_
      have hne : w1.heap.size ≠ w.heap.size := by have := X1lt.out; omega
      have hres := hHeld.2.1.choose_spec.setRow (hdA h)
      have hbel := below_setRow hHeld.1 (Nat.le_refl _) (hdA h)
      have hoth := hHeld.2.2.otherRow (hdA h) hne
      refine hK.out _ _ ⟨hbel, ⟨_, hres⟩, hoth⟩ (fun hHeld2 => ?_)
      clear hK K hHeld hoth
      refine wpAnyH_take (i := 7) (v := .slice (some ⟨g6, 0, none⟩) (k - 14) (k - 14)) rfl (by kernel_rfl) (by kernel_rfl) (by kernel_rfl) (fun _ _ _ h => h) (yieldsIf_set (by rfl) (.tmp 39) rfl _ rfl) hHeld2 ?_
      simp only [Act.put, List.getElem_toArray, List.getElem_cons_succ, List.getElem_cons_zero, List.setIfInBounds_toArray, List.set_cons_succ, List.set_cons_zero]
      refine wpAnyH_take (i := 8) (v := .int .i64 0) rfl (by kernel_rfl) (by kernel_rfl) (by kernel_rfl) (fun _ _ _ h => h) (yieldsIf_set (by rfl) (.const (.int .i64 0)) rfl _ rfl) hHeld2 ?_
      simp only [Act.put, List.getElem_toArray, List.getElem_cons_succ, List.getElem_cons_zero, List.setIfInBounds_toArray, List.set_cons_succ, List.set_cons_zero]
      refine wpAnyH_done (by kernel_rfl) ?_ _
      have hown := own_base (X6.out.1.setRow X6.out.2 (hdA h)) (Nat.le_of_lt X6.out.2)
      clear hHeld2
      go_wp2_with fail
      exact bodyPost_ret (v := .tuple #[.agg (hdA h), .slice (some ⟨g6, 0, none⟩) (k - 14) (k - 14), .int .i64 0]) (results_css Tryd.results17 _ _ w.heap.size 26 _ (0, 0) _ rfl hres Tryd.underlying26 rfl infoH _ _ rfl rfl) rfl (by rw [HF.out]; exact ⟨_, _, _, rfl, MadeAt.mk' hown hbel⟩)
  · rw [open_peek he]
    obtain ⟨r, hr⟩ : ∃ r, r = (peekS zs).2 := ⟨_, rfl⟩
    have HR := Lib.hid (show (peekS zs).1 = hd0 from peek_zero he)
    rw [HR.out, ← hr] at HC
    rw [← hr] at he ⊢
    have hdr : (r != 0) = true := by simpa using he
    clear hr hl he
    go_enter Tryd.func17, Tryd.ntmps17
    go_wp2_with fail
    rw [← hw0]
    clear hw0
    refine HC.out.mono ?_
    rintro e w1 ⟨rfl, hb1⟩
    have X1 := Lib.hid (show Below w.heap.size w w1 ∧ Blk w1 w.heap.size 26 (hdA hd0) from ⟨X0.out.1.trans (hb1.mono X0.out.1.size), X0.out.2.below hb1 X0.out.2.lt⟩)
    clear hb1 HC X0
    have hn1 : Hid (Blk (w1.alloc (.cells #[.int .u8 0, .bool false, .int .u32 0, .int .u64 0] 26)) w1.heap.size 26 (hdA hd0)) := Blk.new _ _ _
    go_upto_region 2 with (refine wpList_store_row rfl 26 (.tmp 7) (.tmp 13) rfl w1.heap.size (hdA hd0) rfl rfl 26 (hdA hd0) hn1.out infoH rfl (hdA_one _) ?_)
    obtain ⟨w2, hw2⟩ : ∃ w2, w2 = (w1.alloc (.cells #[.int .u8 0, .bool false, .int .u32 0, .int .u64 0] 26)).setRow w1.heap.size (hdA hd0) := ⟨_, rfl⟩
    have X2 := Lib.hid (show Below w.heap.size w w2 ∧ Blk w2 w.heap.size 26 (hdA hd0) from by
      rw [hw2]
      exact ⟨below_setRow (X1.out.1.alloc X1.out.1.size _) X1.out.1.size _, (X1.out.2.alloc _).otherRow _ (Nat.ne_of_lt X1.out.2.lt)⟩)
    rw [← hw2]
    clear hw2 hn1 X1
    obtain ⟨⟨c0, c1, c2, c3⟩, f0, f1, f2, f3⟩ := X2.out.2.zeros
    go_wp2_with fail
    have hres : Blk (put4 w2 w.heap.size (.int .u8 0) (.bool false) (.int .u32 0) (.int .u64 0)) w.heap.size 26 (hdA hd0) := put4_blk X2.out.2
    exact bodyPost_ret (v := .tuple #[.agg (hdA hd0), .slice none 0 0, .int .i64 r]) (results_css Tryd.results17 _ _ w.heap.size 26 _ (0, 0) _ rfl hres Tryd.underlying26 rfl infoH _ _ rfl rfl) rfl ⟨_, _, _, rfl, MadeAt.mk' (World.ownsRow_nil _ _ _ _) (put4_below X2.out.1 (Nat.le_refl _))⟩

end Go.Proofs.YtogaakokplobaaaDoor
