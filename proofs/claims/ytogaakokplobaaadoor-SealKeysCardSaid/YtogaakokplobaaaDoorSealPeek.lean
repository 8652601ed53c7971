/-
  Contracts of readHeader and Peek.
-/
import Derived.Test.YtogaakokplobaaaDoorSealDraw
import Derived.Test.YtogaakokplobaaaDoorWireRead
namespace Go.Proofs.YtogaakokplobaaaDoor
open Go.RowKit

set_option maxHeartbeats 1600000 in
theorem readHeader_any {A : Option Addr} {c : Nat} {l : List Int} (w : World) (hb : Sb w A 14 l) (hu : U8s l) :
    Calls Tryd.prog 28 #[.slice A 14 c] w fun e w' => e = .returned (.tuple #[.agg (hdA (readH l)), .bool (decide (l.getD 1 0 ≤ 1) && mayH (readH l))]) ∧ Below w.heap.size w w' := by
  have hl := hb.len
  have hok := readH_ok hu
  have hg1 := hu.getD 1
  obtain ⟨k, hk⟩ : ∃ k, k = (readH l).k := ⟨_, rfl⟩
  obtain ⟨wy, hwy⟩ : ∃ wy, wy = l.getD 1 0 := ⟨_, rfl⟩
  obtain ⟨ep, hep⟩ : ∃ ep, ep = (readH l).e := ⟨_, rfl⟩
  obtain ⟨sq, hsq⟩ : ∃ sq, sq = (readH l).s := ⟨_, rfl⟩
  have q1 : num1 l 0 1 = (k, l.drop 1, 0) := by
    rw [hk, show (1 : Int) = ((1 : Nat) : Int) from rfl, num1_len (by omega) (by omega) (by omega), take_snoc (k := 0) (by omega)]
    simp [valL, readH]
  have q2 : num1 (l.drop 1) 0 1 = (wy, l.drop 2, 0) := by
    rw [hwy, show (1 : Int) = ((1 : Nat) : Int) from rfl, num1_len (by omega) (by omega) (by simp; omega), take_snoc (k := 0) (by simp; omega), List.drop_drop]
    simp [valL]
  have q3 : num1 (l.drop 2) 0 4 = (ep, l.drop 6, 0) := by
    rw [hep, show (4 : Int) = ((4 : Nat) : Int) from rfl, num1_len (by omega) (by omega) (by simp; omega), List.drop_drop]
    rfl
  have q4 : num1 (l.drop 6) 0 8 = (sq, l.drop 14, 0) := by
    rw [hsq, show (8 : Int) = ((8 : Nat) : Int) from rfl, num1_len (by omega) (by omega) (by simp; omega), List.drop_drop]
    rfl
  have hkb : 0 ≤ k ∧ k ≤ 255 := by rw [hk]; exact ⟨hok.k0, hok.k1⟩
  have heb : 0 ≤ ep ∧ ep ≤ 4294967295 := by rw [hep]; exact ⟨hok.e0, hok.e1⟩
  have hsb : 0 ≤ sq ∧ sq ≤ 18446744073709551615 := by rw [hsq]; exact ⟨hok.s0, hok.s1⟩
  have HH := Lib.hid (show readH l = ⟨k, wy == 1, ep, sq⟩ from head_ext hk.symm (by rw [hwy]; rfl) hep.symm hsq.symm)
  rw [← hwy]
  rw [← hwy] at hg1
  have Q := Lib.hid (And.intro q1 (And.intro q2 (And.intro q3 q4)))
  clear q1 q2 q3 q4 hk hwy hep hsq hok
  have b0 : Below w.heap.size w (w.alloc (.cells #[.int .u8 0, .bool false, .int .u32 0, .int .u64 0] 26)) := (Below.refl _ _).alloc (Nat.le_refl _) _
  have X0 := Lib.hid (show Below w.heap.size w (w.alloc (.cells #[.int .u8 0, .bool false, .int .u32 0, .int .u64 0] 26)) ∧ Blk (w.alloc (.cells #[.int .u8 0, .bool false, .int .u32 0, .int .u64 0] 26)) w.heap.size 26 (hdA hd0) from ⟨b0, Blk.new _ _ _⟩)
  have HN := Lib.hid (new_any (c := c) (hb.below b0) (by omega))
  have HU := Lib.hid hu
  obtain ⟨w0, hw0⟩ : ∃ w0, w0 = w.alloc (.cells #[.int .u8 0, .bool false, .int .u32 0, .int .u64 0] 26) := ⟨_, rfl⟩
  rw [← hw0] at HN X0
  clear hu b0 hb
  rw [HH.out]
  go_enter Tryd.func28, Tryd.ntmps28
  go_wp2_with fail
  rw [← hw0]
  clear hw0
  refine HN.out.mono ?_
  rintro e w1 ⟨r, A1, n1, c1, rfl, hrd1, hb1⟩
  have hr := hrd1.lo
  have HL1 := Lib.hid (show n1 = 14 from by rw [← hrd1.sb.len]; exact hl)
  have HC := Lib.hid (rnum_any hrd1 HU.out (by have := HL1.out; omega) 1 (by omega))
  rw [Q.out.1] at HC
  have B1 := Lib.hid hb1
  clear HN hrd1 hb1
  go_wp2_with fail
  refine HC.out.mono ?_
  rintro e w2 ⟨rfl, hto⟩
  have B2 := Lib.hid (hto.below B1.out B1.out.size hr)
  obtain ⟨⟨A2, n2, c2, hrd2⟩, _⟩ := hto
  clear HC B1 HL1
  have HC := Lib.hid (rnum_any hrd2 (HU.out.drop 1) (by have := hrd2.sb.len; simp at this; omega) 1 (by omega))
  rw [Q.out.2.1] at HC
  clear hrd2
  go_wp2_with fail
  refine HC.out.mono ?_
  rintro e w3 ⟨rfl, hto⟩
  have B3 := Lib.hid (hto.below B2.out B2.out.size hr)
  obtain ⟨⟨A3, n3, c3, hrd3⟩, _⟩ := hto
  clear HC B2
  have HC := Lib.hid (rnum_any hrd3 (HU.out.drop 2) (by have := hrd3.sb.len; simp at this; omega) 4 (by omega))
  rw [Q.out.2.2.1] at HC
  clear hrd3
  go_wp2_with fail
  refine HC.out.mono ?_
  rintro e w4 ⟨rfl, hto⟩
  have B4 := Lib.hid (hto.below B3.out B3.out.size hr)
  obtain ⟨⟨A4, n4, c4, hrd4⟩, _⟩ := hto
  clear HC B3
  have HC := Lib.hid (rnum_any hrd4 (HU.out.drop 6) (by have := hrd4.sb.len; simp at this; omega) 8 (by omega))
  rw [Q.out.2.2.2] at HC
  clear hrd4
  go_wp2_with fail
  refine HC.out.mono ?_
  rintro e w5 ⟨rfl, hto⟩
  have X5 := Lib.hid (show Below w.heap.size w w5 ∧ Blk w5 w.heap.size 26 (hdA hd0) from by
    have h1 := hto.below B4.out B4.out.size hr
    exact ⟨X0.out.1.trans (h1.mono X0.out.1.size), X0.out.2.below h1 X0.out.2.lt⟩)
  clear HC B4 hto Q X0 hr HU hl
  obtain ⟨hk0, hk1⟩ := hkb
  obtain ⟨he0, he1⟩ := heb
  obtain ⟨hs0, hs1⟩ := hsb
  obtain ⟨hy0, hy1⟩ := hg1
  go_upto_region 5 with fail
  obtain ⟨w6, hw6⟩ : ∃ w6, w6 = w5.alloc (.cells #[.int .u8 k, .bool (wy == 1), .int .u32 ep, .int .u64 sq] 26) := ⟨_, rfl⟩
  have hne := Lib.hid (show w5.heap.size ≠ w.heap.size from by have := X5.out.2.lt; omega)
  have X6 := Lib.hid (show Below w.heap.size w w6 ∧ Blk w6 w5.heap.size 26 (hdA ⟨k, wy == 1, ep, sq⟩) ∧ Blk w6 w.heap.size 26 (hdA hd0) from by
    rw [hw6]
    exact ⟨X5.out.1.alloc X5.out.1.size _, Blk.new _ _ _, X5.out.2.alloc _⟩)
  rw [← hw6]
  clear hw6 X5
  by_cases hw1 : wy ≤ 1
  · have hd1 : decide (wy ≤ 1) = true := by simpa using hw1
    refine wp_region_held_drew (S := fun w' => Below w.heap.size w w' ∧ Blk w' w5.heap.size 26 (hdA ⟨k, wy == 1, ep, sq⟩) ∧ ∃ g : Hd, Blk w' w.heap.size 26 (hdA g)) (by kernel_rfl) ⟨X6.out.1.drew, X6.out.2.1.drew, _, X6.out.2.2.drew⟩ (fun hHeld => ?_)
    refine wpAnyH_take (i := 0) (v := .agg (hdA ⟨k, wy == 1, ep, sq⟩)) rfl (by kernel_rfl) (by kernel_rfl) (by kernel_rfl) (fun _ _ _ h => h) (yieldsIf_row (by rfl) 26 (.tmp 9) rfl w5.heap.size rfl 26 (hdA ⟨k, wy == 1, ep, sq⟩) _ (fun _ h => h.2.1) Tryd.underlying26 rfl infoH) hHeld ?_
    simp only [Act.put, List.getElem_toArray, List.getElem_cons_zero, List.setIfInBounds_toArray, List.set_cons_succ, List.set_cons_zero]
    refine wpAnyH_take (i := 1) (v := .int .u64 wy) rfl (by kernel_rfl) (by kernel_rfl) (by kernel_rfl) (fun _ _ _ h => h) (yieldsIf_move (by rfl) (.tmp 6) rfl _ rfl) hHeld ?_
    simp only [Act.put, List.getElem_toArray, List.getElem_cons_succ, List.getElem_cons_zero, List.setIfInBounds_toArray, List.set_cons_succ, List.set_cons_zero]
    refine wpAnyH_take (i := 2) (v := .bool true) rfl (by kernel_rfl) (by kernel_rfl) (by kernel_rfl) (fun _ _ _ h => h) (yieldsIf_leq (by rfl) 24 24 (.tmp 29) (.const (.int .u64 1)) rfl .u64 wy 1 true rfl rfl hd1 (fun _ => rfl)) hHeld ?_
    simp only [Act.put, List.getElem_toArray, List.getElem_cons_succ, List.getElem_cons_zero, List.setIfInBounds_toArray, List.set_cons_succ, List.set_cons_zero]
    refine wpAnyH_take (i := 3) (v := .bool true) rfl (by kernel_rfl) (by kernel_rfl) (by kernel_rfl) (fun _ _ _ h => h) (yieldsIf_move (by rfl) (.tmp 30) rfl _ rfl) hHeld ?_
    simp only [Act.put, List.getElem_toArray, List.getElem_cons_succ, List.getElem_cons_zero, List.setIfInBounds_toArray, List.set_cons_succ, List.set_cons_zero]
    refine wpAnyH_take (i := 4) (v := .agg (hdA ⟨k, wy == 1, ep, sq⟩)) rfl (by kernel_rfl) (by kernel_rfl) (by kernel_rfl) (fun _ _ _ h => h) (yieldsIf_row (by rfl) 26 (.tmp 9) rfl w5.heap.size rfl 26 (hdA ⟨k, wy == 1, ep, sq⟩) _ (fun _ h => h.2.1) Tryd.underlying26 rfl infoH) hHeld ?_
    simp only [Act.put, List.getElem_toArray, List.getElem_cons_succ, List.getElem_cons_zero, List.setIfInBounds_toArray, List.set_cons_succ, List.set_cons_zero]
    refine wpAnyH_ready (rs := [5]) (by kernel_rfl) (by simp) (AllReadyH.cons rfl (fun K hK => ?_) AllReadyH.nil)
    rw [if_pos (by rfl)]
    go_simp
    refine (may_any ⟨k, wy == 1, ep, sq⟩ _).mono ?_
    rintro e w7 ⟨rfl, rfl⟩
    refine hK.out _ _ ⟨hHeld.1.alloc hHeld.1.size _, hHeld.2.1.alloc _, _, hHeld.2.2.choose_spec.alloc _⟩ (fun hHeld => ?_)
    clear hK K
    refine wpAnyH_take (i := 6) (v := .bool (mayH ⟨k, wy == 1, ep, sq⟩)) rfl (by kernel_rfl) (by kernel_rfl) (by kernel_rfl) (fun _ _ _ h => h) (yieldsIf_pickT (by rfl) (.tmp 31) (.tmp 33) (.const (.bool false)) rfl _ rfl rfl) hHeld ?_
    simp only [Act.put, List.getElem_toArray, List.getElem_cons_succ, List.getElem_cons_zero, List.setIfInBounds_toArray, List.set_cons_succ, List.set_cons_zero]
    refine wpAnyH_ready (rs := [7]) (by kernel_rfl) (by simp) (AllReadyH.cons rfl (fun K hK => ?_) AllReadyH.nil)
    rw [if_pos (by rfl)]
    refine wp_store_row 26 (.tmp 2) (.tmp 28) rfl w.heap.size (hdA ⟨k, wy == 1, ep, sq⟩) rfl rfl 26 _ hHeld.2.2.choose_spec infoH rfl (hdA_one _) ?_
    have hres := hHeld.2.2.choose_spec.setRow (hdA ⟨k, wy == 1, ep, sq⟩)
    have hbel := below_setRow hHeld.1 (Nat.le_refl _) (hdA ⟨k, wy == 1, ep, sq⟩)
    have hoth := hHeld.2.1.otherRow (hdA ⟨k, wy == 1, ep, sq⟩) hne.out
    refine hK.out _ _ ⟨hbel, hoth, _, hres⟩ (fun hHeld2 => ?_)
    clear hK K hHeld hoth
    refine wpAnyH_take (i := 8) (v := .bool (mayH ⟨k, wy == 1, ep, sq⟩)) rfl (by kernel_rfl) (by kernel_rfl) (by kernel_rfl) (fun _ _ _ h => h) (yieldsIf_set (by rfl) (.tmp 34) rfl _ rfl) hHeld2 ?_
    simp only [Act.put, List.getElem_toArray, List.getElem_cons_succ, List.getElem_cons_zero, List.setIfInBounds_toArray, List.set_cons_succ, List.set_cons_zero]
    refine wpAnyH_done (by kernel_rfl) ?_ _
    go_wp2_with fail
    exact bodyPost_ret (v := .tuple #[.agg (hdA ⟨k, wy == 1, ep, sq⟩), .bool (mayH ⟨k, wy == 1, ep, sq⟩)]) (results_cs Tryd.results28 _ _ w.heap.size 26 _ (0, 0) _ rfl hres Tryd.underlying26 rfl infoH _ rfl) rfl ⟨(by first | rfl | (rw [hd1]; rfl)), hbel⟩
  · have hd1 : decide (wy ≤ 1) = false := by simpa using hw1
    refine wp_region_held_drew (S := fun w' => Below w.heap.size w w' ∧ Blk w' w5.heap.size 26 (hdA ⟨k, wy == 1, ep, sq⟩) ∧ ∃ g : Hd, Blk w' w.heap.size 26 (hdA g)) (by kernel_rfl) ⟨X6.out.1.drew, X6.out.2.1.drew, _, X6.out.2.2.drew⟩ (fun hHeld => ?_)
    refine wpAnyH_take (i := 0) (v := .agg (hdA ⟨k, wy == 1, ep, sq⟩)) rfl (by kernel_rfl) (by kernel_rfl) (by kernel_rfl) (fun _ _ _ h => h) (yieldsIf_row (by rfl) 26 (.tmp 9) rfl w5.heap.size rfl 26 (hdA ⟨k, wy == 1, ep, sq⟩) _ (fun _ h => h.2.1) Tryd.underlying26 rfl infoH) hHeld ?_
    simp only [Act.put, List.getElem_toArray, List.getElem_cons_zero, List.setIfInBounds_toArray, List.set_cons_succ, List.set_cons_zero]
    refine wpAnyH_take (i := 1) (v := .int .u64 wy) rfl (by kernel_rfl) (by kernel_rfl) (by kernel_rfl) (fun _ _ _ h => h) (yieldsIf_move (by rfl) (.tmp 6) rfl _ rfl) hHeld ?_
    simp only [Act.put, List.getElem_toArray, List.getElem_cons_succ, List.getElem_cons_zero, List.setIfInBounds_toArray, List.set_cons_succ, List.set_cons_zero]
    refine wpAnyH_take (i := 2) (v := .bool false) rfl (by kernel_rfl) (by kernel_rfl) (by kernel_rfl) (fun _ _ _ h => h) (yieldsIf_leq (by rfl) 24 24 (.tmp 29) (.const (.int .u64 1)) rfl .u64 wy 1 false rfl rfl hd1 (fun _ => rfl)) hHeld ?_
    simp only [Act.put, List.getElem_toArray, List.getElem_cons_succ, List.getElem_cons_zero, List.setIfInBounds_toArray, List.set_cons_succ, List.set_cons_zero]
    refine wpAnyH_take (i := 3) (v := .bool false) rfl (by kernel_rfl) (by kernel_rfl) (by kernel_rfl) (fun _ _ _ h => h) (yieldsIf_move (by rfl) (.tmp 30) rfl _ rfl) hHeld ?_
    simp only [Act.put, List.getElem_toArray, List.getElem_cons_succ, List.getElem_cons_zero, List.setIfInBounds_toArray, List.set_cons_succ, List.set_cons_zero]
    refine wpAnyH_take (i := 4) (v := undef) rfl (by kernel_rfl) (by kernel_rfl) (by kernel_rfl) (fun _ _ _ h => h) (yieldsIf_not (by rfl)) hHeld ?_
    simp only [Act.put, List.getElem_toArray, List.getElem_cons_succ, List.getElem_cons_zero, List.setIfInBounds_toArray, List.set_cons_succ, List.set_cons_zero]
    refine wpAnyH_take (i := 5) (v := undef) rfl (by kernel_rfl) (by kernel_rfl) (by kernel_rfl) (fun _ _ _ h => h) (yieldsIf_not (by rfl)) hHeld ?_
    simp only [Act.put, List.getElem_toArray, List.getElem_cons_succ, List.getElem_cons_zero, List.setIfInBounds_toArray, List.set_cons_succ, List.set_cons_zero]
    refine wpAnyH_take (i := 6) (v := .bool false) rfl (by kernel_rfl) (by kernel_rfl) (by kernel_rfl) (fun _ _ _ h => h) (yieldsIf_pickF (by rfl) (.tmp 31) (.tmp 33) (.const (.bool false)) rfl _ rfl rfl) hHeld ?_
    simp only [Act.put, List.getElem_toArray, List.getElem_cons_succ, List.getElem_cons_zero, List.setIfInBounds_toArray, List.set_cons_succ, List.set_cons_zero]
    refine wpAnyH_ready (rs := [7]) (by kernel_rfl) (by simp) (AllReadyH.cons rfl (fun K hK => ?_) AllReadyH.nil)
    rw [if_pos (by rfl)]
    refine wp_store_row 26 (.tmp 2) (.tmp 28) rfl w.heap.size (hdA ⟨k, wy == 1, ep, sq⟩) rfl rfl 26 _ hHeld.2.2.choose_spec infoH rfl (hdA_one _) ?_
    have hres := hHeld.2.2.choose_spec.setRow (hdA ⟨k, wy == 1, ep, sq⟩)
    have hbel := below_setRow hHeld.1 (Nat.le_refl _) (hdA ⟨k, wy == 1, ep, sq⟩)
    have hoth := hHeld.2.1.otherRow (hdA ⟨k, wy == 1, ep, sq⟩) hne.out
    refine hK.out _ _ ⟨hbel, hoth, _, hres⟩ (fun hHeld2 => ?_)
    clear hK K hHeld hoth
    refine wpAnyH_take (i := 8) (v := .bool false) rfl (by kernel_rfl) (by kernel_rfl) (by kernel_rfl) (fun _ _ _ h => h) (yieldsIf_set (by rfl) (.tmp 34) rfl _ rfl) hHeld2 ?_
    simp only [Act.put, List.getElem_toArray, List.getElem_cons_succ, List.getElem_cons_zero, List.setIfInBounds_toArray, List.set_cons_succ, List.set_cons_zero]
    refine wpAnyH_done (by kernel_rfl) ?_ _
    go_wp2_with fail
    exact bodyPost_ret (v := .tuple #[.agg (hdA ⟨k, wy == 1, ep, sq⟩), .bool false]) (results_cs Tryd.results28 _ _ w.heap.size 26 _ (0, 0) _ rfl hres Tryd.underlying26 rfl infoH _ rfl) rfl ⟨(by first | rfl | (rw [hd1]; rfl)), hbel⟩

end Go.Proofs.YtogaakokplobaaaDoor
