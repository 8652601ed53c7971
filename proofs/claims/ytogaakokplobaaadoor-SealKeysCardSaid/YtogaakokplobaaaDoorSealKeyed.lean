/-
  The contracts of Keys: an epoch's keys.
-/
import Derived.Test.YtogaakokplobaaaDoorSealBase
namespace Go.Proofs.YtogaakokplobaaaDoor
open Go.RowKit

def sUp : ByteArray := ⟨#[117, 112]⟩
def sDown : ByteArray := ⟨#[100, 111, 119, 110]⟩
def keysS (key : List Int) (ep : Int) (hash : List Int) : List Int := macS key (toldS (strL sUp) [numL ep 4, hash]) ++ macS key (toldS (strL sDown) [numL ep 4, hash])
theorem keysS_len (key : List Int) (ep : Int) (hash : List Int) : (keysS key ep hash).length = 64 := by simp [keysS, macS_len]
theorem infoKeys {r : List Int} (h : r.length = 64) : (Tryd.prog.info? 49).map (·.size) = some (u8A r).size := by
  rw [u8A_size, h]
  kernel_rfl

/-- While Keys runs: the array that came in, the keys to be, and the number's bytes. -/
structure KS (w : World) (hash num : List Int) (A : Option Addr) (n c : Nat) (wx : World) : Prop where
  bel : Below w.heap.size w wx
  res : ∃ l : List Int, l.length = 64 ∧ Blk wx (w.heap.size + 1) 49 (u8A l)
  arr : Blk wx w.heap.size 46 (u8A hash)
  own : wx.ownsRow (w.heap.size + 2) 5 1 (.slice A n c) n (num.map (Value.int .u8))
  lim : n ≤ c ∧ c ≤ 9223372036854775807
section
variable {w wx w' : World} {hash num : List Int} {A : Option Addr} {n c : Nat}

theorem KS.below (h : KS w hash num A n c wx) (hb : Below wx.heap.size wx w') : KS w hash num A n c w' := by
  obtain ⟨l, hl, hr⟩ := h.res
  exact ⟨h.bel.trans (hb.mono h.bel.size), ⟨l, hl, hr.below hb hr.lt⟩, h.arr.below hb h.arr.lt, own_belowS h.own hb, h.lim⟩
theorem KS.drew (h : KS w hash num A n c wx) : KS w hash num A n c wx.drew := h.below (Below.refl _ _).drew
theorem KS.alloc (h : KS w hash num A n c wx) (o : Obj) : KS w hash num A n c (wx.alloc o) := h.below ((Below.refl _ _).alloc (Nat.le_refl _) _)
theorem KS.store (h : KS w hash num A n c wx) {l : List Int} (hl : l.length = 64) : KS w hash num A n c (wx.setRow (w.heap.size + 1) (u8A l)) := by
  obtain ⟨l0, hl0, hr⟩ := h.res
  refine ⟨below_setRow h.bel (by omega) _, ⟨l, hl, hr.setRow _⟩, h.arr.otherRow _ (by omega), own_grown h.own (grownBy_setRow wx _ _) fun b' e' hq => ?_, h.lim⟩
  have h1 := (h.own.lt b' (by rw [mownBlock_map]; exact e')).1
  injection hq with hq
  omega
theorem KS.ps (h : KS w hash num A n c wx) (hh : hash.length = 32) (h8 : B8s hash) (hn8 : B8s num) :
    Ps (wx.alloc (.cells #[.slice A n c, .slice (some ⟨w.heap.size, 0, none⟩) 32 32] 22)) (some ⟨wx.heap.size, 0, none⟩) 2 [num, hash] := by
  have b : Below wx.heap.size wx (wx.alloc (.cells #[.slice A n c, .slice (some ⟨w.heap.size, 0, none⟩) 32 32] 22)) := (Below.refl _ _).alloc (Nat.le_refl _) _
  have hnew := heap_alloc_new wx (.cells #[.slice A n c, .slice (some ⟨w.heap.size, 0, none⟩) 32 32] 22)
  have hsb : Sb wx (some ⟨w.heap.size, 0, none⟩) 32 hash := ⟨hh, fun _ => ⟨_, rfl, h.arr.lt, fun k hk => by rw [addHead]; exact h.arr.cell8 (by rw [hh]; exact hk)⟩⟩
  refine Ps.of rfl (fun _ => lt_of_block hnew) fun q hq => ?_
  have hq2 : q = 0 ∨ q = 1 := by omega
  rcases hq2 with rfl | rfl
  · exact ⟨A, n, c, (cell_of_row _ wx.heap.size 0 _ _ _ hnew).trans rfl, (Sb.own h.own).below b, h.lim.1, h.lim.2, hn8⟩
  · exact ⟨_, 32, 32, (cell_of_row _ wx.heap.size 1 _ _ _ hnew).trans rfl, hsb.below b, by omega, by omega, h8⟩
end

set_option maxRecDepth 100000 in
set_option maxHeartbeats 6400000 in
theorem keys_any {A : Option Addr} {n c : Nat} {key : List Int} {ep : Int} {hash : List Int} (w : World) (hr : Roots w) (hk : Sb w A n key) (h8 : B8s key) (hc : n ≤ c ∧ c ≤ 9223372036854775807) (hn : n ≤ 1125899906842)
    (he : 0 ≤ ep ∧ ep ≤ 4294967295) (hh : hash.length = 32 ∧ B8s hash) :
    Calls Tryd.prog 21 #[.slice A n c, .int .u32 ep, .agg (u8A hash)] w fun e w' => e = .returned (.agg (u8A (keysS key ep hash))) ∧ Below w.heap.size w w' := by
  obtain ⟨e0, e1⟩ := he
  obtain ⟨r1, hr1⟩ : ∃ r, r = macS key (toldS (strL sUp) [numL ep 4, hash]) := ⟨_, rfl⟩
  obtain ⟨r2, hr2⟩ : ∃ r, r = macS key (toldS (strL sDown) [numL ep 4, hash]) := ⟨_, rfl⟩
  have HL := Lib.hid (show r1.length = 32 ∧ r2.length = 32 from ⟨by rw [hr1]; exact macS_len _ _, by rw [hr2]; exact macS_len _ _⟩)
  have HE := Lib.hid (show keysS key ep hash = r1 ++ r2 from by rw [hr1, hr2]; rfl)
  have hfl : 2 + ([numL ep 4, hash] : List (List Int)).flatten.length ≤ 16384 := by simp [numL_len, hh.1]
  have HU : Hid (∀ (wx : World) (b : Nat), Below w.heap.size w wx → Ps wx (some ⟨b, 0, none⟩) 2 [numL ep 4, hash] → Calls Tryd.prog 31 #[.slice A n c, .string sUp, .slice (some ⟨b, 0, none⟩) 2 2] wx fun e w' => e = .returned (.agg (u8A r1)) ∧ Below wx.heap.size wx w') := by
    show ∀ (wx : World) (b : Nat), _
    intro wx b hb hp
    rw [hr1]
    exact derive_any wx (hr.below hb) (hk.below hb) h8 hc hn hp (by decide) hfl
  have HD : Hid (∀ (wx : World) (b : Nat), Below w.heap.size w wx → Ps wx (some ⟨b, 0, none⟩) 2 [numL ep 4, hash] → Calls Tryd.prog 31 #[.slice A n c, .string sDown, .slice (some ⟨b, 0, none⟩) 2 2] wx fun e w' => e = .returned (.agg (u8A r2)) ∧ Below wx.heap.size wx w') := by
    show ∀ (wx : World) (b : Nat), _
    intro wx b hb hp
    rw [hr2]
    exact derive_any wx (hr.below hb) (hk.below hb) h8 hc hn hp (by decide) hfl
  have HH := Lib.hid (show hash.length = 32 ∧ B8s hash ∧ B8s (numL ep 4) from ⟨hh.1, hh.2, numL_b _ _⟩)
  clear hr hk h8 hc hn hh hr1 hr2 hfl
  obtain ⟨w0, hw0⟩ : ∃ w0, w0 = (w.alloc (.cells (u8A hash) 46)).alloc (.cells (u8A (List.replicate 64 0)) 49) := ⟨_, rfl⟩
  have X0 := Lib.hid (show Below w.heap.size w w0 ∧ Blk w0 (w.heap.size + 1) 49 (u8A (List.replicate 64 0)) ∧ Blk w0 w.heap.size 46 (u8A hash) ∧ w0.heap.size = w.heap.size + 2 from by
    rw [hw0]
    exact ⟨((Below.refl _ _).alloc (Nat.le_refl _) _).alloc (by simp) _, Blk.new' (by simp) _ _, (Blk.new _ _ _).alloc _, by simp⟩)
  have hw0' : w0 = (w.alloc (.cells (u8A hash) 46)).alloc (.cells #[Value.int .u8 0, Value.int .u8 0, Value.int .u8 0, Value.int .u8 0, Value.int .u8 0, Value.int .u8 0, Value.int .u8 0, Value.int .u8 0, Value.int .u8 0, Value.int .u8 0, Value.int .u8 0, Value.int .u8 0, Value.int .u8 0, Value.int .u8 0, Value.int .u8 0, Value.int .u8 0, Value.int .u8 0, Value.int .u8 0, Value.int .u8 0, Value.int .u8 0, Value.int .u8 0, Value.int .u8 0, Value.int .u8 0, Value.int .u8 0, Value.int .u8 0, Value.int .u8 0, Value.int .u8 0, Value.int .u8 0, Value.int .u8 0, Value.int .u8 0, Value.int .u8 0, Value.int .u8 0, Value.int .u8 0, Value.int .u8 0, Value.int .u8 0, Value.int .u8 0, Value.int .u8 0, Value.int .u8 0, Value.int .u8 0, Value.int .u8 0, Value.int .u8 0, Value.int .u8 0, Value.int .u8 0, Value.int .u8 0, Value.int .u8 0, Value.int .u8 0, Value.int .u8 0, Value.int .u8 0, Value.int .u8 0, Value.int .u8 0, Value.int .u8 0, Value.int .u8 0, Value.int .u8 0, Value.int .u8 0, Value.int .u8 0, Value.int .u8 0, Value.int .u8 0, Value.int .u8 0, Value.int .u8 0, Value.int .u8 0, Value.int .u8 0, Value.int .u8 0, Value.int .u8 0, Value.int .u8 0] 49) := hw0
  clear hw0
  go_enter Tryd.func21, Tryd.ntmps21
  go_wp2_with fail
  rw [← hw0']
  clear hw0'
  refine (num_any ep 4 w0 e0 (by omega)).mono ?_
  rintro e w1 ⟨v, rfl, A1, n1, c1, rfl, hm1⟩
  have h1 : KS w hash (numL ep 4) A1 n1 c1 w1 := ⟨X0.out.1.trans (hm1.below.mono X0.out.1.size), ⟨_, by simp, X0.out.2.1.below hm1.below X0.out.2.1.lt⟩, X0.out.2.2.1.below hm1.below X0.out.2.2.1.lt, by have h2 := hm1.own; rw [X0.out.2.2.2] at h2; exact h2, hm1.le, by have h2 := hm1.max; unfold maxLen at h2; omega⟩
  have K1 := Lib.hid h1
  clear h1 hm1 X0
  go_upto_region 2 with fail
  refine wp_region_held_drew (S := KS w hash (numL ep 4) A1 n1 c1) (by kernel_rfl) K1.out.drew (fun hHeld => ?_)
  refine wpAnyH_take (i := 0) (v := .slice A n c) rfl (by kernel_rfl) (by kernel_rfl) (by kernel_rfl) (fun _ _ _ h => h) (yieldsIf_move (by rfl) (.tmp 0) rfl _ rfl) hHeld ?_
  simp only [Act.put, List.getElem_toArray, List.getElem_cons_zero, List.setIfInBounds_toArray, List.set_cons_succ, List.set_cons_zero]
  refine wpAnyH_take (i := 1) (v := .slice A1 n1 c1) rfl (by kernel_rfl) (by kernel_rfl) (by kernel_rfl) (fun _ _ _ h => h) (yieldsIf_move (by rfl) (.tmp 7) rfl _ rfl) hHeld ?_
  simp only [Act.put, List.getElem_toArray, List.getElem_cons_succ, List.getElem_cons_zero, List.setIfInBounds_toArray, List.set_cons_succ, List.set_cons_zero]
  refine wpAnyH_take (i := 2) (v := .slice (some ⟨w.heap.size, 0, none⟩) 32 32) rfl (by kernel_rfl) (by kernel_rfl) (by kernel_rfl) (fun _ _ _ h => h) (yieldsIf_sliceA (by rfl) 46 (.tmp 5) rfl _ _ rfl (run_slA32 w.heap.size)) hHeld ?_
  simp only [Act.put, List.getElem_toArray, List.getElem_cons_succ, List.getElem_cons_zero, List.setIfInBounds_toArray, List.set_cons_succ, List.set_cons_zero]
  refine wpAnyH_take (i := 5) (v := .slice A n c) rfl (by kernel_rfl) (by kernel_rfl) (by kernel_rfl) (fun _ _ _ h => h) (yieldsIf_move (by rfl) (.tmp 0) rfl _ rfl) hHeld ?_
  simp only [Act.put, List.getElem_toArray, List.getElem_cons_succ, List.getElem_cons_zero, List.setIfInBounds_toArray, List.set_cons_succ, List.set_cons_zero]
  refine wpAnyH_take (i := 6) (v := .slice A1 n1 c1) rfl (by kernel_rfl) (by kernel_rfl) (by kernel_rfl) (fun _ _ _ h => h) (yieldsIf_move (by rfl) (.tmp 7) rfl _ rfl) hHeld ?_
  simp only [Act.put, List.getElem_toArray, List.getElem_cons_succ, List.getElem_cons_zero, List.setIfInBounds_toArray, List.set_cons_succ, List.set_cons_zero]
  refine wpAnyH_take (i := 7) (v := .slice (some ⟨w.heap.size, 0, none⟩) 32 32) rfl (by kernel_rfl) (by kernel_rfl) (by kernel_rfl) (fun _ _ _ h => h) (yieldsIf_sliceA (by rfl) 46 (.tmp 5) rfl _ _ rfl (run_slA32 w.heap.size)) hHeld ?_
  simp only [Act.put, List.getElem_toArray, List.getElem_cons_succ, List.getElem_cons_zero, List.setIfInBounds_toArray, List.set_cons_succ, List.set_cons_zero]
  refine wpAnyH_ready (rs := [3, 8]) (by kernel_rfl) (by simp) (AllReadyH.cons rfl (fun K hK => ?_) (AllReadyH.cons rfl (fun K hK => ?_) AllReadyH.nil))
  · rw [if_pos (by rfl)]
    go_simp
    have P3 := KS.ps hHeld HH.out.1 HH.out.2.1 HH.out.2.2
    refine hK.out _ _ (hHeld.alloc _) (fun hHeld => ?_)
    clear hK K
    have P3 : Ps (w1.alloc (.cells #[.slice A1 n1 c1, .slice (some ⟨w.heap.size, 0, none⟩) 32 32] 22)).drew (some ⟨w1.heap.size, 0, none⟩) 2 [numL ep 4, hash] := P3
    obtain ⟨b3, hb3⟩ : ∃ b, b = w1.heap.size := ⟨_, rfl⟩
    rw [← hb3] at P3 ⊢
    clear hb3
    generalize (w1.alloc (.cells #[.slice A1 n1 c1, .slice (some ⟨w.heap.size, 0, none⟩) 32 32] 22)).drew = w2 at hHeld P3 ⊢
    refine wpAnyH_ready (rs := [4, 8]) (by kernel_rfl) (by simp) (AllReadyH.cons rfl (fun K hK => ?_) (AllReadyH.cons rfl (fun K hK => ?_) AllReadyH.nil))
    · rw [if_pos (by rfl)]
      go_simp
      refine (HU.out _ _ hHeld.bel P3).mono ?_
      rintro e w14 ⟨rfl, hb4⟩
      clear P3
      refine hK.out _ _ (hHeld.below hb4) (fun hHeld => ?_)
      clear hK K hb4
      refine wpAnyH_ready (rs := [8]) (by kernel_rfl) (by simp) (AllReadyH.cons rfl (fun K hK => ?_) AllReadyH.nil)
      rw [if_pos (by rfl)]
      go_simp
      have P8 := KS.ps hHeld HH.out.1 HH.out.2.1 HH.out.2.2
      refine hK.out _ _ (hHeld.alloc _) (fun hHeld => ?_)
      clear hK K
      have P8 : Ps (w14.alloc (.cells #[.slice A1 n1 c1, .slice (some ⟨w.heap.size, 0, none⟩) 32 32] 22)) (some ⟨w14.heap.size, 0, none⟩) 2 [numL ep 4, hash] := P8
      obtain ⟨b8, hb8⟩ : ∃ b, b = w14.heap.size := ⟨_, rfl⟩
      rw [← hb8] at P8 ⊢
      clear hb8
      generalize (w14.alloc (.cells #[.slice A1 n1 c1, .slice (some ⟨w.heap.size, 0, none⟩) 32 32] 22)) = w15 at hHeld P8 ⊢
      refine wpAnyH_ready (rs := [9]) (by kernel_rfl) (by simp) (AllReadyH.cons rfl (fun K hK => ?_) AllReadyH.nil)
      rw [if_pos (by rfl)]
      go_simp
      refine (HD.out _ _ hHeld.bel P8).mono ?_
      rintro e w19 ⟨rfl, hb9⟩
      clear P8
      refine hK.out _ _ (hHeld.below hb9) (fun hHeld => ?_)
      clear hK K hb9
      refine wpAnyH_take (i := 10) (v := .agg (u8A (r1 ++ r2))) rfl (by kernel_rfl) (by kernel_rfl) (by kernel_rfl) (fun _ _ _ h => h) (yieldsIf_build2 (by rfl) 49 0 1 (.tmp 15) (.tmp 20) rfl _ _ rfl rfl _ (built_keys r1 r2 HL.out.1 HL.out.2)) hHeld ?_
      simp only [Act.put, List.getElem_toArray, List.getElem_cons_succ, List.getElem_cons_zero, List.setIfInBounds_toArray, List.set_cons_succ, List.set_cons_zero]
      refine wpAnyH_ready (rs := [11]) (by kernel_rfl) (by simp) (AllReadyH.cons rfl (fun K hK => ?_) AllReadyH.nil)
      rw [if_pos (by rfl)]
      obtain ⟨l0, hl0, hres⟩ := hHeld.res
      have hl12 : (r1 ++ r2).length = 64 := by rw [List.length_append, HL.out.1, HL.out.2]
      refine wp_store_row 49 (.tmp 6) (.tmp 21) rfl (w.heap.size + 1) (u8A (r1 ++ r2)) rfl rfl 49 _ hres (infoKeys hl12) (by rw [u8A_size, u8A_size, hl12, hl0]) (u8A_one _) ?_
      refine hK.out _ _ (hHeld.store hl12) (fun hHeld2 => ?_)
      have hbel := hHeld2.bel
      have hres2 := hres.setRow (u8A (r1 ++ r2))
      clear hK K hHeld2 hHeld hres
      refine wpAnyH_done (by kernel_rfl) ?_ _
      go_wp2_with fail
      exact bodyPost_ret (v := .agg (u8A (r1 ++ r2))) (results_cell_row Tryd.results21 _ _ (w.heap.size + 1) 49 _ (0, 0) _ rfl hres2 Tryd.underlying49 rfl (infoKeys hl12)) rfl ⟨by rw [HE.out], hbel⟩
    · rw [if_pos (by rfl)]
      go_simp
      have P8 := KS.ps hHeld HH.out.1 HH.out.2.1 HH.out.2.2
      have P3 := Ps.below P3 ((Below.refl _ _).alloc (Nat.le_refl _) (.cells #[.slice A1 n1 c1, .slice (some ⟨w.heap.size, 0, none⟩) 32 32] 22))
      refine hK.out _ _ (hHeld.alloc _) (fun hHeld => ?_)
      clear hK K
      have P3 : Ps (w2.alloc (.cells #[.slice A1 n1 c1, .slice (some ⟨w.heap.size, 0, none⟩) 32 32] 22)) (some ⟨b3, 0, none⟩) 2 [numL ep 4, hash] := P3
      have P8 : Ps (w2.alloc (.cells #[.slice A1 n1 c1, .slice (some ⟨w.heap.size, 0, none⟩) 32 32] 22)) (some ⟨w2.heap.size, 0, none⟩) 2 [numL ep 4, hash] := P8
      obtain ⟨b8, hb8⟩ : ∃ b, b = w2.heap.size := ⟨_, rfl⟩
      rw [← hb8] at P8 ⊢
      clear hb8
      generalize (w2.alloc (.cells #[.slice A1 n1 c1, .slice (some ⟨w.heap.size, 0, none⟩) 32 32] 22)) = w3 at hHeld P3 P8 ⊢
      refine wpAnyH_ready (rs := [4]) (by kernel_rfl) (by simp) (AllReadyH.cons rfl (fun K hK => ?_) AllReadyH.nil)
      rw [if_pos (by rfl)]
      go_simp
      refine (HU.out _ _ hHeld.bel P3).mono ?_
      rintro e w14 ⟨rfl, hb4⟩
      clear P3
      have P8 := Ps.below P8 hb4
      refine hK.out _ _ (hHeld.below hb4) (fun hHeld => ?_)
      clear hK K hb4
      refine wpAnyH_ready (rs := [9]) (by kernel_rfl) (by simp) (AllReadyH.cons rfl (fun K hK => ?_) AllReadyH.nil)
      rw [if_pos (by rfl)]
      go_simp
      refine (HD.out _ _ hHeld.bel P8).mono ?_
      rintro e w19 ⟨rfl, hb9⟩
      clear P8
      refine hK.out _ _ (hHeld.below hb9) (fun hHeld => ?_)
      clear hK K hb9
      refine wpAnyH_take (i := 10) (v := .agg (u8A (r1 ++ r2))) rfl (by kernel_rfl) (by kernel_rfl) (by kernel_rfl) (fun _ _ _ h => h) (yieldsIf_build2 (by rfl) 49 0 1 (.tmp 15) (.tmp 20) rfl _ _ rfl rfl _ (built_keys r1 r2 HL.out.1 HL.out.2)) hHeld ?_
      simp only [Act.put, List.getElem_toArray, List.getElem_cons_succ, List.getElem_cons_zero, List.setIfInBounds_toArray, List.set_cons_succ, List.set_cons_zero]
      refine wpAnyH_ready (rs := [11]) (by kernel_rfl) (by simp) (AllReadyH.cons rfl (fun K hK => ?_) AllReadyH.nil)
      rw [if_pos (by rfl)]
      obtain ⟨l0, hl0, hres⟩ := hHeld.res
      have hl12 : (r1 ++ r2).length = 64 := by rw [List.length_append, HL.out.1, HL.out.2]
      refine wp_store_row 49 (.tmp 6) (.tmp 21) rfl (w.heap.size + 1) (u8A (r1 ++ r2)) rfl rfl 49 _ hres (infoKeys hl12) (by rw [u8A_size, u8A_size, hl12, hl0]) (u8A_one _) ?_
      refine hK.out _ _ (hHeld.store hl12) (fun hHeld2 => ?_)
      have hbel := hHeld2.bel
      have hres2 := hres.setRow (u8A (r1 ++ r2))
      clear hK K hHeld2 hHeld hres
      refine wpAnyH_done (by kernel_rfl) ?_ _
      go_wp2_with fail
      exact bodyPost_ret (v := .agg (u8A (r1 ++ r2))) (results_cell_row Tryd.results21 _ _ (w.heap.size + 1) 49 _ (0, 0) _ rfl hres2 Tryd.underlying49 rfl (infoKeys hl12)) rfl ⟨by rw [HE.out], hbel⟩
  · rw [if_pos (by rfl)]
    go_simp
    have P8 := KS.ps hHeld HH.out.1 HH.out.2.1 HH.out.2.2
    refine hK.out _ _ (hHeld.alloc _) (fun hHeld => ?_)
    clear hK K
    have P8 : Ps (w1.alloc (.cells #[.slice A1 n1 c1, .slice (some ⟨w.heap.size, 0, none⟩) 32 32] 22)).drew (some ⟨w1.heap.size, 0, none⟩) 2 [numL ep 4, hash] := P8
    obtain ⟨b8, hb8⟩ : ∃ b, b = w1.heap.size := ⟨_, rfl⟩
    rw [← hb8] at P8 ⊢
    clear hb8
    generalize (w1.alloc (.cells #[.slice A1 n1 c1, .slice (some ⟨w.heap.size, 0, none⟩) 32 32] 22)).drew = w2 at hHeld P8 ⊢
    refine wpAnyH_ready (rs := [3]) (by kernel_rfl) (by simp) (AllReadyH.cons rfl (fun K hK => ?_) AllReadyH.nil)
    rw [if_pos (by rfl)]
    go_simp
    have P3 := KS.ps hHeld HH.out.1 HH.out.2.1 HH.out.2.2
    have P8 := Ps.below P8 ((Below.refl _ _).alloc (Nat.le_refl _) (.cells #[.slice A1 n1 c1, .slice (some ⟨w.heap.size, 0, none⟩) 32 32] 22))
    refine hK.out _ _ (hHeld.alloc _) (fun hHeld => ?_)
    clear hK K
    have P8 : Ps (w2.alloc (.cells #[.slice A1 n1 c1, .slice (some ⟨w.heap.size, 0, none⟩) 32 32] 22)) (some ⟨b8, 0, none⟩) 2 [numL ep 4, hash] := P8
    have P3 : Ps (w2.alloc (.cells #[.slice A1 n1 c1, .slice (some ⟨w.heap.size, 0, none⟩) 32 32] 22)) (some ⟨w2.heap.size, 0, none⟩) 2 [numL ep 4, hash] := P3
    obtain ⟨b3, hb3⟩ : ∃ b, b = w2.heap.size := ⟨_, rfl⟩
    rw [← hb3] at P3 ⊢
    clear hb3
    generalize (w2.alloc (.cells #[.slice A1 n1 c1, .slice (some ⟨w.heap.size, 0, none⟩) 32 32] 22)) = w3 at hHeld P8 P3 ⊢
    refine wpAnyH_ready (rs := [4]) (by kernel_rfl) (by simp) (AllReadyH.cons rfl (fun K hK => ?_) AllReadyH.nil)
    rw [if_pos (by rfl)]
    go_simp
    refine (HU.out _ _ hHeld.bel P3).mono ?_
    rintro e w14 ⟨rfl, hb4⟩
    clear P3
    have P8 := Ps.below P8 hb4
    refine hK.out _ _ (hHeld.below hb4) (fun hHeld => ?_)
    clear hK K hb4
    refine wpAnyH_ready (rs := [9]) (by kernel_rfl) (by simp) (AllReadyH.cons rfl (fun K hK => ?_) AllReadyH.nil)
    rw [if_pos (by rfl)]
    go_simp
    refine (HD.out _ _ hHeld.bel P8).mono ?_
    rintro e w19 ⟨rfl, hb9⟩
    clear P8
    refine hK.out _ _ (hHeld.below hb9) (fun hHeld => ?_)
    clear hK K hb9
    refine wpAnyH_take (i := 10) (v := .agg (u8A (r1 ++ r2))) rfl (by kernel_rfl) (by kernel_rfl) (by kernel_rfl) (fun _ _ _ h => h) (yieldsIf_build2 (by rfl) 49 0 1 (.tmp 15) (.tmp 20) rfl _ _ rfl rfl _ (built_keys r1 r2 HL.out.1 HL.out.2)) hHeld ?_
    simp only [Act.put, List.getElem_toArray, List.getElem_cons_succ, List.getElem_cons_zero, List.setIfInBounds_toArray, List.set_cons_succ, List.set_cons_zero]
    refine wpAnyH_ready (rs := [11]) (by kernel_rfl) (by simp) (AllReadyH.cons rfl (fun K hK => ?_) AllReadyH.nil)
    rw [if_pos (by rfl)]
    obtain ⟨l0, hl0, hres⟩ := hHeld.res
    have hl12 : (r1 ++ r2).length = 64 := by rw [List.length_append, HL.out.1, HL.out.2]
    refine wp_store_row 49 (.tmp 6) (.tmp 21) rfl (w.heap.size + 1) (u8A (r1 ++ r2)) rfl rfl 49 _ hres (infoKeys hl12) (by rw [u8A_size, u8A_size, hl12, hl0]) (u8A_one _) ?_
    refine hK.out _ _ (hHeld.store hl12) (fun hHeld2 => ?_)
    have hbel := hHeld2.bel
    have hres2 := hres.setRow (u8A (r1 ++ r2))
    clear hK K hHeld2 hHeld hres
    refine wpAnyH_done (by kernel_rfl) ?_ _
    go_wp2_with fail
    exact bodyPost_ret (v := .agg (u8A (r1 ++ r2))) (results_cell_row Tryd.results21 _ _ (w.heap.size + 1) 49 _ (0, 0) _ rfl hres2 Tryd.underlying49 rfl (infoKeys hl12)) rfl ⟨by rw [HE.out], hbel⟩
end Go.Proofs.YtogaakokplobaaaDoor
