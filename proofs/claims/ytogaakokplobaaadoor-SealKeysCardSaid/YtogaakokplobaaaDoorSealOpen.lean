/-
  The contract of Open.
-/
import Derived.Test.YtogaakokplobaaaDoorSealPeekAny
import Derived.Test.YtogaakokplobaaaDoorMacHold
namespace Go.Proofs.YtogaakokplobaaaDoor
open Go.RowKit

def OpenPost (key zs : List Int) (w : World) (e : Ending) (w' : World) : Prop :=
  ∃ A n c, e = .returned (.tuple #[.agg (hdA (openS key zs).1), .slice A n c, .int .i64 (openS key zs).2.2]) ∧ MadeAt 5 (openS key zs).2.1 w A n c w'

theorem open_peek {key zs : List Int} (h : (peekS zs).2 ≠ 0) : openS key zs = (hd0, [], (peekS zs).2) := by unfold openS; rw [if_pos h]
theorem open_good {key zs : List Int} (h : (peekS zs).2 = 0) (ht : zs.drop (zs.length - 16) = tagS key (zs.take (zs.length - 16))) : openS key zs = (readH zs, (zs.take (zs.length - 16)).drop 14, 0) := by
  unfold openS
  rw [if_neg (by simpa using h), if_pos ht]
theorem open_tag {key zs : List Int} (h : (peekS zs).2 = 0) (ht : zs.drop (zs.length - 16) ≠ tagS key (zs.take (zs.length - 16))) : openS key zs = (hd0, [], 8) := by
  unfold openS
  rw [if_neg (by simpa using h), if_neg ht]

theorem peek_zero {zs : List Int} (h : (peekS zs).2 ≠ 0) : (peekS zs).1 = hd0 := by
  unfold peekS at h ⊢
  split
  · rfl
  · split
    · rfl
    · split
      · rfl
      · rename_i h1 h2 h3
        rw [if_neg h1, if_neg h2, if_neg h3] at h
        simp at h
theorem run_from8 (ad : Addr) (n d k : Nat) (hk : k ≤ n) (hlt : k < d) (w : World) : (Instr.sliceAt 22 (.slice (some ad) n d) (some (.int .i64 (k : Int))) none none).run Tryd.prog w = .ok (.slice (some (ad.add k)) (n - k) (d - k)) w := by
  have hsz : ∀ w, (sizeOf 5).run Tryd.prog w = .ok 1 w := fun w => by kernel_rfl
  have h1 : d ≠ k := by omega
  simp [Instr.sliceAt, Instr.slice, run_underlying Tryd.underlying22, Instr.sliceBounds, Instr.sliceBound, asIntOf, hsz, hk, h1]
theorem run_to8 (ad : Addr) (n d k : Nat) (hk : k ≤ d) (w : World) : (Instr.sliceAt 22 (.slice (some ad) n d) none (some (.int .i64 (k : Int))) none).run Tryd.prog w = .ok (.slice (some ad) k d) w := by
  have hsz : ∀ w, (sizeOf 5).run Tryd.prog w = .ok 1 w := fun w => by kernel_rfl
  have e0 : ad.add 0 = ad := by simp [Addr.add]
  simp [Instr.sliceAt, Instr.slice, run_underlying Tryd.underlying22, Instr.sliceBounds, Instr.sliceBound, asIntOf, hsz, hk, e0]
theorem run_of8 (ad : Addr) (n d j k : Nat) (hj : j ≤ k) (hk : k ≤ d) (hlt : j < d) (w : World) : (Instr.sliceAt 22 (.slice (some ad) n d) (some (.int .i64 (j : Int))) (some (.int .i64 (k : Int))) none).run Tryd.prog w = .ok (.slice (some (ad.add j)) (k - j) (d - j)) w := by
  have hsz : ∀ w, (sizeOf 5).run Tryd.prog w = .ok 1 w := fun w => by kernel_rfl
  have h1 : d ≠ j := by omega
  simp [Instr.sliceAt, Instr.slice, run_underlying Tryd.underlying22, Instr.sliceBounds, Instr.sliceBound, asIntOf, hsz, hj, hk, h1]
theorem Sb.from {w : World} {ad : Addr} {n k : Nat} {zs : List Int} (h : Sb w (some ad) n zs) (hk : k ≤ n) : Sb w (some (ad.add k)) (n - k) (zs.drop k) := by
  have h1 := h.cut (c := n + 1) hk (by omega)
  rw [if_neg (by omega)] at h1
  exact h1

theorem run_from8q (ad : Addr) (n d k q : Nat) (hk : k ≤ n) (hlt : k < d) (hq : n - k = q) (w : World) : (Instr.sliceAt 22 (.slice (some ad) n d) (some (.int .i64 (k : Int))) none none).run Tryd.prog w = .ok (.slice (some (ad.add k)) q (d - k)) w := by
  subst hq
  exact run_from8 ad n d k hk hlt w
theorem Sb.fromq {w : World} {ad : Addr} {n k q : Nat} {zs : List Int} (h : Sb w (some ad) n zs) (hk : k ≤ n) (hq : n - k = q) : Sb w (some (ad.add k)) q (zs.drop k) := by
  subst hq
  exact h.from hk
theorem grownBy_setRow (w : World) (b : Nat) (cs : Array Value) : w.grownBy (w.setRow b cs) (some b) :=
  ⟨rfl, rfl, rfl, by simp [World.setRow], fun k _ hk => setRow_other w b k cs (fun e => hk (by rw [e]))⟩
/-- What was made since w0 stays behind a store into an older block. -/
theorem MadeAt.setRow {e : TypeId} {zs : List Int} {w0 w1 : World} {A : Option Addr} {n c : Nat} (h : MadeAt e zs w0 A n c w1) {b : Nat} (hb : b < w0.heap.size) (cs : Array Value) : (w1.setRow b cs).ownsRow w0.heap.size e 1 (.slice A n c) n (zs.map (Value.int .u8)) :=
  own_grown h.own (grownBy_setRow w1 b cs) fun b' e' hq => by
    have h1 := (h.own.lt b' (by rw [mownBlock_map]; exact e')).1
    injection hq with hq
    omega

set_option maxHeartbeats 3200000 in
theorem open_any {A : Option Addr} {n c : Nat} {key : List Int} {B : Option Addr} {m d : Nat} {zs : List Int} (w : World) (hr : Roots w) (hs : Sb w A n key) (h8 : B8s key) (hc : n ≤ c ∧ c ≤ 9223372036854775807) (hn : n ≤ 1125899906842)
    (hb : Sb w B m zs) (hz : B8s zs) (hm : m ≤ 140737488351232) (hd : m ≤ d ∧ d ≤ 9223372036854775807) :
    Calls Tryd.prog 15 #[.slice A n c, .slice B m d] w (OpenPost key zs w) := by
  have hl := hb.len
  have H := Lib.hid (show Roots w ∧ Sb w A n key ∧ B8s key ∧ (n ≤ c ∧ c ≤ 9223372036854775807) ∧ n ≤ 1125899906842 ∧ Sb w B m zs ∧ B8s zs ∧ (m ≤ d ∧ d ≤ 9223372036854775807) from ⟨hr, hs, h8, hc, hn, hb, hz, hd⟩)
  unfold OpenPost
  obtain ⟨w0, hw0⟩ : ∃ w0, w0 = w.alloc (.cells #[.int .u8 0, .bool false, .int .u32 0, .int .u64 0] 26) := ⟨_, rfl⟩
  have X0 := Lib.hid (show Below w.heap.size w w0 ∧ Blk w0 w.heap.size 26 (hdA hd0) from by rw [hw0]; exact ⟨(Below.refl _ _).alloc (Nat.le_refl _) _, Blk.new _ _ _⟩)
  have HC := Lib.hid (peek_any (d := d) w0 (hb.below X0.out.1) hz hm hd)
  unfold PeekPost at HC
  clear hr hs h8 hc hn hb hz hd
  by_cases he : (peekS zs).2 = 0
  · obtain ⟨l0, l1, _, _, hpk⟩ := peek_fits he
    rw [hpk] at HC
    obtain ⟨h, hh⟩ : ∃ h, h = readH zs := ⟨_, rfl⟩
    rw [← hh] at HC
    have HE := Lib.hid (And.intro he hh)
    clear he hpk hh
    obtain ⟨k, rfl⟩ : ∃ k, m = k + 16 := ⟨m - 16, by omega⟩
    have hk14 : 14 ≤ k := by omega
    have hk542 : k ≤ 542 := by omega
    clear hm l0 l1
    have HL := Lib.hid hl
    clear hl
    obtain ⟨ad, rfl⟩ := H.out.2.2.2.2.2.1.addr (by omega)
    go_enter Tryd.func15, Tryd.ntmps15
    go_wp2_with fail
    rw [← hw0]
    clear hw0
    refine HC.out.mono ?_
    rintro e w1 ⟨rfl, hb1⟩
    have X1 := Lib.hid (show Below w.heap.size w w1 ∧ Blk w1 w.heap.size 26 (hdA hd0) from ⟨X0.out.1.trans (hb1.mono X0.out.1.size), X0.out.2.below hb1 X0.out.2.lt⟩)
    clear hb1 HC X0
    have hn1 : Hid (Blk (w1.alloc (.cells #[.int .u8 0, .bool false, .int .u32 0, .int .u64 0] 26)) w1.heap.size 26 (hdA hd0)) := Blk.new _ _ _
    go_upto_region 5 with (refine wpList_store_row rfl 26 (.tmp 7) (.tmp 13) rfl w1.heap.size (hdA h) rfl rfl 26 (hdA hd0) hn1.out infoH rfl (hdA_one _) ?_)
    obtain ⟨w2, hw2⟩ : ∃ w2, w2 = (w1.alloc (.cells #[.int .u8 0, .bool false, .int .u32 0, .int .u64 0] 26)).setRow w1.heap.size (hdA h) := ⟨_, rfl⟩
    have X2 := Lib.hid (show Below w.heap.size w w2 ∧ Blk w2 w.heap.size 26 (hdA hd0) ∧ Blk w2 w1.heap.size 26 (hdA h) from by
      rw [hw2]
      exact ⟨below_setRow (X1.out.1.alloc X1.out.1.size _) X1.out.1.size _, (X1.out.2.alloc _).otherRow _ (Nat.ne_of_lt X1.out.2.lt), hn1.out.setRow _⟩)
    rw [← hw2]
    have X1lt := Lib.hid X1.out.2.lt
    clear hw2 hn1 X1
    have H5 := Lib.hid (show 0 < d ∧ k + 16 ≤ d ∧ d ≤ 9223372036854775807 from ⟨by have := H.out.2.2.2.2.2.2.2.1; omega, H.out.2.2.2.2.2.2.2⟩)
    refine wp_region_held_drew (S := fun w' => Below w.heap.size w w' ∧ Blk w' w.heap.size 26 (hdA hd0) ∧ Blk w' w1.heap.size 26 (hdA h)) (by kernel_rfl) ⟨X2.out.1.drew, X2.out.2.1.drew, X2.out.2.2.drew⟩ (fun hHeld => ?_)
    refine wpAnyH_take (i := 0) (v := .slice (some ad) (k + 16) d) rfl (by kernel_rfl) (by kernel_rfl) (by kernel_rfl) (fun _ _ _ h => h) (yieldsIf_move (by rfl) (.tmp 1) rfl _ rfl) hHeld ?_
    simp only [Act.put, List.getElem_toArray, List.getElem_cons_zero, List.setIfInBounds_toArray, List.set_cons_succ, List.set_cons_zero]
    refine wpAnyH_take (i := 1) (v := .int .i64 k) rfl (by kernel_rfl) (by kernel_rfl) (by kernel_rfl) (fun _ _ _ h => h) (yieldsIf_move (by rfl) (.tmp 9) rfl _ rfl) hHeld ?_
    simp only [Act.put, List.getElem_toArray, List.getElem_cons_succ, List.getElem_cons_zero, List.setIfInBounds_toArray, List.set_cons_succ, List.set_cons_zero]
    refine wpAnyH_take (i := 2) (v := .slice (some (ad.add k)) 16 (d - k)) rfl (by kernel_rfl) (by kernel_rfl) (by kernel_rfl) (fun _ _ _ h => h) (yieldsIf_sliceFrom (by rfl) 22 (.tmp 22) (.tmp 23) rfl _ _ _ rfl rfl (run_from8q ad (k + 16) d k 16 (by omega) (by have := H5.out.2.1; omega) (by omega))) hHeld ?_
    simp only [Act.put, List.getElem_toArray, List.getElem_cons_succ, List.getElem_cons_zero, List.setIfInBounds_toArray, List.set_cons_succ, List.set_cons_zero]
    refine wpAnyH_take (i := 3) (v := .slice A n c) rfl (by kernel_rfl) (by kernel_rfl) (by kernel_rfl) (fun _ _ _ h => h) (yieldsIf_move (by rfl) (.tmp 0) rfl _ rfl) hHeld ?_
    simp only [Act.put, List.getElem_toArray, List.getElem_cons_succ, List.getElem_cons_zero, List.setIfInBounds_toArray, List.set_cons_succ, List.set_cons_zero]
    refine wpAnyH_take (i := 4) (v := .slice (some ad) (k + 16) d) rfl (by kernel_rfl) (by kernel_rfl) (by kernel_rfl) (fun _ _ _ h => h) (yieldsIf_move (by rfl) (.tmp 1) rfl _ rfl) hHeld ?_
    simp only [Act.put, List.getElem_toArray, List.getElem_cons_succ, List.getElem_cons_zero, List.setIfInBounds_toArray, List.set_cons_succ, List.set_cons_zero]
    refine wpAnyH_take (i := 5) (v := .int .i64 k) rfl (by kernel_rfl) (by kernel_rfl) (by kernel_rfl) (fun _ _ _ h => h) (yieldsIf_move (by rfl) (.tmp 9) rfl _ rfl) hHeld ?_
    simp only [Act.put, List.getElem_toArray, List.getElem_cons_succ, List.getElem_cons_zero, List.setIfInBounds_toArray, List.set_cons_succ, List.set_cons_zero]
    refine wpAnyH_take (i := 6) (v := .slice (some ad) k d) rfl (by kernel_rfl) (by kernel_rfl) (by kernel_rfl) (fun _ _ _ h => h) (yieldsIf_sliceTo (by rfl) 22 (.tmp 26) (.tmp 27) rfl _ _ _ rfl rfl (run_to8 ad (k + 16) d k (by have := H5.out.2.1; omega))) hHeld ?_
    simp only [Act.put, List.getElem_toArray, List.getElem_cons_succ, List.getElem_cons_zero, List.setIfInBounds_toArray, List.set_cons_succ, List.set_cons_zero]
    refine wpAnyH_ready (rs := [7]) (by kernel_rfl) (by simp) (AllReadyH.cons rfl (fun K hK => ?_) AllReadyH.nil)
    rw [if_pos (by rfl)]
    go_simp
    refine (tag_any (c := c) (d := d) _ (H.out.1.below hHeld.1) (H.out.2.1.below hHeld.1) H.out.2.2.1 H.out.2.2.2.1 (by have := H.out.2.2.2.2.1; omega) ((H.out.2.2.2.2.2.1.below hHeld.1).front (k := k) (by omega)) (show U8s (zs.take k) from (show U8s zs from H.out.2.2.2.2.2.2.1).take k) ⟨by have := H5.out.2.1; omega, H5.out.2.2⟩ (by omega)).mono ?_
    rintro e w3 ⟨g, rfl, _, hsb3, hb3⟩
    have hT := Lib.hid hsb3
    clear hsb3
    refine hK.out _ _ ⟨hHeld.1.trans (hb3.mono hHeld.1.size), hHeld.2.1.below hb3 hHeld.2.1.lt, hHeld.2.2.below hb3 hHeld.2.2.lt⟩ (fun hHeld => ?_)
    clear hK K hb3
    refine wpAnyH_ready (rs := [8]) (by kernel_rfl) (by simp) (AllReadyH.cons rfl (fun K hK => ?_) AllReadyH.nil)
    rw [if_pos (by rfl)]
    go_simp
    refine (macSame_any (c := d - k) (c' := 32) ((H.out.2.2.2.2.2.1.below hHeld.1).fromq (k := k) (q := 16) (by omega) (by omega)) hT.out (show U8s (zs.drop k) from (show U8s zs from H.out.2.2.2.2.2.2.1).drop k) (tagS_b _ _) (by omega) (by omega)).mono ?_
    rintro e w4 ⟨rfl, q4, rfl⟩
    refine hK.out _ _ ⟨below_drewN' hHeld.1 q4, hHeld.2.1.drewN q4, hHeld.2.2.drewN q4⟩ (fun hHeld => ?_)
    clear hK K hT
    obtain ⟨b, hb⟩ : ∃ b, b = decide (zs.drop k = tagS key (zs.take k)) := ⟨_, rfl⟩
    rw [← hb]
    refine wpAnyH_take (i := 9) (v := .bool (!b)) rfl (by kernel_rfl) (by kernel_rfl) (by kernel_rfl) (fun _ _ _ h => h) (yieldsIf_no (by rfl) 4 (.tmp 30) rfl b rfl) hHeld ?_
    simp only [Act.put, List.getElem_toArray, List.getElem_cons_succ, List.getElem_cons_zero, List.setIfInBounds_toArray, List.set_cons_succ, List.set_cons_zero]
    refine wpAnyH_done (by kernel_rfl) ?_ _
    obtain ⟨w5, hw5⟩ : ∃ w5, w5 = w3.drewN q4 := ⟨_, rfl⟩
    rw [← hw5] at hHeld ⊢
    clear hw5
    have X5 := Lib.hid hHeld
    have hlen : zs.length - 16 = k := by have := HL.out; omega
    clear hHeld
    cases b with
    | false =>
      have HF := Lib.hid (show openS key zs = (hd0, [], 8) from open_tag HE.out.1 (by rw [hlen]; simpa using hb.symm))
      clear hb hlen
      obtain ⟨⟨c0, c1, c2, c3⟩, f0, f1, f2, f3⟩ := X5.out.2.1.zeros
      go_wp2_with fail
      have hres : Blk (put4 w5 w.heap.size (.int .u8 0) (.bool false) (.int .u32 0) (.int .u64 0)) w.heap.size 26 (hdA hd0) := put4_blk X5.out.2.1
      exact bodyPost_ret (v := .tuple #[.agg (hdA hd0), .slice none 0 0, .int .i64 8]) (results_css Tryd.results15 _ _ w.heap.size 26 _ (0, 0) _ rfl hres Tryd.underlying26 rfl infoH _ _ rfl rfl) rfl (by rw [HF.out]; exact ⟨_, _, _, rfl, MadeAt.mk' (World.ownsRow_nil _ _ _ _) (put4_below X5.out.1 (Nat.le_refl _))⟩)
    | true =>
      have HF := Lib.hid (show openS key zs = (h, (zs.take k).drop 14, 0) from by
        rw [open_good HE.out.1 (by rw [hlen]; simpa using hb.symm), hlen, HE.out.2])
      clear hb hlen
      go_upto_region 7 with fail
      refine wp_region_held_drew (S := fun w' => Below w.heap.size w w' ∧ (∃ g : Hd, Blk w' w.heap.size 26 (hdA g)) ∧ Blk w' w1.heap.size 26 (hdA h)) (by kernel_rfl) ⟨X5.out.1.drew, ⟨_, X5.out.2.1.drew⟩, X5.out.2.2.drew⟩ (fun hHeld => ?_)
      refine wpAnyH_take (i := 0) (v := .agg (hdA h)) rfl (by kernel_rfl) (by kernel_rfl) (by kernel_rfl) (fun _ _ _ h => h) (yieldsIf_row (by rfl) 26 (.tmp 7) rfl w1.heap.size rfl 26 (hdA h) _ (fun _ h => h.2.2) Tryd.underlying26 rfl infoH) hHeld ?_
      simp only [Act.put, List.getElem_toArray, List.getElem_cons_zero, List.setIfInBounds_toArray, List.set_cons_succ, List.set_cons_zero]
      refine wpAnyH_take (i := 1) (v := .slice (some ad) (k + 16) d) rfl (by kernel_rfl) (by kernel_rfl) (by kernel_rfl) (fun _ _ _ h => h) (yieldsIf_move (by rfl) (.tmp 1) rfl _ rfl) hHeld ?_
      simp only [Act.put, List.getElem_toArray, List.getElem_cons_succ, List.getElem_cons_zero, List.setIfInBounds_toArray, List.set_cons_succ, List.set_cons_zero]
      refine wpAnyH_take (i := 2) (v := .int .i64 k) rfl (by kernel_rfl) (by kernel_rfl) (by kernel_rfl) (fun _ _ _ h => h) (yieldsIf_move (by rfl) (.tmp 9) rfl _ rfl) hHeld ?_
      simp only [Act.put, List.getElem_toArray, List.getElem_cons_succ, List.getElem_cons_zero, List.setIfInBounds_toArray, List.set_cons_succ, List.set_cons_zero]
      refine wpAnyH_take (i := 3) (v := .slice (some (ad.add 14)) (k - 14) (d - 14)) rfl (by kernel_rfl) (by kernel_rfl) (by kernel_rfl) (fun _ _ _ h => h) (yieldsIf_sliceOf (by rfl) 22 (.tmp 34) (.const (.int .i64 14)) (.tmp 35) rfl _ _ _ _ rfl rfl rfl (run_of8 ad (k + 16) d 14 k (by omega) (by have := H5.out.2.1; omega) (by have := H5.out.2.1; omega))) hHeld ?_
      simp only [Act.put, List.getElem_toArray, List.getElem_cons_succ, List.getElem_cons_zero, List.setIfInBounds_toArray, List.set_cons_succ, List.set_cons_zero]
      refine wpAnyH_ready (rs := [4]) (by kernel_rfl) (by simp) (AllReadyH.cons rfl (fun K hK => ?_) AllReadyH.nil)
      rw [if_pos (by rfl)]
      go_simp
      refine (clone_any (c := d - 14) (((H.out.2.2.2.2.2.1.below hHeld.1).front (k := k) (by omega)).from (k := 14) hk14) (by omega)).mono ?_
      rintro e w6 ⟨v, rfl, A6, n6, c6, rfl, hm6⟩
      have X6 := Lib.hid (And.intro hm6 (show w.heap.size < w5.drew.heap.size from hHeld.2.1.choose_spec.lt))
      have X7 := Lib.hid (show Below w.heap.size w w6 ∧ (∃ g : Hd, Blk w6 w.heap.size 26 (hdA g)) ∧ Blk w6 w1.heap.size 26 (hdA h) from ⟨hHeld.1.trans (hm6.below.mono hHeld.1.size), ⟨_, hHeld.2.1.choose_spec.below hm6.below hHeld.2.1.choose_spec.lt⟩, hHeld.2.2.below hm6.below hHeld.2.2.lt⟩)
      refine hK.out _ _ X7.out (fun hHeld => ?_)
      clear hK K hm6
      refine wpAnyH_ready (rs := [5]) (by kernel_rfl) (by simp) (AllReadyH.cons rfl (fun K hK => ?_) AllReadyH.nil)
      rw [if_pos (by rfl)]
      refine wp_store_row 26 (.tmp 4) (.tmp 33) rfl w.heap.size (hdA h) rfl rfl 26 _ hHeld.2.1.choose_spec infoH rfl (hdA_one _) ?_
      have hne : w1.heap.size ≠ w.heap.size := by have := X1lt.out; omega
      have hres := hHeld.2.1.choose_spec.setRow (hdA h)
      have hbel := below_setRow hHeld.1 (Nat.le_refl _) (hdA h)
      have hoth := hHeld.2.2.otherRow (hdA h) hne
      refine hK.out _ _ ⟨hbel, ⟨_, hres⟩, hoth⟩ (fun hHeld2 => ?_)
      clear hK K hHeld hoth
      refine wpAnyH_take (i := 6) (v := .slice A6 n6 c6) rfl (by kernel_rfl) (by kernel_rfl) (by kernel_rfl) (fun _ _ _ h => h) (yieldsIf_set (by rfl) (.tmp 37) rfl _ rfl) hHeld2 ?_
      simp only [Act.put, List.getElem_toArray, List.getElem_cons_succ, List.getElem_cons_zero, List.setIfInBounds_toArray, List.set_cons_succ, List.set_cons_zero]
      refine wpAnyH_take (i := 7) (v := .int .i64 0) rfl (by kernel_rfl) (by kernel_rfl) (by kernel_rfl) (fun _ _ _ h => h) (yieldsIf_set (by rfl) (.const (.int .i64 0)) rfl _ rfl) hHeld2 ?_
      simp only [Act.put, List.getElem_toArray, List.getElem_cons_succ, List.getElem_cons_zero, List.setIfInBounds_toArray, List.set_cons_succ, List.set_cons_zero]
      refine wpAnyH_done (by kernel_rfl) ?_ _
      have hown := own_base (X6.out.1.setRow X6.out.2 (hdA h)) (Nat.le_of_lt X6.out.2)
      clear hHeld2
      go_wp2_with fail
      exact bodyPost_ret (v := .tuple #[.agg (hdA h), .slice A6 n6 c6, .int .i64 0]) (results_css Tryd.results15 _ _ w.heap.size 26 _ (0, 0) _ rfl hres Tryd.underlying26 rfl infoH _ _ rfl rfl) rfl (by rw [HF.out]; exact ⟨_, _, _, rfl, MadeAt.mk' hown hbel⟩)
  · rw [open_peek he]
    obtain ⟨r, hr⟩ : ∃ r, r = (peekS zs).2 := ⟨_, rfl⟩
    have HR := Lib.hid (show (peekS zs).1 = hd0 from peek_zero he)
    rw [HR.out, ← hr] at HC
    rw [← hr] at he ⊢
    have hdr : (r != 0) = true := by simpa using he
    clear hr hl he
    go_enter Tryd.func15, Tryd.ntmps15
    go_wp2_with fail
    rw [← hw0]
    clear hw0
    refine HC.out.mono ?_
    rintro e w1 ⟨rfl, hb1⟩
    have X1 := Lib.hid (show Below w.heap.size w w1 ∧ Blk w1 w.heap.size 26 (hdA hd0) from ⟨X0.out.1.trans (hb1.mono X0.out.1.size), X0.out.2.below hb1 X0.out.2.lt⟩)
    clear hb1 HC X0
    have hn1 : Hid (Blk (w1.alloc (.cells #[.int .u8 0, .bool false, .int .u32 0, .int .u64 0] 26)) w1.heap.size 26 (hdA hd0)) := Blk.new _ _ _
    go_upto_region 2 with (refine wpList_store_row rfl 26 (.tmp 7) (.tmp 13) rfl w1.heap.size (hdA hd0) rfl rfl 26 (hdA hd0) hn1.out infoH rfl (hdA_one _) ?_)
    obtain ⟨w2, hw2⟩ : ∃ w2, w2 = (w1.alloc (.cells #[.int .u8 0, .bool false, .int .u32 0, .int .u64 0] 26)).setRow w1.heap.size (hdA hd0) := ⟨_, rfl⟩
    have X2 := Lib.hid (show Below w.heap.size w w2 ∧ Blk w2 w.heap.size 26 (hdA hd0) from by
      rw [hw2]
      exact ⟨below_setRow (X1.out.1.alloc X1.out.1.size _) X1.out.1.size _, (X1.out.2.alloc _).otherRow _ (Nat.ne_of_lt X1.out.2.lt)⟩)
    rw [← hw2]
    clear hw2 hn1 X1
    obtain ⟨⟨c0, c1, c2, c3⟩, f0, f1, f2, f3⟩ := X2.out.2.zeros
    go_wp2_with fail
    have hres : Blk (put4 w2 w.heap.size (.int .u8 0) (.bool false) (.int .u32 0) (.int .u64 0)) w.heap.size 26 (hdA hd0) := put4_blk X2.out.2
    exact bodyPost_ret (v := .tuple #[.agg (hdA hd0), .slice none 0 0, .int .i64 r]) (results_css Tryd.results15 _ _ w.heap.size 26 _ (0, 0) _ rfl hres Tryd.underlying26 rfl infoH _ _ rfl rfl) rfl ⟨_, _, _, rfl, MadeAt.mk' (World.ownsRow_nil _ _ _ _) (put4_below X2.out.1 (Nat.le_refl _))⟩

end Go.Proofs.YtogaakokplobaaaDoor
