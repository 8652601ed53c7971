/-
  The reference's pieces, Put and Erase.
-/
import Derived.Test.YtflnocgahdlojaaDoorCellMend
import Derived.Test.YtflnocgahdlojaaDoorCellDo
namespace Go.Proofs.YtflnocgahdlojaaDoor
open Go.RowKit

def pc0 : Pc := (ce0, 0)
/-- A row of pieces, in memory of the call's own. -/
def MadeP (P : List Pc) (w : World) (e : Ending) (w' : World) : Prop :=
  Below w.heap.size w w' ∧ ∃ g c, e = .returned (.slice (some ⟨g, 0, none⟩) P.length c) ∧ w.heap.size ≤ g ∧ P.length ≤ c ∧ c ≤ maxLen ∧ Rw pcV 87 w' g P
/-- The row of pieces, after k rounds. -/
def pcK (L : List Ce) (k : Nat) : List Pc := (piecesS L).take k ++ List.replicate (L.length - k) pc0
theorem pcK_len {L : List Ce} {k : Nat} (h : k ≤ L.length) : (pcK L k).length = L.length := by simp [pcK, piecesS_length]; omega
theorem pcK_zero (L : List Ce) : pcK L 0 = List.replicate L.length pc0 := by simp [pcK]
theorem pcK_all (L : List Ce) : pcK L L.length = piecesS L := by simp [pcK]; rw [List.take_of_length_le (by rw [piecesS_length]; exact Nat.le_refl _)]
theorem prow_ext {L M : List Pc} (hl : L.length = M.length) (h : ∀ i, i < L.length → pAt L i = pAt M i) : L = M := by
  apply List.ext_getElem hl
  intro i h1 h2
  have := h i h1
  simpa [pAt, List.getD, List.getElem?_eq_getElem h1, List.getElem?_eq_getElem h2] using this
theorem pAt_replicate0 (n i : Nat) : pAt (List.replicate n pc0) i = pc0 := by
  rw [pAt_replicate]; split <;> rfl
theorem pcK_set {L : List Ce} {k : Nat} (h : k < L.length) : (pcK L k).set k (cAt L k, (k : Int)) = pcK L (k + 1) := by
  refine prow_ext (by rw [List.length_set, pcK_len (by omega), pcK_len (by omega)]) fun i hi => ?_
  rw [List.length_set, pcK_len (by omega)] at hi
  rw [pAt_set, pcK_len (by omega)]
  unfold pcK
  rw [pAt_append, pAt_append, List.length_take, List.length_take, piecesS_length, Nat.min_eq_left (by omega), Nat.min_eq_left (by omega), pAt_take, pAt_take, pAt_replicate0, pAt_replicate0]
  by_cases e : i = k
  · subst e
    rw [if_pos ⟨rfl, hi⟩, if_pos (by omega), if_pos (by omega), pAt_piecesS h]
  · rw [if_neg (fun e2 => e e2.1)]
    by_cases e2 : i < k
    · rw [if_pos e2, if_pos e2, if_pos (by omega), if_pos (by omega)]
    · rw [if_neg e2, if_neg (by omega)]

set_option maxHeartbeats 1600000 in
theorem pieces_any {w : World} {A : Option Addr} {n c : Nat} {L : List Ce} (h : Vs ceV w A n L) (hn : n ≤ 1000) :
    Calls Tryd.prog 71 #[.slice A n c] w (MadeP (piecesS L) w) := by
  have hmk := make_any (P := Tryd.prog) 84 Tryd.underlying84 pc0 pcV_len (by omega) (b8 := 32) (by omega) infoPc3 n (by omega)
  obtain ⟨w0, hw0⟩ : ∃ w0, w0 = w.alloc (.cells (rowV pcV (List.replicate n pc0)).toArray 87) := ⟨_, rfl⟩
  obtain ⟨g, hge⟩ : ∃ g, g = w.heap.size := ⟨_, rfl⟩
  have H := Lib.hid (show Vs ceV w A n L ∧ Below w.heap.size w w0 ∧ Rw pcV 87 w0 g (pcK L 0) ∧ w.heap.size = g from by
    rw [pcK_zero, h.len, hw0, hge]
    exact ⟨h, (Below.refl _ _).alloc (Nat.le_refl _) _, made_rw w _ _, rfl⟩)
  have HL := Lib.hid h.len
  clear h
  go_enter Tryd.func71, Tryd.ntmps71
  go_upto_region 2 with fail
  rw [← hw0, ← hge]
  clear hw0 hge hmk
  go_wp2_with fail
  have HG := Lib.hid (show ∀ k, some g = some k → w.heap.size ≤ k from fun k e => by injection e with e; have := H.out.2.2.2; omega)
  go_loopw [10] (fun i wr => ∃ k : Nat, k ≤ n ∧ i = .int .i64 k ∧ Below w.heap.size w wr ∧ Rw pcV 87 wr g (pcK L k)) (fun i _ => n - (intOf i).toNat)
  case atStart => exact ⟨0, Nat.zero_le _, rfl, H.out.2.1, H.out.2.2.1⟩
  case round =>
    obtain ⟨k, hk, rfl, hbw, hRk⟩ := hrel
    by_cases hlt : k < n
    · have hkl : (k : Int) < (n : Int) := by omega
      obtain ⟨ad, rfl⟩ := H.out.1.addr (by omega)
      have hadl : ad.block < wr.heap.size := (H.out.1.below hbw).lt (by omega)
      have HKN := Lib.hid (show k < L.length from by rw [HL.out]; exact hlt)
      have hs := (H.out.1.below hbw).six hlt
      obtain ⟨x, hx⟩ : ∃ x, x = cAt L k := ⟨_, rfl⟩
      rw [← hx] at hs
      obtain ⟨z0, z1, z2, z3, z4, z5⟩ := hs
      have HX := Lib.hid hx
      have HB := Lib.hid hbw
      clear hx hbw
      go_wp2_with (refine wpList_store_V rfl 87 (.tmp 21) (.tmp 20) rfl pcV_len one_pc infoPc g _ k (x, (k : Int)) _ rfl rfl rfl rfl 87 _ hRk (by rw [pcK_len (by rw [HL.out]; exact hk)]; exact HKN.out) ?_; intro w1 hR1 hg1; have hb1 := Below.grown HB.out hg1 HB.out.size HG.out)
      have HZ := Lib.hid (show Below w.heap.size w w1 ∧ Rw pcV 87 w1 g (pcK L (k + 1)) from ⟨hb1, by rw [HX.out, pcK_set HKN.out] at hR1; exact hR1⟩)
      clear hR1 hg1 hb1
      go_wp2_with fail
      go_roundw
      case rel => exact ⟨k + 1, by omega, by go_num, HZ.out⟩
      case measure => simp [intOf]; omega
    · obtain rfl : k = n := by omega
      have HP : Hid (MadeP (piecesS L) w (.returned (.slice (some ⟨g, 0, none⟩) k k)) wr) := by
        rw [← HL.out, pcK_all] at hRk
        exact ⟨hbw, g, k, by rw [piecesS_length, HL.out], by have := H.out.2.2.2; omega, by rw [piecesS_length, HL.out]; exact Nat.le_refl _, by unfold maxLen; omega, hRk⟩
      clear hRk hbw
      go_wp2_with fail
      go_ret
      exact HP.out
end Go.Proofs.YtflnocgahdlojaaDoor
