/-
  The reference's RowMay.
-/
import Derived.Test.YtflnocgahdlojaaDoorCellRowMay
namespace Go.Proofs.YtflnocgahdlojaaDoor
open Go.RowKit

def OkR (L : List Ce) (i : Nat) : Prop :=
  cellMay (cAt L i) = true ∧ ((cAt L i).wd = 1 → i + 1 < L.length ∧ (cAt L (i + 1)).wd = 2 ∧ (cAt L (i + 1)).p = (cAt L i).p) ∧ ((cAt L i).wd = 2 → 0 < i ∧ (cAt L (i - 1)).wd = 1)
theorem okAt_R {L : List Ce} {i : Nat} (h : OkAt L i) : OkR L i := ⟨h.1, fun e => by
  obtain ⟨h1, h2⟩ := h.2.1 e
  exact ⟨h1, by rw [h2]; rfl, by rw [h2]; rfl⟩, h.2.2⟩
theorem okR_all {L : List Ce} (h : ∀ i, i < L.length → OkR L i) : ∀ i, i < L.length → OkAt L i := fun i hi => ⟨(h i hi).1, fun e => by
  obtain ⟨h1, h2, h3⟩ := (h i hi).2.1 e
  refine ⟨h1, ?_⟩
  have h4 := (h (i + 1) h1).1
  unfold cellMay at h4
  rw [h2] at h4
  simp at h4
  exact Ce.ext' h4.2 h2 h3, (h i hi).2.2⟩
theorem okR_not {L : List Ce} {k : Nat} (hk : k < L.length) (h : ¬ OkR L k) : rowMay L = false := okAt_not hk fun e => h (okAt_R e)
theorem okR_succ {L : List Ce} {k : Nat} (h : ∀ j, j < k → OkR L j) (h2 : OkR L k) : ∀ j, j < k + 1 → OkR L j := fun j hj => by
  by_cases e : j = k
  · rw [e]; exact h2
  · exact h j (by omega)

set_option maxHeartbeats 3200000 in
set_option maxRecDepth 100000 in
theorem refRowMay_any {w : World} {A : Option Addr} {n c : Nat} {L : List Ce} (h : Vs ceV w A n L) (hn : n ≤ 9223372036854775807) :
    Calls Tryd.prog 29 #[.slice A n c] w fun e w' => e = .returned (.bool (rowMay L)) ∧ Below w.heap.size w w' := by
  by_cases h1 : n = 0
  · have hd : rowMay L = false := (rowMay_not L).2 fun e => by have := e.pos; have := h.len; omega
    rw [hd]
    clear h hd
    subst h1
    go_enter Tryd.func29, Tryd.ntmps29
    go_wp2_with fail
    go_ret
    exact ⟨rfl, Below.refl _ _⟩
  by_cases h2 : 80 < n
  · have hd : rowMay L = false := (rowMay_not L).2 fun e => by have := e.le; have := h.len; omega
    rw [hd]
    clear h hd
    have hn0 : ((n : Int) == 0) = false := by simp; omega
    go_enter Tryd.func29, Tryd.ntmps29
    go_wp2_with fail
    go_ret
    exact ⟨rfl, Below.refl _ _⟩
  have hn80 : n ≤ 80 := by omega
  have hn0 : ((n : Int) == 0) = false := by simp; omega
  have H := Lib.hid h
  clear h
  go_enter Tryd.func29, Tryd.ntmps29
  go_wp2_with fail
  clear hn0
  go_loopw [3] (fun i wr => ∃ k : Nat, k ≤ n ∧ i = .int .i64 k ∧ (∀ j, j < k → OkR L j) ∧ Below w.heap.size w wr) (fun i _ => n - (intOf i).toNat)
  case atStart => exact ⟨0, Nat.zero_le _, rfl, fun j hj => absurd hj (by omega), Below.refl _ _⟩
  case round =>
    obtain ⟨k, hk, rfl, hok, hbw⟩ := hrel
    have HJ := Lib.hid hok
    have X := Lib.hid (show Below w.heap.size w wr ∧ Vs ceV wr A n L from ⟨hbw, H.out.below hbw⟩)
    clear hok hbw
    by_cases hlt : k < n
    · have hkl : (k : Int) < (n : Int) := by omega
      obtain ⟨ad, rfl⟩ := H.out.addr (by omega)
      have HKL := Lib.hid (show k < L.length from by rw [H.out.len]; exact hlt)
      obtain ⟨x, hx⟩ : ∃ x, x = cAt L k := ⟨_, rfl⟩
      have hsx := X.out.2.six hlt
      rw [← hx] at hsx
      obtain ⟨a0, a1, a2, a3, a4, a5⟩ := hsx
      have HX := Lib.hid hx
      clear hx
      go_wp2_with fail
      refine (refCeMay_any x _).mono ?_
      rintro e w2 ⟨rfl, hb⟩
      have Y := Lib.hid (show Below w.heap.size w w2 ∧ Vs ceV w2 (some ad) n L from ⟨X.out.1.trans (hb.mono X.out.1.size), X.out.2.below hb⟩)
      have hsx := Y.out.2.six hlt
      rw [← HX.out] at hsx
      clear a0 a1 a2 a3 a4 a5 hb X
      obtain ⟨M, hM⟩ : ∃ M, cellMay x = M := ⟨_, rfl⟩
      rw [hM]
      have HM := Lib.hid hM
      clear hM
      cases M
      · have HD := Lib.hid (okR_not HKL.out (fun e => by have := e.1; rw [← HX.out, HM.out] at this; cases this))
        clear hsx
        go_wp2_with fail
        go_ret
        exact ⟨retF HD.out, Y.out.1⟩
      · obtain ⟨d0, d1, d2, d3, d4, d5⟩ := hsx
        clear d0
        by_cases hw1 : x.wd = 1
        · rw [hw1] at d1
          have HW := Lib.hid hw1
          clear hw1
          by_cases hlast : k + 1 = n
          · have hl1 : ((k : Int) == (n : Int) - 1) = true := by simp; omega
            have HD := Lib.hid (okR_not HKL.out (fun e => by have := (e.2.1 (by rw [← HX.out]; exact HW.out)).1; have := H.out.len; omega))
            clear hlast d2 d3 d4 d5
            go_wp2_with fail
            go_quiet (fail)
            go_wp2_with fail
            go_ret
            exact ⟨retF HD.out, belowN Y.out.1 _⟩
          · have hl1 : ((k : Int) == (n : Int) - 1) = false := by simp; omega
            have hl3 : k + 1 < n := by omega
            have hl4 : (0 : Int) ≤ (k : Int) + 1 := by omega
            have hl2 : (k : Int) + 1 < (n : Int) := by omega
            have hl5 : ((k : Int) + 1).toNat = k + 1 := by omega
            obtain ⟨y, hy⟩ : ∃ y, y = cAt L (k + 1) := ⟨_, rfl⟩
            have hsy := Y.out.2.six hl3
            rw [← hy] at hsy
            obtain ⟨b0, b1, b2, b3, b4, b5⟩ := hsy
            have HY := Lib.hid hy
            clear hy hlast b0 hl3
            by_cases hy2 : y.wd = 2
            · rw [hy2] at b1
              have HY2 := Lib.hid hy2
              clear hy2
              have hne := fun w => pn_neq y.p x.p w
              unfold pnA at hne
              have hgd := guardPn
              obtain ⟨B, hB⟩ : ∃ B, decide (y.p = x.p) = B := ⟨_, rfl⟩
              rw [hB] at hne
              have HB := Lib.hid hB
              clear hB
              cases B
              · have HD := Lib.hid (okR_not HKL.out (fun e => of_decide_eq_false HB.out (by rw [HX.out, HY.out]; exact (e.2.1 (by rw [← HX.out]; exact HW.out)).2.2)))
                go_wp2_with fail
                go_quiet (fail)
                go_wp2_with fail
                go_ret
                exact ⟨retF HD.out, belowN Y.out.1 _⟩
              · have HOK := Lib.hid (show OkR L k from ⟨by rw [← HX.out]; exact HM.out, fun _ => ⟨by rw [H.out.len]; omega, by rw [← HY.out]; exact HY2.out, by rw [← HY.out, ← HX.out]; exact of_decide_eq_true HB.out⟩, fun e => by rw [← HX.out, HW.out] at e; cases e⟩)
                go_wp2_with fail
                go_quiet (fail)
                clear b1 b2 b3 b4 b5 d2 d3 d4 d5 hne hgd
                go_wp2_with fail
                go_roundw
                case rel => exact ⟨k + 1, by omega, by go_num, okR_succ HJ.out HOK.out, belowN Y.out.1 _⟩
                case measure => simp [intOf]; omega
            · have hy3 : (y.wd != 2) = true := by simpa using hy2
              have HD := Lib.hid (okR_not HKL.out (fun e => hy2 (by rw [HY.out]; exact (e.2.1 (by rw [← HX.out]; exact HW.out)).2.1)))
              clear hy2 b2 b3 b4 b5 d2 d3 d4 d5
              go_wp2_with fail
              go_quiet (fail)
              go_wp2_with fail
              go_ret
              exact ⟨retF HD.out, belowN Y.out.1 _⟩
        · have t1 : (x.wd == 1) = false := by simpa using hw1
          clear d2 d3 d4 d5
          by_cases hw2 : x.wd = 2
          · rw [hw2] at d1 t1
            by_cases h0 : k = 0
            · have HD := Lib.hid (okR_not HKL.out (fun e => by have := (e.2.2 (by rw [← HX.out]; exact hw2)).1; omega))
              have hk0 : ((k : Int) == 0) = true := by simp; omega
              clear h0
              go_wp2_with fail
              go_quiet (fail)
              go_wp2_with fail
              go_ret
              exact ⟨retF HD.out, belowN Y.out.1 _⟩
            · have hk0 : ((k : Int) == 0) = false := by simp; omega
              have hk1 : 0 ≤ (k : Int) - 1 := by omega
              have hk2 : ((k : Int) - 1).toNat = k - 1 := by omega
              obtain ⟨y, hy⟩ : ∃ y, y = cAt L (k - 1) := ⟨_, rfl⟩
              have hsy := Y.out.2.six (k := k - 1) (by omega)
              rw [← hy] at hsy
              obtain ⟨b0, b1, b2, b3, b4, b5⟩ := hsy
              have HY := Lib.hid hy
              clear hy b0 b2 b3 b4 b5
              by_cases hy1 : y.wd = 1
              · rw [hy1] at b1
                have HOK := Lib.hid (show OkR L k from ⟨by rw [← HX.out]; exact HM.out, fun e => absurd (by rw [HX.out]; exact e) hw1, fun _ => ⟨by omega, by rw [← HY.out]; exact hy1⟩⟩)
                clear hy1 hw1 hw2
                go_wp2_with fail
                go_quiet (fail)
                go_wp2_with fail
                go_roundw
                case rel => exact ⟨k + 1, by omega, by go_num, okR_succ HJ.out HOK.out, belowN Y.out.1 _⟩
                case measure => simp [intOf]; omega
              · have hy2 : (y.wd != 1) = true := by simpa using hy1
                have HD := Lib.hid (okR_not HKL.out (fun e => hy1 (by rw [HY.out]; exact (e.2.2 (by rw [← HX.out]; exact hw2)).2)))
                go_wp2_with fail
                go_quiet (fail)
                go_wp2_with fail
                go_ret
                exact ⟨retF HD.out, belowN Y.out.1 _⟩
          · have t2 : (x.wd == 2) = false := by simpa using hw2
            have HOK := Lib.hid (show OkR L k from ⟨by rw [← HX.out]; exact HM.out, fun e => absurd (by rw [HX.out]; exact e) hw1, fun e => absurd (by rw [HX.out]; exact e) hw2⟩)
            go_wp2_with fail
            go_quiet (fail)
            go_wp2_with fail
            go_roundw
            case rel => exact ⟨k + 1, by omega, by go_num, okR_succ HJ.out HOK.out, belowN Y.out.1 _⟩
            case measure => simp [intOf]; omega
    · obtain rfl : k = n := by omega
      have HD := Lib.hid ((rowMay_iff L).2 ⟨by have := H.out.len; omega, by have := H.out.len; omega, okR_all fun i hi => HJ.out i (by have := H.out.len; omega)⟩)
      go_wp2_with fail
      go_ret
      exact ⟨retT HD.out, X.out.1⟩
end Go.Proofs.YtflnocgahdlojaaDoor
