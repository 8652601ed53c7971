/-
  The small functions of layer 8 and of its reference: which colours, pens and cells may be; blanks.
-/
import Derived.Test.YtflnocgahdlojaaDoorCellMem
import Derived.Test.YtflnocgahdlojaaDoorCellRefWid
namespace Go.Proofs.YtflnocgahdlojaaDoor
open Go.RowKit

theorem colMay_any (c : Int) (w : World) : Calls Tryd.prog 73 #[.int .u32 c] w fun e w' => e = .returned (.bool (colMay c)) ∧ w = w' := by
  obtain ⟨B, hB⟩ : ∃ B, colMay c = B := ⟨_, rfl⟩
  rw [hB]
  have HB := Lib.hid hB
  clear hB
  by_cases h1 : c ≤ 256
  · have hb : B = true := by rw [← HB.out]; simp [colMay]; omega
    subst hb
    go_enter Tryd.func73, Tryd.ntmps73
    go_wp2_with fail
    go_ret
    exact ⟨rfl, rfl⟩
  · by_cases h2 : 16777216 ≤ c
    · by_cases h3 : c ≤ 33554431
      · have hb : B = true := by rw [← HB.out]; simp [colMay]; omega
        subst hb
        go_enter Tryd.func73, Tryd.ntmps73
        go_wp2_with fail
        go_ret
        exact ⟨rfl, rfl⟩
      · have hb : B = false := by rw [← HB.out]; simp [colMay]; omega
        subst hb
        go_enter Tryd.func73, Tryd.ntmps73
        go_wp2_with fail
        go_ret
        exact ⟨rfl, rfl⟩
    · have hb : B = false := by rw [← HB.out]; simp [colMay]; omega
      subst hb
      go_enter Tryd.func73, Tryd.ntmps73
      go_wp2_with fail
      go_ret
      exact ⟨rfl, rfl⟩
theorem refColMay_any (c : Int) (w : World) : Calls Tryd.prog 42 #[.int .u32 c] w fun e w' => e = .returned (.bool (colMay c)) ∧ w = w' := by
  obtain ⟨B, hB⟩ : ∃ B, colMay c = B := ⟨_, rfl⟩
  rw [hB]
  have HB := Lib.hid hB
  clear hB
  by_cases h1 : c ≤ 256
  · have hb : B = true := by rw [← HB.out]; simp [colMay]; omega
    subst hb
    go_enter Tryd.func42, Tryd.ntmps42
    go_wp2_with fail
    go_ret
    exact ⟨rfl, rfl⟩
  · by_cases h2 : 16777216 ≤ c
    · by_cases h3 : c < 33554432
      · have hb : B = true := by rw [← HB.out]; simp [colMay]; omega
        subst hb
        go_enter Tryd.func42, Tryd.ntmps42
        go_wp2_with fail
        go_ret
        exact ⟨rfl, rfl⟩
      · have hb : B = false := by rw [← HB.out]; simp [colMay]; omega
        subst hb
        go_enter Tryd.func42, Tryd.ntmps42
        go_wp2_with fail
        go_ret
        exact ⟨rfl, rfl⟩
    · have hb : B = false := by rw [← HB.out]; simp [colMay]; omega
      subst hb
      go_enter Tryd.func42, Tryd.ntmps42
      go_wp2_with fail
      go_ret
      exact ⟨rfl, rfl⟩
theorem penMay_any (p : Pn) (w : World) : Calls Tryd.prog 69 #[.agg (pnA p)] w fun e w' => e = .returned (.bool (penMayS p)) ∧ Below w.heap.size w w' := by
  obtain ⟨fg, bg, st, lk⟩ := p
  unfold pnA
  obtain ⟨x, hx⟩ : ∃ x, colMay fg = x := ⟨_, rfl⟩
  have e : penMayS ⟨fg, bg, st, lk⟩ = (x && colMay bg) := by unfold penMayS; rw [hx]
  rw [e]
  have HX := Lib.hid hx
  clear e hx
  cases x
  · go_enter Tryd.func69, Tryd.ntmps69
    go_wp2_with fail
    refine (colMay_any _ _).mono ?_
    rintro e w1 ⟨rfl, rfl⟩
    rw [HX.out]
    go_wp2_with fail
    go_ret
    exact ⟨rfl, (Below.refl _ _).alloc (Nat.le_refl _) _⟩
  · go_enter Tryd.func69, Tryd.ntmps69
    go_wp2_with fail
    refine (colMay_any _ _).mono ?_
    rintro e w1 ⟨rfl, rfl⟩
    rw [HX.out]
    go_wp2_with fail
    refine (colMay_any _ _).mono ?_
    rintro e w1 ⟨rfl, rfl⟩
    go_wp2_with fail
    go_ret
    exact ⟨by simp, (Below.refl _ _).alloc (Nat.le_refl _) _⟩
theorem refPenMay_any (p : Pn) (w : World) : Calls Tryd.prog 21 #[.agg (pnA p)] w fun e w' => e = .returned (.bool (penMayS p)) ∧ Below w.heap.size w w' := by
  obtain ⟨fg, bg, st, lk⟩ := p
  unfold pnA
  obtain ⟨x, hx⟩ : ∃ x, colMay fg = x := ⟨_, rfl⟩
  have e : penMayS ⟨fg, bg, st, lk⟩ = (x && colMay bg) := by unfold penMayS; rw [hx]
  rw [e]
  have HX := Lib.hid hx
  clear e hx
  cases x
  · go_enter Tryd.func21, Tryd.ntmps21
    go_wp2_with fail
    refine (refColMay_any _ _).mono ?_
    rintro e w1 ⟨rfl, rfl⟩
    rw [HX.out]
    go_wp2_with fail
    go_ret
    exact ⟨rfl, (Below.refl _ _).alloc (Nat.le_refl _) _⟩
  · go_enter Tryd.func21, Tryd.ntmps21
    go_wp2_with fail
    refine (refColMay_any _ _).mono ?_
    rintro e w1 ⟨rfl, rfl⟩
    rw [HX.out]
    go_wp2_with fail
    refine (refColMay_any _ _).mono ?_
    rintro e w1 ⟨rfl, rfl⟩
    go_wp2_with fail
    go_ret
    exact ⟨by simp, (Below.refl _ _).alloc (Nat.le_refl _) _⟩
theorem beqD (a b : Int) : (a == b) = decide (a = b) := by rw [Bool.eq_iff_iff]; simp
theorem alloc2_new (w : World) (o1 o2 : Obj) : ((w.alloc o1).alloc o2).heap[w.heap.size + 1]? = some o2 := by
  have := heap_alloc_new (w.alloc o1) o2
  simpa using this
theorem infoCe : (Tryd.prog.info? 41).map (·.size) = some 6 := by kernel_rfl
theorem infoPc : (Tryd.prog.info? 87).map (·.size) = some 7 := by kernel_rfl
theorem blank_any (p : Pn) (w : World) : Calls Tryd.prog 62 #[.agg (pnA p)] w fun e w' => e = .returned (.agg (ceA (blankS p))) ∧ Below w.heap.size w w' := by
  obtain ⟨fg, bg, st, lk⟩ := p
  unfold pnA
  go_enter Tryd.func62, Tryd.ntmps62
  go_wp2_with fail
  exact bodyPost_ret (results_cell_row Tryd.results62 _ _ (w.heap.size + 1) 41 _ (0, 0) _ rfl (alloc2_new _ _ _) Tryd.underlying41 rfl infoCe) rfl ⟨rfl, ((Below.refl _ _).alloc (Nat.le_refl _) _).alloc (by simp) _⟩
theorem refBlank_any (p : Pn) (w : World) : Calls Tryd.prog 41 #[.agg (pnA p)] w fun e w' => e = .returned (.agg (ceA (blankS p))) ∧ Below w.heap.size w w' := by
  obtain ⟨fg, bg, st, lk⟩ := p
  unfold pnA
  go_enter Tryd.func41, Tryd.ntmps41
  go_wp2_with fail
  exact bodyPost_ret (results_cell_row Tryd.results41 _ _ (w.heap.size + 1) 41 _ (0, 0) _ rfl (alloc2_new _ _ _) Tryd.underlying41 rfl infoCe) rfl ⟨rfl, ((Below.refl _ _).alloc (Nat.le_refl _) _).alloc (by simp) _⟩
theorem rightOf_any (c : Ce) (w : World) : Calls Tryd.prog 56 #[.agg (ceA c)] w fun e w' => e = .returned (.agg (ceA (rightS c))) ∧ Below w.heap.size w w' := by
  obtain ⟨r, wd, fg, bg, st, lk⟩ := c
  unfold ceA
  go_enter Tryd.func56, Tryd.ntmps56
  go_wp2_with fail
  exact bodyPost_ret (results_cell_row Tryd.results56 _ _ (w.heap.size + 1) 41 _ (0, 0) _ rfl (alloc2_new _ _ _) Tryd.underlying41 rfl infoCe) rfl ⟨rfl, ((Below.refl _ _).alloc (Nat.le_refl _) _).alloc (by simp) _⟩

theorem ceMay_any (c : Ce) {w : World} (hT : Tabs w) : Calls Tryd.prog 55 #[.agg (ceA c)] w fun e w' => e = .returned (.bool (cellMay c)) ∧ Below w.heap.size w w' := by
  obtain ⟨B, hB⟩ : ∃ B, cellMay c = B := ⟨_, rfl⟩
  rw [hB]
  obtain ⟨r, wd, p⟩ := c
  obtain ⟨V, hV⟩ : ∃ V, widthS r = V := ⟨_, rfl⟩
  obtain ⟨M, hM⟩ : ∃ M, penMayS p = M := ⟨_, rfl⟩
  unfold cellMay at hB
  simp only [hV, hM] at hB
  have HV := Lib.hid (And.intro hV hM)
  have HB := Lib.hid hB
  have HT := Lib.hid hT
  clear hV hM hB hT
  obtain ⟨fg, bg, st, lk⟩ := p
  unfold ceA
  dsimp only
  go_enter Tryd.func55, Tryd.ntmps55
  go_wp2_with fail
  refine (penMay_any ⟨fg, bg, st, lk⟩ _).mono ?_
  rintro e w1 ⟨rfl, hb⟩
  rw [HV.out.2]
  have c0 : w1.cell? ⟨w.heap.size, 0, none⟩ = some (.int .i32 r) := (hb.cell (by simp)).trans (cell_of_row _ _ 0 _ _ _ (heap_alloc_new w _))
  have c1 : w1.cell? ⟨w.heap.size, 1, none⟩ = some (.int .u8 wd) := (hb.cell (by simp)).trans (cell_of_row _ _ 1 _ _ _ (heap_alloc_new w _))
  have X := Lib.hid (show Below w.heap.size w w1 from ((Below.refl _ _).alloc (Nat.le_refl _) _).trans (hb.mono (by simp)))
  clear hb
  cases M
  · go_wp2_with fail
    go_ret
    exact ⟨by rw [← HB.out]; first | (simp; done) | (simp; exact beqD _ _), X.out⟩
  · by_cases h0 : wd = 0
    · subst h0
      go_wp2_with fail
      refine (width_any r (HT.out.below X.out (Nat.le_refl _))).mono ?_
      rintro e w2 ⟨rfl, hb⟩
      rw [HV.out.1]
      have X2 := Lib.hid (X.out.trans (hb.mono X.out.size))
      clear hb X
      go_wp2_with fail
      go_ret
      exact ⟨by rw [← HB.out]; first | (simp; done) | (simp; exact beqD _ _), X2.out⟩
    · by_cases h1 : wd = 1
      · subst h1
        go_wp2_with fail
        refine (width_any r (HT.out.below X.out (Nat.le_refl _))).mono ?_
        rintro e w2 ⟨rfl, hb⟩
        rw [HV.out.1]
        have X2 := Lib.hid (X.out.trans (hb.mono X.out.size))
        clear hb X
        go_wp2_with fail
        go_ret
        exact ⟨by rw [← HB.out]; first | (simp; done) | (simp; exact beqD _ _), X2.out⟩
      · by_cases h2 : wd = 2
        · subst h2
          go_wp2_with fail
          go_ret
          exact ⟨by rw [← HB.out]; first | (simp; done) | (simp; exact beqD _ _), X.out⟩
        · go_wp2_with fail
          go_ret
          exact ⟨by rw [← HB.out]; simp [h0, h1, h2], X.out⟩
theorem refCeMay_any (c : Ce) (w : World) : Calls Tryd.prog 54 #[.agg (ceA c)] w fun e w' => e = .returned (.bool (cellMay c)) ∧ Below w.heap.size w w' := by
  obtain ⟨B, hB⟩ : ∃ B, cellMay c = B := ⟨_, rfl⟩
  rw [hB]
  obtain ⟨r, wd, p⟩ := c
  obtain ⟨V, hV⟩ : ∃ V, widthS r = V := ⟨_, rfl⟩
  obtain ⟨M, hM⟩ : ∃ M, penMayS p = M := ⟨_, rfl⟩
  unfold cellMay at hB
  simp only [hV, hM] at hB
  have HV := Lib.hid (And.intro hV hM)
  have HB := Lib.hid hB
  clear hV hM hB
  obtain ⟨fg, bg, st, lk⟩ := p
  unfold ceA
  dsimp only
  go_enter Tryd.func54, Tryd.ntmps54
  go_wp2_with fail
  refine (refWid_any r _).mono ?_
  rintro e w1 ⟨rfl, rfl⟩
  rw [HV.out.1]
  go_wp2_with fail
  refine (refPenMay_any ⟨fg, bg, st, lk⟩ _).mono ?_
  rintro e w1 ⟨rfl, hb⟩
  rw [HV.out.2]
  have c0 : w1.cell? ⟨w.heap.size, 0, none⟩ = some (.int .i32 r) := (hb.cell (by simp)).trans (cell_of_row _ _ 0 _ _ _ (heap_alloc_new w _))
  have c1 : w1.cell? ⟨w.heap.size, 1, none⟩ = some (.int .u8 wd) := (hb.cell (by simp)).trans (cell_of_row _ _ 1 _ _ _ (heap_alloc_new w _))
  have X := Lib.hid (show Below w.heap.size w w1 from ((Below.refl _ _).alloc (Nat.le_refl _) _).trans (hb.mono (by simp)))
  clear hb
  cases M
  · go_wp2_with fail
    go_ret
    exact ⟨by rw [← HB.out]; first | (simp; done) | (simp; exact beqD _ _), X.out⟩
  · by_cases h0 : wd = 0
    · subst h0
      by_cases hv : V = 1
      · subst hv
        go_wp2_with fail
        go_ret
        exact ⟨by rw [← HB.out]; first | (simp; done) | (simp; exact beqD _ _), X.out⟩
      · have t1 : decide (V = 1) = false := by simpa using hv
        have t2 : (V == 1) = false := by simpa using hv
        go_wp2_with fail
        go_ret
        exact ⟨by rw [← HB.out]; simp [hv], X.out⟩
    · by_cases h1 : wd = 1
      · subst h1
        by_cases hv : V = 2
        · subst hv
          go_wp2_with fail
          go_ret
          exact ⟨by rw [← HB.out]; first | (simp; done) | (simp; exact beqD _ _), X.out⟩
        · have t1 : decide (V = 2) = false := by simpa using hv
          have t2 : (V == 2) = false := by simpa using hv
          go_wp2_with fail
          go_ret
          exact ⟨by rw [← HB.out]; simp [hv], X.out⟩
      · by_cases h2 : wd = 2
        · subst h2
          go_wp2_with fail
          go_ret
          exact ⟨by rw [← HB.out]; first | (simp; done) | (simp; exact beqD _ _), X.out⟩
        · go_wp2_with fail
          go_ret
          exact ⟨by rw [← HB.out]; simp [h0, h1, h2], X.out⟩
end Go.Proofs.YtflnocgahdlojaaDoor
