/-
  Rows that may be stay so, whatever the calls; and what the program makes of a row is what the reference makes of it.
-/
import Derived.Test.YtflnocgahdlojaaDoorCellDo
import Derived.Test.YtflnocgahdlojaaDoorCellRefIns
namespace Go.Proofs.YtflnocgahdlojaaDoor

theorem blank_may {p : Pn} (h : penMayS p = true) : cellMay (blankS p) = true := by
  have h2 : colMay p.bg = true := by unfold penMayS at h; simp at h; exact h.2
  have w32 : widthS 32 = 1 := by decide +kernel
  have c0 : colMay 0 = true := by decide
  unfold cellMay penMayS blankS
  simp [h2, w32, c0]
theorem may_pen {c : Ce} (h : cellMay c = true) : penMayS c.p = true := by unfold cellMay at h; simp at h; exact h.1
theorem mendC_blank {P : List Pc} {i : Nat} (h : torn P i = true) : mendC P i = blankS (pAt P i).1.p := by unfold mendC; rw [if_pos h]
theorem mendC_same {P : List Pc} {i : Nat} (h : torn P i = false) : mendC P i = (pAt P i).1 := by unfold mendC; rw [if_neg (by rw [h]; simp)]

/-- Pieces that belong together are the halves of one letter. -/
structure PcOk (P : List Pc) : Prop where
  pos : 1 ≤ P.length
  le : P.length ≤ 80
  may : ∀ i, i < P.length → cellMay (pAt P i).1 = true
  pair : ∀ i, i + 1 < P.length → (pAt P i).1.wd = 1 → (pAt P (i + 1)).1.wd = 2 → (pAt P (i + 1)).2 = (pAt P i).2 + 1 → (pAt P (i + 1)).1 = rightS (pAt P i).1
theorem mend_ok {P : List Pc} (h : PcOk P) : RowOk (mendS P) := by
  refine ⟨by rw [mendS_length]; exact h.pos, by rw [mendS_length]; exact h.le, fun i hi => ?_⟩
  rw [mendS_length] at hi
  have hc := cAt_mendS hi
  unfold OkAt
  rw [hc, mendS_length]
  cases ht : torn P i
  · rw [mendC_same ht]
    have ht2 := ht
    unfold torn at ht2
    rw [decide_eq_false_iff_not] at ht2
    refine ⟨h.may i hi, fun h1 => ?_, fun h2 => ?_⟩
    · have h3 : i + 1 < P.length := by
        rcases Nat.lt_or_ge (i + 1) P.length with h0 | h0
        · exact h0
        · exact absurd (.inl ⟨h1, .inl (by omega)⟩) ht2
      have h4 : (pAt P (i + 1)).1.wd = 2 := by
        by_cases e : (pAt P (i + 1)).1.wd = 2
        · exact e
        · exact absurd (.inl ⟨h1, .inr (.inl e)⟩) ht2
      have h5 : (pAt P (i + 1)).2 = (pAt P i).2 + 1 := by
        by_cases e : (pAt P (i + 1)).2 = (pAt P i).2 + 1
        · exact e
        · exact absurd (.inl ⟨h1, .inr (.inr e)⟩) ht2
      refine ⟨h3, ?_⟩
      have h6 : torn P (i + 1) = false := by
        unfold torn
        rw [decide_eq_false_iff_not, Nat.add_sub_cancel]
        rintro (⟨e, _⟩ | ⟨_, e | e | e⟩)
        · omega
        · omega
        · exact e h1
        · omega
      rw [cAt_mendS h3, mendC_same h6]
      exact h.pair i h3 h1 h4 h5
    · have h3 : 0 < i := by
        rcases Nat.eq_zero_or_pos i with h0 | h0
        · exact absurd (.inr ⟨h2, .inl h0⟩) ht2
        · exact h0
      have h4 : (pAt P (i - 1)).1.wd = 1 := by
        by_cases e : (pAt P (i - 1)).1.wd = 1
        · exact e
        · exact absurd (.inr ⟨h2, .inr (.inl e)⟩) ht2
      have h5 : (pAt P (i - 1)).2 = (pAt P i).2 - 1 := by
        by_cases e : (pAt P (i - 1)).2 = (pAt P i).2 - 1
        · exact e
        · exact absurd (.inr ⟨h2, .inr (.inr e)⟩) ht2
      refine ⟨h3, ?_⟩
      have h6 : torn P (i - 1) = false := by
        unfold torn
        rw [decide_eq_false_iff_not, show i - 1 + 1 = i by omega]
        rintro (⟨_, e | e | e⟩ | ⟨e, _⟩)
        · omega
        · exact e h2
        · omega
        · omega
      rw [cAt_mendS (by omega), mendC_same h6]
      exact h4
  · rw [mendC_blank ht]
    refine ⟨blank_may (may_pen (h.may i hi)), fun e => ?_, fun e => ?_⟩
    · rw [blank_wd] at e; cases e
    · rw [blank_wd] at e; cases e

/-- Pieces of a row that may be, and blanks, are so. -/
theorem pcOk_of {L : List Ce} {P : List Pc} {p : Pn} (h : RowOk L) (hp : penMayS p = true) (hl : P.length = L.length)
    (hP : ∀ i, i < P.length → pAt P i = (blankS p, -10) ∨ ∃ j, j < L.length ∧ pAt P i = (cAt L j, (j : Int))) : PcOk P := by
  refine ⟨by rw [hl]; exact h.pos, by rw [hl]; exact h.le, fun i hi => ?_, fun i hi h1 h2 h3 => ?_⟩
  · rcases hP i hi with e | ⟨j, hj, e⟩
    · rw [e]; exact blank_may hp
    · rw [e]; exact (h.at_ j hj).1
  · rcases hP i (by omega) with e | ⟨j, hj, e⟩
    · rw [e] at h1; rw [blank_wd] at h1; cases h1
    · rcases hP (i + 1) hi with e2 | ⟨j2, hj2, e2⟩
      · rw [e2] at h2; rw [blank_wd] at h2; cases h2
      · rw [e, e2] at h3 ⊢
        rw [e] at h1
        have : j2 = j + 1 := by simp at h3; omega
        subst this
        exact (h.next hj h1).2
theorem put_ok {L : List Ce} (h : RowOk L) (x r : Int) {p : Pn} (hp : penMayS p = true) : RowOk (putS L x r p) := by
  rw [put_eq h]
  unfold putR
  have hold : PcOk (piecesS L) := pcOk_of h hp (piecesS_length L) fun i hi => .inr ⟨i, by rw [piecesS_length] at hi; exact hi, pAt_piecesS (by rw [piecesS_length] at hi; exact hi)⟩
  split
  · rename_i hx
    refine mend_ok ⟨by rw [List.length_set]; exact hold.pos, by rw [List.length_set]; exact hold.le, fun i hi => ?_, fun i hi h1 h2 h3 => ?_⟩
    · rw [List.length_set] at hi
      rw [pAt_set]
      split
      · unfold cellMay; simp [hp, hx.2.2]
      · exact hold.may i hi
    · rw [List.length_set] at hi
      rw [pAt_set] at h1 h3 ⊢
      rw [pAt_set] at h2 h3
      rw [pAt_set]
      split at h1
      · simp at h1
      · rename_i e1
        split at h2
        · simp at h2
        · rename_i e2
          rw [if_neg e1, if_neg e2] at h3 ⊢
          exact hold.pair i hi h1 h2 h3
  · split
    · rename_i hx
      obtain ⟨a, rfl⟩ : ∃ a : Nat, x = (a : Int) := ⟨x.toNat, by omega⟩
      rw [Int.toNat_natCast]
      have hP : ∀ k, k < L.length → pAt (((piecesS L).set a (⟨r, 1, p⟩, -10)).set (a + 1) (⟨0, 2, p⟩, -9)) k = if k = a + 1 then (⟨0, 2, p⟩, -9) else if k = a then (⟨r, 1, p⟩, -10) else (cAt L k, (k : Int)) := fun k hk => by
        rw [pAt_set, pAt_set, List.length_set, piecesS_length]
        by_cases e : k = a + 1
        · rw [if_pos ⟨e, hk⟩, if_pos e]
        · rw [if_neg (fun e2 => e e2.1), if_neg e]
          by_cases e2 : k = a
          · rw [if_pos ⟨e2, hk⟩, if_pos e2]
          · rw [if_neg (fun e3 => e2 e3.1), if_neg e2, pAt_piecesS hk]
      refine mend_ok ⟨by rw [List.length_set, List.length_set]; exact hold.pos, by rw [List.length_set, List.length_set]; exact hold.le, fun i hi => ?_, fun i hi h1 h2 h3 => ?_⟩
      · rw [List.length_set, List.length_set, piecesS_length] at hi
        rw [hP i hi]
        by_cases e : i = a + 1
        · rw [if_pos e]; unfold cellMay; simp [hp]
        · rw [if_neg e]
          by_cases e2 : i = a
          · rw [if_pos e2]; unfold cellMay; simp [hp, hx.2.2]
          · rw [if_neg e2]; exact (h.at_ i hi).1
      · rw [List.length_set, List.length_set, piecesS_length] at hi
        have q1 := hP i (by omega)
        have q2 := hP (i + 1) hi
        by_cases e : i = a
        · subst e
          rw [if_neg (by omega), if_pos rfl] at q1
          rw [if_pos rfl] at q2
          rw [q1, q2]; rfl
        · by_cases e2 : i = a + 1
          · rw [if_pos e2] at q1
            rw [q1] at h1; simp at h1
          · rw [if_neg e2, if_neg e] at q1
            by_cases e3 : i + 1 = a
            · rw [if_neg (by omega), if_pos e3] at q2
              rw [q2] at h2; simp at h2
            · rw [if_neg (by omega), if_neg e3] at q2
              rw [q1] at h1 ⊢
              rw [q2]
              exact (h.next (by omega) h1).2
    · exact mend_ok hold
theorem erase_ok {L : List Ce} (h : RowOk L) (a b : Int) {p : Pn} (hp : penMayS p = true) : RowOk (eraseS L a b p) := by
  rw [erase_eq h]
  refine mend_ok (pcOk_of h hp (eraseR_length L a b p) fun i hi => ?_)
  rw [eraseR_length] at hi
  rw [pAt_eraseR hi]
  split
  · exact .inl rfl
  · exact .inr ⟨i, hi, rfl⟩
theorem ins_ok {L : List Ce} (h : RowOk L) (x n : Int) {p : Pn} (hp : penMayS p = true) : RowOk (insertS L x n p) := by
  by_cases hc : 0 ≤ x ∧ x < L.length ∧ 1 ≤ n
  · rw [insert_eq h p hc.1 hc.2.1 hc.2.2]
    obtain ⟨a, rfl⟩ : ∃ a : Nat, x = (a : Int) := ⟨x.toNat, by omega⟩
    obtain ⟨k, hk⟩ : ∃ k, k = (min n ((L.length : Int) - (a : Int))).toNat := ⟨_, rfl⟩
    rw [← hk, Int.toNat_natCast]
    refine mend_ok (pcOk_of h hp (insR_len p (by omega)) fun i hi => ?_)
    rw [insR_len p (by omega)] at hi
    unfold insertR
    rw [pAt_append, pAt_append, List.length_take, piecesS_length, Nat.min_eq_left (by omega), List.length_replicate, pAt_take, pAt_take, pAt_drop, pAt_replicate]
    by_cases e1 : i < a
    · simp only [e1, if_true]
      exact .inr ⟨i, hi, pAt_piecesS hi⟩
    · rw [if_neg e1]
      by_cases e2 : i < a + k
      · rw [if_pos (by omega), if_pos (by omega)]; exact .inl rfl
      · rw [if_neg (by omega), if_pos (by omega)]
        exact .inr ⟨a + (i - a - k), by omega, pAt_piecesS (by omega)⟩
  · unfold insertS
    simp only []
    rw [if_neg hc]
    exact h
theorem del_ok {L : List Ce} (h : RowOk L) (x n : Int) {p : Pn} (hp : penMayS p = true) : RowOk (deleteS L x n p) := by
  by_cases hc : 0 ≤ x ∧ x < L.length ∧ 1 ≤ n
  · rw [delete_eq h p hc.1 hc.2.1 hc.2.2]
    obtain ⟨a, rfl⟩ : ∃ a : Nat, x = (a : Int) := ⟨x.toNat, by omega⟩
    obtain ⟨k, hk⟩ : ∃ k, k = (min n ((L.length : Int) - (a : Int))).toNat := ⟨_, rfl⟩
    rw [← hk, Int.toNat_natCast]
    refine mend_ok (pcOk_of h hp (delR_len p (by omega)) fun i hi => ?_)
    rw [delR_len p (by omega)] at hi
    unfold deleteR
    rw [pAt_append, pAt_append, List.length_take, List.length_drop, piecesS_length, Nat.min_eq_left (by omega), pAt_take, pAt_drop, pAt_replicate]
    by_cases e1 : i < a
    · simp only [e1, if_true]
      exact .inr ⟨i, hi, pAt_piecesS hi⟩
    · rw [if_neg e1]
      by_cases e2 : i < L.length - k
      · rw [if_pos (by omega)]; exact .inr ⟨a + k + (i - a), by omega, pAt_piecesS (by omega)⟩
      · rw [if_neg (by omega), if_pos (by omega)]; exact .inl rfl
  · unfold deleteS
    simp only []
    rw [if_neg hc]
    exact h
theorem ins_same {L : List Ce} (h : RowOk L) (x n : Int) (p : Pn) : insRS L x n p = insertS L x n p := by
  unfold insRS
  by_cases hc : 0 ≤ x ∧ x < L.length ∧ 1 ≤ n
  · rw [if_pos hc, insert_eq h p hc.1 hc.2.1 hc.2.2]
  · rw [if_neg hc]; unfold insertS; simp only []; rw [if_neg hc]
theorem del_same {L : List Ce} (h : RowOk L) (x n : Int) (p : Pn) : delRS L x n p = deleteS L x n p := by
  unfold delRS
  by_cases hc : 0 ≤ x ∧ x < L.length ∧ 1 ≤ n
  · rw [if_pos hc, delete_eq h p hc.1 hc.2.1 hc.2.2]
  · rw [if_neg hc]; unfold deleteS; simp only []; rw [if_neg hc]
theorem do_ok {L : List Ce} (h : RowOk L) (o : Op8) (hp : penMayS o.p = true) : RowOk (doS L o) := by
  unfold doS
  split
  · exact put_ok h _ _ hp
  · split
    · exact erase_ok h _ _ hp
    · split
      · exact ins_ok h _ _ hp
      · split
        · exact del_ok h _ _ hp
        · exact h
end Go.Proofs.YtflnocgahdlojaaDoor
