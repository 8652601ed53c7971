/-
  utf.Runes: all that bytes tell.
-/
import Derived.Test.YtappnfifhpmekaaDoorUtfMem
import Derived.Laws.EntriesVeiled
namespace Go.Proofs.YtappnfifhpmekaaDoor
open Go.RowKit

theorem sL_from (s : ByteArray) (k : Nat) : sL (s.extract k s.size) = (sL s).drop k := by
  simp [sL, ByteArray.extract, ByteArray.copySlice]
  rw [List.take_of_length_le (by simp)]
theorem own_ne {w : World} {base it : Nat} {e : TypeId} {v : Value} {n : Nat} {xs : List Value} (h : w.ownsRow base e 1 v n xs) (hb : it < base) : v.ownBlock = none ∨ v.ownBlock ≠ some it := by
  obtain ⟨A, c, rfl, _, _⟩ := own_shape h
  cases A with
  | none => exact .inl rfl
  | some ad => exact .inr (fun e => by have := (own_block h).1; simp [Value.ownBlock] at e; omega)
theorem decS_ct {L : List Int} (h : 128 ≤ L.getD 0 0 ∧ L.getD 0 0 ≤ 191) : decS L = (65533, 1) := by
  have hs : szF (L.getD 0 0) = 0 := by unfold szF; rw [if_neg (by omega), if_pos (by omega)]
  unfold decS
  by_cases hne : L = []
  · subst hne; rfl
  · rw [headN hne, hs]; simp
theorem decS_rng {L : List Int} (hb : ∀ z ∈ L, 0 ≤ z ∧ z ≤ 255) : 0 ≤ (decS L).1 ∧ (decS L).1 ≤ 1114111 := by
  unfold decS
  split
  · rename_i h
    have := mayS_iff.1 (head_split hb h).2.2
    simp only; omega
  · simp
/-- The range's state: told so far, the place, and up to where a broken letter is told already. -/
structure RunSt (L T : List Int) (pos q : Nat) : Prop where
  tell : foldS [] L = T ++ foldS [] (L.drop (max pos q))
  ct : ∀ j, pos ≤ j → j < q → 128 ≤ L.getD j 0 ∧ L.getD j 0 ≤ 191
  ql : q ≤ L.length
  tl : T.length ≤ pos
theorem RunSt.skip {L T : List Int} {pos q : Nat} (h : RunSt L T pos q) (hlt : pos < q) : decS (L.drop pos) = (65533, 1) ∧ RunSt L T (pos + 1) q := by
  have h1 := h.ct pos (Nat.le_refl _) hlt
  refine ⟨decS_ct (by simpa [List.getD] using h1), ?_, fun j h2 h3 => h.ct j (by omega) h3, h.ql, by have := h.tl; omega⟩
  rw [h.tell, show max pos q = max (pos + 1) q by omega]
theorem RunSt.more {L T : List Int} {pos q : Nat} (h : RunSt L T pos q) (hle : q ≤ pos) (hp : pos < L.length) : RunSt L (T ++ [(decS (L.drop pos)).1]) (pos + (decS (L.drop pos)).2) (pos + begLen (L.drop pos)) := by
  have ht := h.tell
  rw [show max pos q = pos by omega] at ht
  have hne : L.drop pos ≠ [] := fun e => by have := congrArg List.length e; simp at this; omega
  have hl := begLen_le (L.drop pos)
  rw [List.length_drop] at hl
  have htl := h.tl
  unfold decS
  cases hh : headS (L.drop pos) with
  | none =>
    obtain ⟨e1, e2, e3, e4⟩ := fold_none hne hh
    refine ⟨?_, fun j h1 h2 => ?_, by omega, by simp; omega⟩
    · rw [ht, e1, List.drop_drop, List.append_assoc, show max (pos + 1) (pos + begLen (List.drop pos L)) = pos + max 1 (begLen (List.drop pos L)) by omega]
      rfl
    · have := e4 (j - pos) (by simp only at h1; omega) (by omega)
      simpa [List.getD, show pos + (j - pos) = j by simp only at h1; omega] using this
  | some x =>
    obtain ⟨r, n⟩ := x
    obtain ⟨e1, e2, e3⟩ := fold_head hh
    refine ⟨?_, fun j h1 h2 => by simp only at h1; omega, by omega, by simp; omega⟩
    rw [ht, e1, List.drop_drop, List.append_assoc]
    simp only
    rw [show max (pos + n) (pos + begLen (List.drop pos L)) = pos + n by omega]
    rfl

end Go.Proofs.YtappnfifhpmekaaDoor
