/-
  Part 6 of what the laws of emul want: CellPure.
-/
import Derived.Test.YtlcipgdnpilkfaaGreatDoorPa03
namespace Go.Proofs.YtlcipgdnpilkfaaGreatDoor
theorem iteC {α : Type} {p q : Prop} [Decidable p] [Decidable q] (h : p ↔ q) {x y : α} : (if p then x else y) = if q then x else y := by
 by_cases e : p
 · rw [if_pos e, if_pos (h.1 e)]
 · rw [if_neg e, if_neg (fun e2 => e (h.2 e2))]
section
variable {L : List Ce}
theorem RowOk.pair (h : RowOk L) {j : Nat} (hj : j + 1 < L.length) : (cAt L j).wd = 1 ↔ (cAt L (j + 1)).wd = 2 := by
 constructor
 · intro e
   have := ((h.at_ j (by omega)).2.1 e).2
   rw [this]; rfl
 · intro e
   have := ((h.at_ (j + 1) hj).2.2 e).2
   simpa using this
theorem RowOk.next (h : RowOk L) {j : Nat} (hj : j < L.length) (e : (cAt L j).wd = 1) : j + 1 < L.length ∧ cAt L (j + 1) = rightS (cAt L j) := (h.at_ j hj).2.1 e
theorem RowOk.prev (h : RowOk L) {j : Nat} (hj : j < L.length) (e : (cAt L j).wd = 2) : 0 < j := ((h.at_ j hj).2.2 e).1
theorem cut1 (h : RowOk L) (a : Nat) {j : Nat} (hj : j < L.length) :
  cAt (cutS L a) j = if ((cAt L j).wd = 1 ∧ j + 1 = a) ∨ ((cAt L j).wd = 2 ∧ j = a) then blankS (cAt L j).p else cAt L j := by
 rw [cAt_cutS]
 refine iteC ?_
 constructor
 · rintro ⟨h1, h2, h3⟩
   have h0 := h.prev h1 h2
   rcases h3 with h3 | h3
   · subst h3
     exact .inr ⟨h2, rfl⟩
   · have e : j + 1 = a := by omega
     refine .inl ⟨?_, e⟩
     subst e
     exact (h.pair h1).2 h2
 · rintro (⟨h1, h2⟩ | ⟨h1, h2⟩)
   · subst h2
     have := (h.next hj h1).1
     exact ⟨this, (h.pair this).1 h1, .inr (by omega)⟩
   · subst h2
     exact ⟨hj, h1, .inl rfl⟩
theorem blank_wd (p : Pn) : (blankS p).wd = 0 := rfl
theorem cut2 (h : RowOk L) {a b : Nat} (_ : a ≤ b) {j : Nat} (hj : j < L.length) :
  cAt (cutS (cutS L a) b) j = if ((cAt L j).wd = 1 ∧ (j + 1 = a ∨ j + 1 = b)) ∨ ((cAt L j).wd = 2 ∧ (j = a ∨ j = b)) then blankS (cAt L j).p else cAt L j := by
 rw [cAt_cutS, cutS_length]
 have hb2 : ∀ hb : b < L.length, ((cAt (cutS L a) b).wd = 2 ↔ ((cAt L b).wd = 2 ∧ b ≠ a)) := by
  intro hb
  rw [cut1 h a hb]
  split
  · rename_i hc
    rw [blank_wd]
    constructor
    · intro e; cases e
    · rintro ⟨e1, e2⟩
      rcases hc with hc | hc
      · have := hc.1; omega
      · exact absurd hc.2 e2
  · rename_i hc
    constructor
    · intro e
      exact ⟨e, fun e2 => hc (.inr ⟨e, e2⟩)⟩
    · exact fun e => e.1
 by_cases hc : b < L.length ∧ (cAt (cutS L a) b).wd = 2 ∧ (j = b ∨ j = b - 1)
 · rw [if_pos hc]
   obtain ⟨h1, h2, h3⟩ := hc
   obtain ⟨h4, h5⟩ := (hb2 h1).1 h2
   have h0 := h.prev h1 h4
   rcases h3 with h3 | h3
   · subst h3
     rw [if_pos (.inr ⟨h4, .inr rfl⟩), cut1 h a hj]
     split <;> rfl
   · have e : j + 1 = b := by omega
     have h6 : (cAt L j).wd = 1 := by subst e; exact (h.pair h1).2 h4
     rw [if_pos (.inl ⟨h6, .inr e⟩), cut1 h a hj]
     split <;> rfl
 · rw [if_neg hc, cut1 h a hj]
   refine iteC ?_
   constructor
   · rintro (⟨h1, h2⟩ | ⟨h1, h2⟩)
     · exact .inl ⟨h1, .inl h2⟩
     · exact .inr ⟨h1, .inl h2⟩
   · rintro (⟨h1, h2 | h2⟩ | ⟨h1, h2 | h2⟩)
     · exact .inl ⟨h1, h2⟩
     · by_cases e : b = a
       · exact .inl ⟨h1, by omega⟩
       · exfalso
         have h3 := (h.next hj h1).1
         subst h2
         exact hc ⟨h3, (hb2 h3).2 ⟨(h.pair h3).1 h1, e⟩, .inr (by omega)⟩
     · exact .inr ⟨h1, h2⟩
     · by_cases e : b = a
       · exact .inr ⟨h1, by omega⟩
       · exfalso
         subst h2
         exact hc ⟨hj, (hb2 hj).2 ⟨h1, e⟩, .inl rfl⟩
variable {P : List Pc}
theorem mend_old (h : RowOk L) {i j : Nat} (hj : j < L.length) (hi : pAt P i = (cAt L j, (j : Int))) (cr cl : Prop) [Decidable cr] [Decidable cl]
  (hr0 : ¬ cr → j + 1 < L.length → i + 1 ≠ P.length ∧ pAt P (i + 1) = (cAt L (j + 1), (j : Int) + 1)) (hr1 : cr → i + 1 = P.length ∨ (pAt P (i + 1)).2 ≠ (j : Int) + 1)
  (hl0 : ¬ cl → 0 < j → i ≠ 0 ∧ pAt P (i - 1) = (cAt L (j - 1), (j : Int) - 1)) (hl1 : cl → i = 0 ∨ (pAt P (i - 1)).2 ≠ (j : Int) - 1) :
  mendC P i = if ((cAt L j).wd = 1 ∧ cr) ∨ ((cAt L j).wd = 2 ∧ cl) then blankS (cAt L j).p else cAt L j := by
 unfold mendC torn
 rw [hi]
 simp only [decide_eq_true_eq]
 refine iteC ?_
 constructor
 · rintro (⟨h1, h2⟩ | ⟨h1, h2⟩)
   · refine .inl ⟨h1, ?_⟩
     by_cases hc : cr
     · exact hc
     · exfalso
       have h3 := (h.next hj h1).1
       obtain ⟨h4, h5⟩ := hr0 hc h3
       rw [h5] at h2
       rcases h2 with h2 | h2 | h2
       · exact h4 h2
       · exact h2 ((h.pair h3).1 h1)
       · exact h2 rfl
   · refine .inr ⟨h1, ?_⟩
     by_cases hc : cl
     · exact hc
     · exfalso
       have h3 := h.prev hj h1
       obtain ⟨h4, h5⟩ := hl0 hc h3
       rw [h5] at h2
       rcases h2 with h2 | h2 | h2
       · exact h4 h2
       · exact h2 ((h.pair (j := j - 1) (by omega)).2 (by rw [Nat.sub_add_cancel h3]; exact h1))
       · exact h2 rfl
 · rintro (⟨h1, h2⟩ | ⟨h1, h2⟩)
   · rcases hr1 h2 with h3 | h3
     · exact .inl ⟨h1, .inl h3⟩
     · exact .inl ⟨h1, .inr (.inr h3)⟩
   · rcases hl1 h2 with h3 | h3
     · exact .inr ⟨h1, .inl h3⟩
     · exact .inr ⟨h1, .inr (.inr h3)⟩
theorem mend_new {i : Nat} (h0 : (pAt P i).1.wd = 0) : mendC P i = (pAt P i).1 := by
 unfold mendC torn
 rw [h0]
 simp
theorem mend_same (h : RowOk L) : mendS (piecesS L) = L := by
 refine row_ext (by rw [mendS_length, piecesS_length]) fun i hi => ?_
 rw [mendS_length, piecesS_length] at hi
 rw [cAt_mendS (by rw [piecesS_length]; exact hi), mend_old h hi (pAt_piecesS hi) False False (fun _ h1 => ⟨by rw [piecesS_length]; omega, by rw [pAt_piecesS h1]; simp⟩) (fun e => e.elim) (fun _ h1 => ⟨by omega, by rw [pAt_piecesS (by omega)]; simp; omega⟩) (fun e => e.elim)]
 simp
theorem lett_one {r : Int} {p : Pn} (h : widthS r = 1) : lettS r p = [⟨r, 0, p⟩] := by unfold lettS; rw [if_pos h]
theorem lett_two {r : Int} {p : Pn} (h : widthS r = 2) : lettS r p = [⟨r, 1, p⟩, ⟨0, 2, p⟩] := by unfold lettS; rw [if_neg (by omega), if_pos h]
theorem lett_none {r : Int} {p : Pn} (h1 : widthS r ≠ 1) (h2 : widthS r ≠ 2) : lettS r p = [] := by unfold lettS; rw [if_neg h1, if_neg h2]
theorem put_eq (h : RowOk L) (x r : Int) (p : Pn) : putS L x r p = mendS (putR L x r p) := by
 by_cases hw1 : widthS r = 1
 · unfold putS putR
   simp only [lett_one hw1, List.length_singleton]
   by_cases hx : 0 ≤ x ∧ x < (L.length : Int)
   · obtain ⟨a, rfl⟩ : ∃ a : Nat, x = (a : Int) := ⟨x.toNat, by omega⟩
     rw [if_pos (by omega), if_pos (by omega)]
     simp only [Int.toNat_natCast]
     have hal : a < L.length := by omega
     refine row_ext (by rw [overS_length (by simp [cutS_length]; omega), mendS_length, List.length_set, piecesS_length, cutS_length, cutS_length]) fun i hi => ?_
     rw [overS_length (by simp [cutS_length]; omega), cutS_length, cutS_length] at hi
     have hP : ∀ k, k < L.length → pAt ((piecesS L).set a (⟨r, 0, p⟩, -10)) k = if k = a then (⟨r, 0, p⟩, -10) else (cAt L k, (k : Int)) := fun k hk => by
      rw [pAt_set, piecesS_length]
      by_cases e : k = a
      · rw [if_pos ⟨e, hk⟩, if_pos e]
      · rw [if_neg (fun e2 => e e2.1), if_neg e, pAt_piecesS hk]
     have hlen : ((piecesS L).set a ((⟨r, 0, p⟩ : Ce), (-10 : Int))).length = L.length := by rw [List.length_set, piecesS_length]
     rw [cAt_overS (by simp [cutS_length]; omega), cAt_mendS (by rw [hlen]; exact hi)]
     by_cases e : i = a
     · subst e
       rw [if_pos (by simp), Nat.sub_self, mend_new (by rw [hP i hi, if_pos rfl]), hP i hi, if_pos rfl]
       rfl
     · rw [if_neg (by simp; omega), cut2 h (by omega) hi, mend_old h hi (by rw [hP i hi, if_neg e]) (i + 1 = a) (i = a + 1)
        (fun h1 h2 => ⟨by rw [hlen]; omega, by rw [hP _ h2, if_neg h1]; simp⟩) (fun h1 => .inr (by rw [hP _ (by omega), if_pos h1]; simp; omega))
        (fun h1 h2 => ⟨by omega, by rw [hP _ (by omega), if_neg (by omega)]; simp; omega⟩) (fun h1 => .inr (by rw [hP _ (by omega), if_pos (by omega)]; simp; omega))]
       refine iteC ?_
       omega
   · rw [if_neg (by omega), if_neg (by omega), if_neg (by omega), mend_same h]
 · by_cases hw2 : widthS r = 2
   · unfold putS putR
     simp only [lett_two hw2, List.length_cons, List.length_nil]
     by_cases hx : 0 ≤ x ∧ x < (L.length : Int) - 1
     · obtain ⟨a, rfl⟩ : ∃ a : Nat, x = (a : Int) := ⟨x.toNat, by omega⟩
       rw [if_pos (by omega), if_neg (by omega), if_pos (by omega)]
       simp only [Int.toNat_natCast]
       have hal : a + 1 < L.length := by omega
       have hk2 : (0 + 1 + 1 : Nat) = 2 := rfl
       refine row_ext (by rw [overS_length (by simp [cutS_length]; omega), mendS_length, List.length_set, List.length_set, piecesS_length, cutS_length, cutS_length]) fun i hi => ?_
       rw [overS_length (by simp [cutS_length]; omega), cutS_length, cutS_length] at hi
       have hP : ∀ k, k < L.length → pAt (((piecesS L).set a (⟨r, 1, p⟩, -10)).set (a + 1) (⟨0, 2, p⟩, -9)) k = if k = a + 1 then (⟨0, 2, p⟩, -9) else if k = a then (⟨r, 1, p⟩, -10) else (cAt L k, (k : Int)) := fun k hk => by
        rw [pAt_set, pAt_set, List.length_set, piecesS_length]
        by_cases e : k = a + 1
        · rw [if_pos ⟨e, hk⟩, if_pos e]
        · rw [if_neg (fun e2 => e e2.1), if_neg e]
          by_cases e2 : k = a
          · rw [if_pos ⟨e2, hk⟩, if_pos e2]
          · rw [if_neg (fun e3 => e2 e3.1), if_neg e2, pAt_piecesS hk]
       have hlen : (((piecesS L).set a ((⟨r, 1, p⟩ : Ce), (-10 : Int))).set (a + 1) (⟨0, 2, p⟩, -9)).length = L.length := by rw [List.length_set, List.length_set, piecesS_length]
       rw [cAt_overS (by simp [cutS_length]; omega), cAt_mendS (by rw [hlen]; exact hi)]
       by_cases e : i = a
       · subst e
         rw [if_pos (by simp), Nat.sub_self]
         have hp1 := hP i hi
         have hp2 := hP (i + 1) hal
         rw [if_neg (by omega), if_pos rfl] at hp1
         rw [if_pos rfl] at hp2
         have ht : torn (((piecesS L).set i (⟨r, 1, p⟩, -10)).set (i + 1) (⟨0, 2, p⟩, -9)) i = false := by
          unfold torn
          rw [hlen, hp1, hp2]
          simp
          omega
         unfold mendC
         rw [ht, hp1]
         rfl
       · by_cases e2 : i = a + 1
         · subst e2
           rw [if_pos (by simp), Nat.add_sub_cancel_left]
           have hp1 := hP (a + 1) hi
           have hp2 := hP a (by omega)
           rw [if_pos rfl] at hp1
           rw [if_neg (by omega), if_pos rfl] at hp2
           have ht : torn (((piecesS L).set a (⟨r, 1, p⟩, -10)).set (a + 1) (⟨0, 2, p⟩, -9)) (a + 1) = false := by
            unfold torn
            rw [hlen, hp1, Nat.add_sub_cancel, hp2]
            simp
           unfold mendC
           rw [ht, hp1]
           rfl
         · rw [if_neg (by simp; omega), cut2 h (by omega) hi, mend_old h hi (by rw [hP i hi, if_neg e2, if_neg e]) (i + 1 = a) (i = a + 2)
            (fun h1 h2 => ⟨by rw [hlen]; omega, by rw [hP _ h2, if_neg (by omega), if_neg h1]; simp⟩) (fun h1 => .inr (by rw [hP _ (by omega), if_neg (by omega), if_pos h1]; simp; omega))
            (fun h1 h2 => ⟨by omega, by rw [hP _ (by omega), if_neg (by omega), if_neg (by omega)]; simp; omega⟩) (fun h1 => .inr (by rw [hP _ (by omega), if_pos (by omega)]; simp; omega))]
           refine iteC ?_
           omega
     · rw [if_neg (by omega), if_neg (by omega), if_neg (by omega), mend_same h]
   · unfold putS putR
     simp only [lett_none hw1 hw2, List.length_nil]
     rw [if_neg (by omega), if_neg (fun e => hw1 e.2.2), if_neg (fun e => hw2 e.2.2), mend_same h]
theorem erase_eq (h : RowOk L) (a b : Int) (p : Pn) : eraseS L a b p = mendS (eraseR L a b p) := by
 unfold eraseS
 simp only []
 obtain ⟨f, hf⟩ : ∃ f, f = (max a 0).toNat := ⟨_, rfl⟩
 obtain ⟨t, ht⟩ : ∃ t, t = (min b (L.length : Int)).toNat := ⟨_, rfl⟩
 rw [← hf, ← ht]
 have htl : t ≤ L.length := by omega
 have hlen := eraseR_length L a b p
 by_cases hft : f < t
 · have hP : ∀ k, k < L.length → pAt (eraseR L a b p) k = if f ≤ k ∧ k < t then (blankS p, -10) else (cAt L k, (k : Int)) := fun k hk => by
    rw [pAt_eraseR hk]
    exact iteC (by omega)
   rw [if_pos hft]
   have hfit : f + (List.replicate (t - f) (blankS p)).length ≤ (cutS (cutS L f) t).length := by rw [List.length_replicate, cutS_length, cutS_length]; omega
   refine row_ext (by rw [overS_length hfit, mendS_length, hlen, cutS_length, cutS_length]) fun i hi => ?_
   rw [overS_length hfit, cutS_length, cutS_length] at hi
   rw [cAt_overS hfit, cAt_mendS (by rw [hlen]; exact hi), List.length_replicate]
   by_cases e : f ≤ i ∧ i < t
   · rw [if_pos (by omega), cAt_replicate, if_pos (by omega), mend_new (by rw [hP i hi, if_pos e]; rfl), hP i hi, if_pos e]
   · rw [if_neg (by omega), cut2 h (by omega) hi, mend_old h hi (by rw [hP i hi, if_neg e]) (i + 1 = f) (i = t)
      (fun h1 h2 => ⟨by rw [hlen]; omega, by rw [hP _ h2, if_neg (by omega)]; simp⟩) (fun h1 => .inr (by rw [hP _ (by omega), if_pos (by omega)]; simp; omega))
      (fun h1 h2 => ⟨by omega, by rw [hP _ (by omega), if_neg (by omega)]; simp; omega⟩) (fun h1 => .inr (by rw [hP _ (by omega), if_pos (by omega)]; simp; omega))]
     refine iteC ?_
     omega
 · rw [if_neg hft]
   have e : eraseR L a b p = piecesS L := by
    unfold eraseR piecesS
    refine List.map_congr_left fun i hi => ?_
    have := List.mem_range.1 hi
    rw [if_neg (by omega)]
   rw [e, mend_same h]
theorem insert_eq (h : RowOk L) {x n : Int} (p : Pn) (h0 : 0 ≤ x) (h1 : x < L.length) (h2 : 1 ≤ n) : insertS L x n p = mendS (insertR L x.toNat (min n (L.length - x)).toNat p) := by
 unfold insertS
 simp only []
 rw [if_pos ⟨h0, h1, h2⟩]
 obtain ⟨a, rfl⟩ : ∃ a : Nat, x = (a : Int) := ⟨x.toNat, by omega⟩
 obtain ⟨k, hk⟩ : ∃ k, k = (min n ((L.length : Int) - (a : Int))).toNat := ⟨_, rfl⟩
 rw [← hk, Int.toNat_natCast]
 have hk1 : 1 ≤ k := by omega
 have hk2 : a + k ≤ L.length := by omega
 obtain ⟨M, hM⟩ : ∃ M, M = cutS (cutS L a) (L.length - k) := ⟨_, rfl⟩
 rw [← hM]
 have hMl : M.length = L.length := by rw [hM, cutS_length, cutS_length]
 obtain ⟨T, hT⟩ : ∃ T, T = (M.drop a).take (L.length - (a + k)) := ⟨_, rfl⟩
 rw [← hT]
 have hTl : T.length = L.length - (a + k) := by rw [hT, List.length_take, List.length_drop, hMl]; omega
 have hf1 : a + k + T.length ≤ M.length := by omega
 have hf2 : a + (List.replicate k (blankS p)).length ≤ (overS M (a + k) T).length := by rw [overS_length hf1, List.length_replicate]; omega
 have hlen : (insertR L a k p).length = L.length := by simp [insertR, piecesS_length]; omega
 have hP : ∀ i, i < L.length → pAt (insertR L a k p) i = if i < a then (cAt L i, (i : Int)) else if i < a + k then (blankS p, -10) else (cAt L (i - k), ((i - k : Nat) : Int)) := fun i hi => by
  unfold insertR
  rw [pAt_append, pAt_append, List.length_take, piecesS_length, Nat.min_eq_left (by omega), List.length_replicate, pAt_take, pAt_take, pAt_drop, pAt_replicate]
  by_cases e1 : i < a
  · simp only [e1, if_true]
    rw [pAt_piecesS hi]
  · rw [if_neg e1, if_neg e1]
    by_cases e2 : i < a + k
    · rw [if_pos (by omega), if_pos (by omega), if_pos e2]
    · rw [if_neg (by omega), if_pos (by omega), if_neg e2, show a + (i - a - k) = i - k by omega, pAt_piecesS (by omega)]
 refine row_ext (by rw [overS_length hf2, overS_length hf1, mendS_length, hlen, hMl]) fun i hi => ?_
 rw [overS_length hf2, overS_length hf1, hMl] at hi
 rw [cAt_overS hf2, cAt_mendS (by rw [hlen]; exact hi), List.length_replicate]
 by_cases e1 : i < a
 · rw [if_neg (by omega), cAt_overS hf1, if_neg (by omega), hM, cut2 h (by omega) hi, mend_old h hi (by rw [hP i hi, if_pos e1]) (i + 1 = a) False
    (fun h1 h2 => ⟨by rw [hlen]; omega, by rw [hP _ h2, if_pos (by omega)]; simp⟩) (fun h1 => .inr (by rw [hP _ (by omega), if_neg (by omega), if_pos (by omega)]; simp; omega))
    (fun h1 h2 => ⟨by omega, by rw [hP _ (by omega), if_pos (by omega)]; simp; omega⟩) (fun e => e.elim)]
   refine iteC ?_
   simp only [and_false, or_false]
   omega
 · by_cases e2 : i < a + k
   · rw [if_pos (by omega), cAt_replicate, if_pos (by omega), mend_new (by rw [hP i hi, if_neg e1, if_pos e2]; rfl), hP i hi, if_neg e1, if_pos e2]
   · have hj : i - k < L.length := by omega
     rw [if_neg (by omega), cAt_overS hf1, if_pos (by omega), hT, cAt_take, if_pos (by omega), cAt_drop, show a + (i - (a + k)) = i - k by omega, hM, cut2 h (by omega) hj,
      mend_old h hj (by rw [hP i hi, if_neg e1, if_neg e2]) (i + 1 = L.length) (i = a + k)
      (fun h1 h2 => ⟨by rw [hlen]; exact h1, by rw [hP _ (by omega), if_neg (by omega), if_neg (by omega), show i + 1 - k = i - k + 1 by omega]; simp⟩) (fun h1 => .inl (by rw [hlen]; exact h1))
      (fun h1 h2 => ⟨by omega, by rw [hP _ (by omega), if_neg (by omega), if_neg (by omega), show i - 1 - k = i - k - 1 by omega]; simp; omega⟩) (fun h1 => .inr (by rw [hP _ (by omega)]; split <;> (try split) <;> (simp; omega)))]
     refine iteC ?_
     have := h.prev hj
     omega
theorem delete_eq (h : RowOk L) {x n : Int} (p : Pn) (h0 : 0 ≤ x) (h1 : x < L.length) (h2 : 1 ≤ n) : deleteS L x n p = mendS (deleteR L x.toNat (min n (L.length - x)).toNat p) := by
 unfold deleteS
 simp only []
 rw [if_pos ⟨h0, h1, h2⟩]
 obtain ⟨a, rfl⟩ : ∃ a : Nat, x = (a : Int) := ⟨x.toNat, by omega⟩
 obtain ⟨k, hk⟩ : ∃ k, k = (min n ((L.length : Int) - (a : Int))).toNat := ⟨_, rfl⟩
 rw [← hk, Int.toNat_natCast]
 have hk1 : 1 ≤ k := by omega
 have hk2 : a + k ≤ L.length := by omega
 obtain ⟨M, hM⟩ : ∃ M, M = cutS (cutS L a) (a + k) := ⟨_, rfl⟩
 rw [← hM]
 have hMl : M.length = L.length := by rw [hM, cutS_length, cutS_length]
 have hf1 : a + (M.drop (a + k)).length ≤ M.length := by rw [List.length_drop]; omega
 have hf2 : L.length - k + (List.replicate k (blankS p)).length ≤ (overS M a (M.drop (a + k))).length := by rw [overS_length hf1, List.length_replicate]; omega
 have hlen : (deleteR L a k p).length = L.length := by simp [deleteR, piecesS_length]; omega
 have hP : ∀ i, i < L.length → pAt (deleteR L a k p) i = if i < a then (cAt L i, (i : Int)) else if i < L.length - k then (cAt L (i + k), ((i + k : Nat) : Int)) else (blankS p, -10) := fun i hi => by
  unfold deleteR
  rw [pAt_append, pAt_append, List.length_take, List.length_drop, piecesS_length, Nat.min_eq_left (by omega), pAt_take, pAt_drop, pAt_replicate]
  by_cases e1 : i < a
  · simp only [e1, if_true]
    rw [pAt_piecesS hi]
  · rw [if_neg e1, if_neg e1]
    by_cases e2 : i < L.length - k
    · rw [if_pos (by omega), if_pos e2, show a + k + (i - a) = i + k by omega, pAt_piecesS (by omega)]
    · rw [if_neg (by omega), if_pos (by omega), if_neg e2]
 refine row_ext (by rw [overS_length hf2, overS_length hf1, mendS_length, hlen, hMl]) fun i hi => ?_
 rw [overS_length hf2, overS_length hf1, hMl] at hi
 rw [cAt_overS hf2, cAt_mendS (by rw [hlen]; exact hi), List.length_replicate]
 by_cases e1 : i < a
 · rw [if_neg (by omega), cAt_overS hf1, if_neg (by omega), hM, cut2 h (by omega) hi, mend_old h hi (by rw [hP i hi, if_pos e1]) (i + 1 = a) False
    (fun h1 h2 => ⟨by rw [hlen]; omega, by rw [hP _ h2, if_pos (by omega)]; simp⟩) (fun h1 => .inr (by rw [hP _ (by omega), if_neg (by omega)]; split <;> (simp; omega)))
    (fun h1 h2 => ⟨by omega, by rw [hP _ (by omega), if_pos (by omega)]; simp; omega⟩) (fun e => e.elim)]
   refine iteC ?_
   simp only [and_false, or_false]
   omega
 · by_cases e2 : i < L.length - k
   · have hj : i + k < L.length := by omega
     rw [if_neg (by omega), cAt_overS hf1, if_pos (by rw [List.length_drop, hMl]; omega), cAt_drop, show a + k + (i - a) = i + k by omega, hM, cut2 h (by omega) hj,
      mend_old h hj (by rw [hP i hi, if_neg e1, if_pos e2]) False (i = a)
      (fun h1 h2 => ⟨by rw [hlen]; omega, by rw [hP _ (by omega), if_neg (by omega), if_pos (by omega), show i + 1 + k = i + k + 1 by omega]; simp⟩) (fun e => e.elim)
      (fun h1 h2 => ⟨by omega, by rw [hP _ (by omega), if_neg (by omega), if_pos (by omega), show i - 1 + k = i + k - 1 by omega]; simp; omega⟩)
      (fun h1 => by
       by_cases e3 : i = 0
       · exact .inl e3
       · exact .inr (by rw [hP _ (by omega), if_pos (by omega)]; simp; omega))]
     refine iteC ?_
     simp only [and_false, false_or]
     omega
   · rw [if_pos (by omega), cAt_replicate, if_pos (by omega), mend_new (by rw [hP i hi, if_neg e1, if_neg e2]; rfl), hP i hi, if_neg e1, if_neg e2]
end
end Go.Proofs.YtlcipgdnpilkfaaGreatDoor
