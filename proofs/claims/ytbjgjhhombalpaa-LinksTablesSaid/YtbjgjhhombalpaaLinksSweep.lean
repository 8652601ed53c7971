/-
  A table swept: the code's Sweep.
-/
import Derived.Test.YtbjgjhhombalpaaLinksText
import Derived.Test.YtbjgjhhombalpaaLinksCopy
import Derived.Test.YtbjgjhhombalpaaIntsApp
import Derived.WalkKit
namespace Go.Proofs.Ytbjgjhhombalpaa
open Go.RowKit

theorem lastN_spec (l : List ByteArray) : (0 < lastN l → sAt l (lastN l - 1) ≠ eT) ∧ ∀ j, lastN l ≤ j → sAt l j = eT := by
  induction l with
  | nil => exact ⟨fun h => absurd h (by decide), fun j _ => sAt_ge (Nat.zero_le _)⟩
  | cons a l ih =>
    unfold lastN
    by_cases h0 : lastN l = 0
    · rw [if_pos h0]
      have hr : ∀ j, sAt l j = eT := fun j => ih.2 j (by omega)
      by_cases ha : a = eT
      · rw [if_pos ha]
        refine ⟨fun h => absurd h (by decide), fun j _ => ?_⟩
        cases j with
        | zero => exact ha
        | succ j => exact hr j
      · rw [if_neg ha]
        refine ⟨fun _ => ha, fun j hj => ?_⟩
        cases j with
        | zero => omega
        | succ j => exact hr j
    · rw [if_neg h0]
      refine ⟨fun _ => ?_, fun j hj => ?_⟩
      · have := ih.1 (by omega)
        obtain ⟨k, hk⟩ : ∃ k, lastN l = k + 1 := ⟨lastN l - 1, by omega⟩
        rw [hk] at this ⊢
        exact this
      · cases j with
        | zero => omega
        | succ j => exact ih.2 j (by omega)
theorem sAt_set {l : List ByteArray} {k i : Nat} {s : ByteArray} (hi : i < l.length) : sAt (l.set k s) i = if k = i then s else sAt l i := by
  rw [sAt_lt (by rw [List.length_set]; exact hi), List.getElem_set, sAt_lt hi]
theorem lastN_set {l : List ByteArray} {k : Nat} {s : ByteArray} (hk : k < l.length) (hs : s ≠ eT) : lastN (l.set k s) = max (lastN l) (k + 1) := by
  obtain ⟨h1, h2⟩ := lastN_spec l
  have hl := lastN_le l
  refine lastN_is (by rw [List.length_set]; omega) (fun h => ?_) fun j hj => ?_
  · rw [sAt_set (by omega)]
    split
    · exact hs
    · rename_i hne
      rcases Nat.lt_or_ge k (lastN l) with h3 | h3
      · rw [show max (lastN l) (k + 1) - 1 = lastN l - 1 by omega]
        exact h1 (by omega)
      · omega
  · by_cases hjl : j < l.length
    · rw [sAt_set hjl, if_neg (by omega)]
      exact h2 j (by omega)
    · exact sAt_ge (by rw [List.length_set]; omega)
theorem lastN_snoc (l : List ByteArray) (s : ByteArray) : lastN (l ++ [s]) = if s = eT then lastN l else l.length + 1 := by
  obtain ⟨h1, h2⟩ := lastN_spec l
  have hl := lastN_le l
  split
  · rename_i hs
    refine lastN_is (by rw [List.length_append]; omega) (fun h => ?_) fun j hj => ?_
    · rw [sAt_append_lt (by omega)]; exact h1 h
    · by_cases hjl : j < l.length
      · rw [sAt_append_lt hjl]; exact h2 j hj
      · by_cases he : j = l.length
        · rw [he, sAt_append_last, hs]
        · exact sAt_ge (by simp; omega)
  · rename_i hs
    refine lastN_is (by simp) (fun h => ?_) fun j hj => sAt_ge (by simp; omega)
    rw [Nat.add_sub_cancel, sAt_append_last]
    exact hs
theorem sweepM_nil (t : List ByteArray) : sweepM t [] = List.replicate t.length eT :=
  texts_ext (by simp [sweepM_len]) fun k hk => by
    rw [sweepM_len] at hk
    rw [sweepM_at hk, if_neg (by simp), sAt_lt (by simpa using hk)]
    simp
theorem lastN_none (n : Nat) : lastN (List.replicate n eT) = 0 :=
  lastN_is (Nat.zero_le _) (fun h => absurd h (by decide)) fun j _ => by
    by_cases hj : j < n
    · rw [sAt_lt (by simpa using hj)]; simp
    · exact sAt_ge (by simp; omega)
theorem sweep_no {t : List ByteArray} {us : List Int} {z : Int} (h : textI t z = eT) : sweepM t (us ++ [z]) = sweepM t us :=
  texts_ext (by simp [sweepM_len]) fun k hk => by
    rw [sweepM_len] at hk
    rw [sweepM_at hk, sweepM_at hk]
    by_cases hz : (k : Int) + 1 = z
    · have e : sAt t k = eT := by
        rw [← h, ← hz]
        unfold textI
        rw [if_neg (by omega), show ((k : Int) + 1).toNat - 1 = k by omega]
      rw [e, if_pos (by simp [hz])]
      split <;> rfl
    · have e : ((k : Int) + 1 ∈ us ++ [z]) ↔ ((k : Int) + 1 ∈ us) := by simp [hz]
      by_cases hu : (k : Int) + 1 ∈ us
      · rw [if_pos (e.2 hu), if_pos hu]
      · rw [if_neg (fun x => hu (e.1 x)), if_neg hu]
theorem sweep_yes {t : List ByteArray} {us : List Int} {k : Nat} : sweepM t (us ++ [(k : Int) + 1]) = (sweepM t us).set k (sAt t k) :=
  texts_ext (by simp [sweepM_len]) fun i hi => by
    rw [sweepM_len] at hi
    rw [sAt_set (by rw [sweepM_len]; exact hi), sweepM_at hi, sweepM_at hi]
    by_cases hz : k = i
    · subst hz
      rw [if_pos rfl, if_pos (by simp)]
    · rw [if_neg hz]
      have e : ((i : Int) + 1 ∈ us ++ [(k : Int) + 1]) ↔ ((i : Int) + 1 ∈ us) := by
        simp only [List.mem_append, List.mem_singleton]
        constructor
        · rintro (x | x)
          · exact x
          · omega
        · exact Or.inl
      by_cases hu : (i : Int) + 1 ∈ us
      · rw [if_pos (e.2 hu), if_pos hu]
      · rw [if_neg (fun x => hu (e.1 x)), if_neg hu]
theorem text_some {t : List ByteArray} {z : Int} (h : textI t z ≠ eT) : ∃ k : Nat, z = (k : Int) + 1 ∧ k < t.length ∧ textI t z = sAt t k := by
  unfold textI at h ⊢
  by_cases h1 : z < 1 ∨ (t.length : Int) < z
  · rw [if_pos h1] at h; exact absurd rfl h
  · refine ⟨z.toNat - 1, by omega, by omega, if_neg h1⟩
theorem take_snocZ {us : List Int} {k : Nat} (h : k < us.length) : us.take (k + 1) = us.take k ++ [us.getD k 0] := by
  rw [List.take_add_one, List.getElem?_eq_getElem h]
  simp [List.getD, h]

/-- What the code's loop keeps. -/
structure Sw (w : World) (b : Nat) (n : Nat) (L : List ByteArray) (us : List Int) (t : Nat) (wr : World) : Prop where
  tx : Tx b wr (some ⟨b, 0, none⟩) n n (sweepM L us)
  last : t = lastN (sweepM L us)
  bel : Below w.heap.size w wr
set_option maxHeartbeats 1600000 in
theorem sweep_any {w : World} {A A' : Option Addr} {n c m c' : Nat} {L : List ByteArray} {us : List Int} (h : Vs stV w A n L) (h' : Ik .u16 w A' m us) (hu : ∀ z ∈ us, 0 ≤ z ∧ z ≤ 65535) (hn : n ≤ 60000) (hm : m ≤ 140737488351232) :
    Calls Try.prog 10 #[.slice A n c, .slice A' m c'] w (TxEnd (sweepS L us) w) := by
  have hmk := make_texts n (by omega)
  obtain ⟨b, hb⟩ : ∃ b, b = w.heap.size := ⟨_, rfl⟩
  have HB := Lib.hid hb
  have HM := Lib.hid (Tx.made w n (by omega))
  have H := Lib.hid (And.intro h (And.intro h' hu))
  clear h h' hu hb
  go_enter Try.func10, Try.ntmps10
  go_wp2
  have HS : Hid (Sw w b n L (us.take 0) 0 (w.alloc (.cells (rowV stV (List.replicate n eT)).toArray 9))) := by
    refine Lib.hid ⟨?_, ?_, (Below.refl _ _).alloc (Nat.le_refl _) _⟩
    · have e : sweepM L [] = List.replicate n eT := by rw [sweepM_nil, H.out.1.len]
      show Tx b _ _ n n (sweepM L [])
      rw [e, HB.out]
      exact HM.out
    · show 0 = lastN (sweepM L [])
      rw [sweepM_nil, lastN_none]
  rw [← HB.out] at ⊢
  generalize w.alloc (.cells (rowV stV (List.replicate n eT)).toArray 9) = w1 at HS ⊢
  go_loopw [6, 15] (fun e i wr => ∃ j t : Nat, j ≤ m ∧ i = .int .i64 j ∧ e = .int .i64 t ∧ t ≤ n ∧ Sw w b n L (us.take j) t wr) (fun _ i _ => m - (intOf i).toNat)
  case atStart => exact ⟨0, 0, Nat.zero_le _, rfl, rfl, Nat.zero_le _, HS.out⟩
  case round =>
    obtain ⟨j, t, hj, rfl, rfl, htn, hS⟩ := hrel
    have HW := Lib.hid hS
    clear hS HS
    by_cases hlt : j < m
    · have hv := H.out.1.below HW.out.bel
      have hi := H.out.2.1.below HW.out.bel
      obtain ⟨ad, rfl⟩ : ∃ ad, A' = some ad := by obtain ⟨ad, e, _⟩ := hi.at_ (by omega); exact ⟨ad, e⟩
      have hc := hi.cell hlt
      have hz := H.out.2.2 (us.getD j 0) (by rw [getD_lt (by rw [H.out.2.1.len]; exact hlt)]; exact List.getElem_mem _)
      have HT := Lib.hid (take_snocZ (us := us) (k := j) (by rw [H.out.2.1.len]; exact hlt))
      have HV := Lib.hid hv
      clear hv hi
      generalize us.getD j 0 = z at hc hz HT
      have hz0 := hz.1
      have hz1 := hz.2
      clear hz
      by_cases hx : textI L z = eT
      · have HX := Lib.hid hx
        have HN : Hid (Sw w b n L (us.take (j + 1)) t wr) := Lib.hid (by
          rw [HT.out]
          exact ⟨by rw [sweep_no hx]; exact HW.out.tx, by rw [sweep_no hx]; exact HW.out.last, HW.out.bel⟩)
        clear hx
        have he := emp_yes (rfl : eT = eT)
        go_wp2_with fail
        refine (textT_any HV.out z hz0 hz1 (by omega)).mono ?_
        rintro e w' ⟨rfl, rfl⟩
        rw [HX.out]
        go_wp2_with fail
        go_roundw
        case rel => exact ⟨j + 1, t, by omega, by go_num, rfl, htn, HN.out⟩
        case measure => simp [intOf]; omega
      · obtain ⟨k, rfl, hk, e⟩ := text_some hx
        have HX := Lib.hid e
        have he := emp_no hx
        rw [e] at he
        have hkn : k < n := by rw [← H.out.1.len]; exact hk
        obtain ⟨q1, q2⟩ := HW.out.tx.stored k (sAt L k)
        have hfr : wr.frozen? ⟨b, k, none⟩ = false := by
          obtain ⟨g, eg, _, _, hf⟩ := HW.out.tx.blk (by omega)
          injection eg with eg
          injection eg with eg
          rw [eg]
          exact hf k
        have hck : wr.cell? ⟨b, k, none⟩ = some (.string (sAt (sweepM L (us.take j)) k)) := by
          have := HW.out.tx.vs.str hkn
          rwa [addHead] at this
        have HN : Hid (Sw w b n L (us.take (j + 1)) (max t (k + 1)) (wr.setCell ⟨b, k, none⟩ (.string (sAt L k)))) := Lib.hid (by
          rw [HT.out]
          refine ⟨by rw [sweep_yes]; exact q1, ?_, HW.out.bel.setCell (by show w.heap.size ≤ b; rw [HB.out]; exact Nat.le_refl _) _⟩
          rw [sweep_yes, lastN_set (by rw [sweepM_len]; exact hk) (by rw [← e]; exact hx), ← HW.out.last])
        clear hx e q1 q2 hk HW
        generalize sAt (sweepM L (us.take j)) k = y at hck
        generalize sAt L k = x at HX he HN
        have hmax : max (t : Int) ((k : Int) + 1) = ((max t (k + 1) : Nat) : Int) := by omega
        have hmn : max t (k + 1) ≤ n := by omega
        obtain ⟨t', ht'⟩ : ∃ t', max t (k + 1) = t' := ⟨_, rfl⟩
        rw [ht'] at hmax hmn HN
        clear ht'
        go_wp2_with fail
        refine (textT_any HV.out _ hz0 hz1 (by omega)).mono ?_
        rintro e w' ⟨rfl, rfl⟩
        rw [HX.out]
        go_wp2_with fail
        go_roundw
        case rel => exact ⟨j + 1, t', by omega, by go_num, rfl, hmn, HN.out⟩
        case measure => simp [intOf]; omega
    · have e : us.take j = us := List.take_of_length_le (by rw [H.out.2.1.len]; omega)
      have X : TxEnd (sweepS L us) w (.returned (.slice (some ⟨b, 0, none⟩) t n)) wr := by
        have h1 := HW.out.tx.front (k := t) htn
        have h2 := HW.out.last
        rw [e] at h1 h2
        rw [h2] at h1 ⊢
        rw [HB.out] at h1 ⊢
        exact ⟨_, rfl, h1.post HW.out.bel⟩
      clear e
      go_wp2_with fail
      go_ret
      exact X
end Go.Proofs.Ytbjgjhhombalpaa
