/-
  Reading a list step by step, in plain terms; what is read is laid as it stood, what is laid is read as it was.
-/
import Derived.Test.YtchpobikbcelfaaTlvSpec
namespace Go.Proofs.Ytchpobikbcelfaa

section
variable {depth c ahead : Int} {zs : List Int}

theorem dec_e1 (hu : ∀ z ∈ zs, 0 ≤ z ∧ z ≤ 255) (h0 : zs ≠ []) (h1 : fvE 0 zs ≠ 0) : decL depth c ahead zs = .bad c (fvE 0 zs) := by
  rw [decL_cons hu h0, if_pos h1]
theorem dec_e2 (hu : ∀ z ∈ zs, 0 ≤ z ∧ z ≤ 255) (h0 : zs ≠ []) (h1 : fvE 0 zs = 0) (h2 : 1000 < fvV zs / 4 ∨ fvV zs / 4 ≤ ahead) : decL depth c ahead zs = .bad c 3 := by
  rw [decL_cons hu h0, if_neg (by simpa using h1), if_pos h2]
theorem dec_e3 (hu : ∀ z ∈ zs, 0 ≤ z ∧ z ≤ 255) (h0 : zs ≠ []) (h1 : fvE 0 zs = 0) (h2 : ¬ (1000 < fvV zs / 4 ∨ fvV zs / 4 ≤ ahead)) (h3 : c = 64) : decL depth c ahead zs = .bad c 4 := by
  rw [decL_cons hu h0, if_neg (by simpa using h1), if_neg h2, if_pos h3]
theorem dec_e4 (hu : ∀ z ∈ zs, 0 ≤ z ∧ z ≤ 255) (h0 : zs ≠ []) (h1 : fvE 0 zs = 0) (h2 : ¬ (1000 < fvV zs / 4 ∨ fvV zs / 4 ≤ ahead)) (h3 : ¬ c = 64) (h4 : fvV zs % 2 = 1 ∧ 4 ≤ depth) : decL depth c ahead zs = .bad (c + 1) 5 := by
  rw [decL_cons hu h0, if_neg (by simpa using h1), if_neg h2, if_neg h3, if_pos h4]
theorem dec_e5 (hu : ∀ z ∈ zs, 0 ≤ z ∧ z ≤ 255) (h0 : zs ≠ []) (h1 : fvE 0 zs = 0) (h2 : ¬ (1000 < fvV zs / 4 ∨ fvV zs / 4 ≤ ahead)) (h3 : ¬ c = 64) (h4 : ¬ (fvV zs % 2 = 1 ∧ 4 ≤ depth))
    (h5 : (text1 (zs.drop (fvK zs)) 0 4096).2.2 ≠ 0) : decL depth c ahead zs = .bad (c + 1) (text1 (zs.drop (fvK zs)) 0 4096).2.2 := by
  rw [decL_cons hu h0, if_neg (by simpa using h1), if_neg h2, if_neg h3, if_neg h4, if_pos h5]
theorem dec_in (hu : ∀ z ∈ zs, 0 ≤ z ∧ z ≤ 255) (h0 : zs ≠ []) (h1 : fvE 0 zs = 0) (h2 : ¬ (1000 < fvV zs / 4 ∨ fvV zs / 4 ≤ ahead)) (h3 : ¬ c = 64) (h4 : ¬ (fvV zs % 2 = 1 ∧ 4 ≤ depth))
    (h5 : (text1 (zs.drop (fvK zs)) 0 4096).2.2 = 0) (h6 : fvV zs % 2 = 1) : decL depth c ahead zs = (decL (depth + 1) (c + 1) 0 (text1 (zs.drop (fvK zs)) 0 4096).1).upon fun c' l =>
        (decL depth c' (fvV zs / 4) (text1 (zs.drop (fvK zs)) 0 4096).2.1).pre (mkIt (fvV zs) [] l) := by
  rw [decL_cons hu h0, if_neg (by simpa using h1), if_neg h2, if_neg h3, if_neg h4, if_neg (by simpa using h5), if_pos h6]
theorem dec_leaf (hu : ∀ z ∈ zs, 0 ≤ z ∧ z ≤ 255) (h0 : zs ≠ []) (h1 : fvE 0 zs = 0) (h2 : ¬ (1000 < fvV zs / 4 ∨ fvV zs / 4 ≤ ahead)) (h3 : ¬ c = 64) (h4 : ¬ (fvV zs % 2 = 1 ∧ 4 ≤ depth))
    (h5 : (text1 (zs.drop (fvK zs)) 0 4096).2.2 = 0) (h6 : ¬ fvV zs % 2 = 1) : decL depth c ahead zs =
        (decL depth (c + 1) (fvV zs / 4) (text1 (zs.drop (fvK zs)) 0 4096).2.1).pre (mkIt (fvV zs) (text1 (zs.drop (fvK zs)) 0 4096).1 []) := by
  rw [decL_cons hu h0, if_neg (by simpa using h1), if_neg h2, if_neg h3, if_neg h4, if_neg (by simpa using h5), if_neg h6]
end

theorem mk_kind (n : Int) (b : List Int) (l : List It) : (mkIt n b l).kind = n / 4 := rfl
theorem mk_lst (n : Int) (b : List Int) (l : List It) : (mkIt n b l).lst = decide (n % 2 = 1) := rfl
theorem mk_crit (n : Int) (b : List Int) (l : List It) : (mkIt n b l).crit = decide (n / 2 % 2 = 1) := rfl
theorem mk_bytes (n : Int) (b : List Int) (l : List It) : (mkIt n b l).bytes = b := rfl
theorem mk_items (n : Int) (b : List Int) (l : List It) : (mkIt n b l).items = l := rfl
theorem fnum_mk (n : Int) (b : List Int) (l : List It) : fnum (mkIt n b l).kind (mkIt n b l).crit (mkIt n b l).lst = n := by
  rw [mk_kind, mk_crit, mk_lst]
  unfold fnum
  simp only [decide_eq_true_eq]
  split <;> split <;> omega

/-- What is read passes the check, and its bytes are those that were read. -/
theorem dec_good : ∀ (m : Nat) (zs : List Int), zs.length ≤ m → zs.length ≤ 4096 → (∀ z ∈ zs, 0 ≤ z ∧ z ≤ 255) → ∀ (depth c ahead c' : Int) (l : List It), 0 ≤ ahead → decL depth c ahead zs = .ok c' l →
    chkL depth c ahead l = (c', 0) ∧ itsB l = zs := by
  intro m
  induction m with
  | zero =>
    intro zs hz _ hu depth c ahead c' l ha h
    obtain rfl : zs = [] := List.eq_nil_of_length_eq_zero (by omega)
    rw [decL_nil] at h
    injection h with h1 h2
    subst h1
    subst h2
    exact ⟨chkL_nil _ _ _, itsB_nil⟩
  | succ m ih =>
    intro zs hz h4096 hu depth c ahead c' l ha h
    by_cases h0 : zs = []
    · subst h0
      rw [decL_nil] at h
      injection h with h1 h2
      subst h1
      subst h2
      exact ⟨chkL_nil _ _ _, itsB_nil⟩
    by_cases h1 : fvE 0 zs ≠ 0
    · rw [dec_e1 hu h0 h1] at h; cases h
    have h1 := Classical.not_not.1 h1
    by_cases h2 : 1000 < fvV zs / 4 ∨ fvV zs / 4 ≤ ahead
    · rw [dec_e2 hu h0 h1 h2] at h; cases h
    by_cases h3 : c = 64
    · rw [dec_e3 hu h0 h1 h2 h3] at h; cases h
    by_cases h4 : fvV zs % 2 = 1 ∧ 4 ≤ depth
    · rw [dec_e4 hu h0 h1 h2 h3 h4] at h; cases h
    by_cases h5 : (text1 (zs.drop (fvK zs)) 0 4096).2.2 ≠ 0
    · rw [dec_e5 hu h0 h1 h2 h3 h4 h5] at h; cases h
    have h5 := Classical.not_not.1 h5
    obtain ⟨b1, b2⟩ := behind_parts hu
    obtain ⟨p1, p2, p3, p4⟩ := text1_parts b2 (Int.le_refl 4096) h5
    obtain ⟨q1, q2⟩ := text1_ok b2 (Int.le_refl 4096) h5
    have hvar := var_one hu h1
    have hsplit : zs = varL (fvV zs) ++ zs.drop (fvK zs) := by rw [hvar, List.take_append_drop]
    obtain ⟨t, ht⟩ : ∃ t, t = (text1 (zs.drop (fvK zs)) 0 4096).1 := ⟨_, rfl⟩
    obtain ⟨r, hr⟩ : ∃ r, r = (text1 (zs.drop (fvK zs)) 0 4096).2.1 := ⟨_, rfl⟩
    obtain ⟨V, hV⟩ : ∃ V, V = fvV zs := ⟨_, rfl⟩
    by_cases h6 : fvV zs % 2 = 1
    · rw [dec_in hu h0 h1 h2 h3 h4 h5 h6] at h
      rw [← ht] at p1 p3 q1
      rw [← hr] at p2 p4
      rw [← ht, ← hr] at q2 h
      rw [← hV] at h2 h4 h6 hsplit h
      cases hin : decL (depth + 1) (c + 1) 0 t with
      | bad c1 e1 => rw [hin] at h; cases h
      | ok c1 l1 =>
        rw [hin] at h
        simp only [DR.upon] at h
        cases hrest : decL depth c1 (V / 4) r with
        | bad c2 e2 => rw [hrest] at h; cases h
        | ok c2 l2 =>
          rw [hrest] at h
          simp only [DR.pre] at h
          injection h with e1 e2
          subst e1
          subst e2
          obtain ⟨g1, g2⟩ := ih t (by omega) (by omega) p3 (depth + 1) (c + 1) 0 c1 l1 (Int.le_refl 0) hin
          obtain ⟨g3, g4⟩ := ih r (by omega) (by omega) p4 depth c1 (V / 4) c2 l2 (by omega) hrest
          have herr : err1 (mkIt V [] l1) ahead depth = 0 := by
            unfold err1
            rw [mk_kind, mk_lst, mk_bytes, mk_items, if_neg (by omega), if_neg (by simp [h6]), if_neg (by simp [h6]; omega), if_neg (by simp)]
          have hc : chkI depth c ahead (mkIt V [] l1) = (c1, 0) := by
            rw [chkI_eq, if_neg h3, if_neg (by simpa using herr), mk_items, g1]
          refine ⟨?_, ?_⟩
          · rw [chkL_cons, hc, if_neg (by simp), mk_kind]
            exact g3
          · rw [itsB_cons, itB_eq, fnum_mk, g4]
            have hi : (mkIt V [] l1).inner = t := by unfold It.inner; rw [mk_lst, if_pos (by simpa using h6), mk_items, g2]
            rw [hi, hsplit, q2]
            simp
    · rw [dec_leaf hu h0 h1 h2 h3 h4 h5 h6] at h
      rw [← ht] at p1 p3 q1
      rw [← hr] at p2 p4
      rw [← ht, ← hr] at q2 h
      rw [← hV] at h2 h4 h6 hsplit h
      cases hrest : decL depth (c + 1) (V / 4) r with
      | bad c2 e2 => rw [hrest] at h; cases h
      | ok c2 l2 =>
        rw [hrest] at h
        simp only [DR.pre] at h
        injection h with e1 e2
        subst e1
        subst e2
        obtain ⟨g3, g4⟩ := ih r (by omega) (by omega) p4 depth (c + 1) (V / 4) c2 l2 (by omega) hrest
        have herr : err1 (mkIt V t []) ahead depth = 0 := by
          unfold err1
          rw [mk_kind, mk_lst, mk_bytes, mk_items, if_neg (by omega), if_neg (by simp [h6]), if_neg (by simp [h6]), if_neg (by omega)]
        have hc : chkI depth c ahead (mkIt V t []) = (c + 1, 0) := by
          rw [chkI_eq, if_neg h3, if_neg (by simpa using herr), mk_items, chkL_nil]
        refine ⟨?_, ?_⟩
        · rw [chkL_cons, hc, if_neg (by simp), mk_kind]
          exact g3
        · rw [itsB_cons, itB_eq, fnum_mk, g4]
          have hi : (mkIt V t []).inner = t := by unfold It.inner; rw [mk_lst, if_neg (by simpa using h6), mk_bytes]
          rw [hi, hsplit, q2]
          simp

theorem dec_le {zs : List Int} (h4 : zs.length ≤ 4096) (hu : ∀ z ∈ zs, 0 ≤ z ∧ z ≤ 255) {depth c ahead c' : Int} {l : List It} (ha : 0 ≤ ahead) (hc : c ≤ 64) (h : decL depth c ahead zs = .ok c' l) : c + l.length ≤ c' ∧ c' ≤ 64 := by
  have h1 := (dec_good _ zs (Nat.le_refl _) h4 hu depth c ahead c' l ha h).1
  have h2 := chkL_ok l depth c ahead ha hc (by rw [h1])
  rw [h1] at h2
  exact h2.2

/-- What is read without an error is laid as it stood there. -/
theorem dec_enc {zs : List Int} (hu : ∀ z ∈ zs, 0 ≤ z ∧ z ≤ 255) {c : Int} {l : List It} (h : decS zs = .ok c l) : encS l = (zs, 0) := by
  unfold decS at h
  split at h
  · cases h
  · rename_i h4
    obtain ⟨h1, h2⟩ := dec_good _ zs (Nat.le_refl _) (by omega) hu 1 0 0 c l (Int.le_refl 0) h
    unfold encS
    rw [h1, if_neg (by simp), h2, if_pos (by omega)]

theorem dec_ne : ∀ (m : Nat) (zs : List Int), zs.length ≤ m → (∀ z ∈ zs, 0 ≤ z ∧ z ≤ 255) → ∀ (depth c ahead c' E : Int), decL depth c ahead zs = .bad c' E → E ≠ 0 := by
  intro m
  induction m with
  | zero =>
    intro zs hz hu depth c ahead c' E h
    obtain rfl : zs = [] := List.eq_nil_of_length_eq_zero (by omega)
    rw [decL_nil] at h
    cases h
  | succ m ih =>
    intro zs hz hu depth c ahead c' E h
    by_cases h0 : zs = []
    · subst h0
      rw [decL_nil] at h
      cases h
    by_cases h1 : fvE 0 zs ≠ 0
    · rw [dec_e1 hu h0 h1] at h; injection h with _ h; rw [← h]; exact h1
    have h1 := Classical.not_not.1 h1
    by_cases h2 : 1000 < fvV zs / 4 ∨ fvV zs / 4 ≤ ahead
    · rw [dec_e2 hu h0 h1 h2] at h; injection h with _ h; omega
    by_cases h3 : c = 64
    · rw [dec_e3 hu h0 h1 h2 h3] at h; injection h with _ h; omega
    by_cases h4 : fvV zs % 2 = 1 ∧ 4 ≤ depth
    · rw [dec_e4 hu h0 h1 h2 h3 h4] at h; injection h with _ h; omega
    by_cases h5 : (text1 (zs.drop (fvK zs)) 0 4096).2.2 ≠ 0
    · rw [dec_e5 hu h0 h1 h2 h3 h4 h5] at h; injection h with _ h; rw [← h]; exact h5
    have h5 := Classical.not_not.1 h5
    obtain ⟨b1, b2⟩ := behind_parts hu
    obtain ⟨p1, p2, p3, p4⟩ := text1_parts b2 (Int.le_refl 4096) h5
    by_cases h6 : fvV zs % 2 = 1
    · rw [dec_in hu h0 h1 h2 h3 h4 h5 h6] at h
      cases hin : decL (depth + 1) (c + 1) 0 (text1 (zs.drop (fvK zs)) 0 4096).1 with
      | bad c1 e1 =>
        rw [hin] at h
        simp only [DR.upon] at h
        injection h with _ h
        rw [← h]
        exact ih _ (by omega) p3 _ _ _ _ _ hin
      | ok c1 l1 =>
        rw [hin] at h
        simp only [DR.upon] at h
        cases hrest : decL depth c1 (fvV zs / 4) (text1 (zs.drop (fvK zs)) 0 4096).2.1 with
        | bad c2 e2 =>
          rw [hrest] at h
          simp only [DR.pre] at h
          injection h with _ h
          rw [← h]
          exact ih _ (by omega) p4 _ _ _ _ _ hrest
        | ok c2 l2 => rw [hrest] at h; cases h
    · rw [dec_leaf hu h0 h1 h2 h3 h4 h5 h6] at h
      cases hrest : decL depth (c + 1) (fvV zs / 4) (text1 (zs.drop (fvK zs)) 0 4096).2.1 with
      | bad c2 e2 =>
        rw [hrest] at h
        simp only [DR.pre] at h
        injection h with _ h
        rw [← h]
        exact ih _ (by omega) p4 _ _ _ _ _ hrest
      | ok c2 l2 => rw [hrest] at h; cases h
theorem decS_ne {zs : List Int} (hu : ∀ z ∈ zs, 0 ≤ z ∧ z ≤ 255) {c E : Int} (h : decS zs = .bad c E) : E ≠ 0 := by
  unfold decS at h
  split at h
  · injection h with _ h; omega
  · exact dec_ne _ zs (Nat.le_refl _) hu _ _ _ _ _ h

end Go.Proofs.Ytchpobikbcelfaa
