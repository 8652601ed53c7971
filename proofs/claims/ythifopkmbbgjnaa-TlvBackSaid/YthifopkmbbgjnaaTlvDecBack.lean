/-
  What is laid is read as it was, in plain terms.
-/
import Derived.Test.YthifopkmbbgjnaaTlvDec
namespace Go.Proofs.Ythifopkmbbgjnaa

theorem first_back {x : Int} (h0 : 0 ≤ x) (h1 : x ≤ 18446744073709551615) (rest : List Int) : fvE 0 (varL x ++ rest) = 0 ∧ fvV (varL x ++ rest) = x ∧ (varL x ++ rest).drop (fvK (varL x ++ rest)) = rest := by
  obtain ⟨a1, a2, a3⟩ := var_back' rest 9 0 x rfl h0 (fun h => by omega) (by simp; omega)
  refine ⟨a1, a2, ?_⟩
  have a3' : fvK (varL x ++ rest) = (varL x).length := a3
  rw [a3', List.drop_left]
theorem text_back' (b more : List Int) (h : b.length ≤ 4096) : text1 (varL (b.length : Int) ++ (b ++ more)) 0 4096 = (b, more, 0) := by
  obtain ⟨a1, a2, a3⟩ := first_back (x := (b.length : Int)) (by omega) (by omega) (b ++ more)
  have hk := fvK_le (varL (b.length : Int) ++ (b ++ more))
  have hd : (varL (b.length : Int) ++ (b ++ more)).length - fvK (varL (b.length : Int) ++ (b ++ more)) = b.length + more.length := by
    have := congrArg List.length a3
    simpa using this
  unfold text1
  rw [if_neg (by simp), a1, if_neg (by simp), a2, if_neg (by omega), if_neg (by omega), a3]
  simp

theorem fnum_parts {k : Int} (c s : Bool) : fnum k c s / 4 = k ∧ decide (fnum k c s / 2 % 2 = 1) = c ∧ decide (fnum k c s % 2 = 1) = s ∧ (fnum k c s % 2 = 1 ↔ s = true) := by
  unfold fnum
  cases c <;> cases s <;> simp <;> omega


mutual
/-- All numbers are bytes, all the way down. -/
def byI : It → Prop
  | .mk _ _ _ b i => (∀ z ∈ b, 0 ≤ z ∧ z ≤ 255) ∧ byL i
def byL : List It → Prop
  | [] => True
  | x :: l => byI x ∧ byL l
end

theorem byI_eq (x : It) : byI x ↔ (∀ z ∈ x.bytes, 0 ≤ z ∧ z ≤ 255) ∧ byL x.items := by cases x; rw [byI]; rfl
theorem byL_cons (x : It) (l : List It) : byL (x :: l) ↔ byI x ∧ byL l := by rw [byL]
theorem byL_mk {l : List It} (h : ∀ x ∈ l, byI x) : byL l := by
  induction l with
  | nil => rw [byL]; trivial
  | cons x l ih => rw [byL]; exact ⟨h x (List.mem_cons_self ..), ih fun y hy => h y (List.mem_cons_of_mem _ hy)⟩
mutual
theorem itB_u8 : ∀ (x : It), byI x → okI x → (itB x).length ≤ 4200 → ∀ z ∈ itB x, 0 ≤ z ∧ z ≤ 255
  | .mk k c s b i, hb, hok, hl, z, hz => by
    rw [byI] at hb
    rw [okI] at hok
    rw [itB] at hz hl
    have hf : 0 ≤ fnum k c s ∧ fnum k c s ≤ 4003 := by unfold fnum; cases c <;> cases s <;> simp <;> omega
    simp only [List.length_append] at hl
    rcases List.mem_append.1 hz with hz | hz
    · exact varL_u8 hf.1 (by omega) z hz
    · rcases List.mem_append.1 hz with hz | hz
      · exact varL_u8 (by omega) (by omega) z hz
      · split at hz
        · exact itsB_u8 i hb.2 hok.2.2.2.2.2 (by simp_all; omega) z hz
        · exact hb.1 z hz
theorem itsB_u8 : ∀ (l : List It), byL l → okL l → (itsB l).length ≤ 4200 → ∀ z ∈ itsB l, 0 ≤ z ∧ z ≤ 255
  | [], _, _, _, z, hz => by rw [itsB] at hz; cases hz
  | x :: l, hb, hok, hl, z, hz => by
    rw [byL] at hb
    rw [okL] at hok
    rw [itsB] at hz hl
    rw [List.length_append] at hl
    rcases List.mem_append.1 hz with hz | hz
    · exact itB_u8 x hb.1 hok.1 (by omega) z hz
    · exact itsB_u8 l hb.2 hok.2 (by omega) z hz
end

mutual
theorem backI : ∀ (x : It) (dep c a c1 : Int) (more : List Int), 0 ≤ a → c ≤ 64 → byI x → (∀ z ∈ itB x ++ more, 0 ≤ z ∧ z ≤ 255) → (itB x).length ≤ 4096 → chkI dep c a x = (c1, 0) →
    decL dep c a (itB x ++ more) = (decL dep c1 x.kind more).pre x
  | .mk k cr s b i, dep, c, a, c1, more, ha, hc, hby, hu, hl, h => by
    have hok := chkI_ok (.mk k cr s b i) dep c a ha hc (by rw [h])
    have hok1 := (okI_eq _).1 hok.1
    rw [chkI] at h
    split at h
    · simp at h
    · rename_i hc64
      split at h
      · rename_i he
        have := congrArg Prod.snd h
        exact absurd this he
      · rename_i he
        obtain ⟨g1, g2, g3, g4, g5, g6, g7⟩ := err1_ok ha (Classical.not_not.1 he)
        have hf := fnum_parts cr s (k := k)
        have hfb : 0 ≤ fnum k cr s ∧ fnum k cr s ≤ 4003 := by unfold fnum; have := hok1.2.1; have := hok1.1; cases cr <;> cases s <;> simp <;> simp [It.kind] at * <;> omega
        have hB : itB (.mk k cr s b i) = varL (fnum k cr s) ++ (varL ((if s then itsB i else b).length : Int) ++ (if s then itsB i else b)) := by rw [itB]
        rw [hB] at hu hl ⊢
        obtain ⟨t, ht⟩ : ∃ t, t = (if s then itsB i else b) := ⟨_, rfl⟩
        rw [← ht] at hu hl ⊢
        have htl : t.length ≤ 4096 := by simp only [List.length_append] at hl; omega
        rw [List.append_assoc] at hu ⊢
        obtain ⟨a1, a2, a3⟩ := first_back hfb.1 (by omega) ((varL (t.length : Int) ++ t) ++ more)
        have hne : varL (fnum k cr s) ++ ((varL (t.length : Int) ++ t) ++ more) ≠ [] := by
          have := varL_pos (fnum k cr s)
          intro h0
          rw [List.append_eq_nil_iff] at h0
          rw [h0.1] at this
          simp at this
        have htx : text1 ((varL (t.length : Int) ++ t) ++ more) 0 4096 = (t, more, 0) := by rw [List.append_assoc]; exact text_back' t more htl
        have e2 : ¬ (1000 < fvV (varL (fnum k cr s) ++ ((varL (t.length : Int) ++ t) ++ more)) / 4 ∨ fvV (varL (fnum k cr s) ++ ((varL (t.length : Int) ++ t) ++ more)) / 4 ≤ a) := by
          rw [a2, hf.1]
          have h1 : a < k := g1
          have h2 : k ≤ 1000 := g3
          omega
        have e4 : ¬ (fvV (varL (fnum k cr s) ++ ((varL (t.length : Int) ++ t) ++ more)) % 2 = 1 ∧ 4 ≤ dep) := by
          rw [a2, hf.2.2.2]
          intro h4
          have := g7 h4.1
          omega
        cases s with
        | true =>
          simp only [if_true] at ht
          have hb0 : b = [] := g4 rfl
          rw [dec_in hu hne a1 e2 hc64 e4 (by rw [a3, htx]) (by rw [a2]; exact hf.2.2.2.2 rfl), a3, htx, a2, hf.1]
          have hci : (chkL (dep + 1) (c + 1) 0 i).2 = 0 := by rw [h]
          have h3 : chkL (dep + 1) (c + 1) 0 i = (c1, 0) := h
          rw [byI] at hby
          have hin := backL i (dep + 1) (c + 1) 0 c1 (Int.le_refl 0) (by omega) hby.2 (by rw [← ht]; exact fun z hz => hu z (by simp [hz])) (by rw [← ht]; exact htl) h3
          rw [← ht] at hin
          rw [hin]
          simp only [DR.upon]
          have hm : mkIt (fnum k cr true) [] i = .mk k cr true b i := by
            unfold mkIt
            rw [hf.1, hf.2.1, hf.2.2.1, hb0]
          rw [hm]
          rfl
        | false =>
          simp only [Bool.false_eq_true, if_false] at ht
          have hi0 : i = [] := g5 rfl
          rw [dec_leaf hu hne a1 e2 hc64 e4 (by rw [a3, htx]) (by rw [a2]; intro h4; have := hf.2.2.2.1 h4; cases this), a3, htx, a2, hf.1]
          have h3 : chkL (dep + 1) (c + 1) 0 i = (c1, 0) := h
          rw [hi0, chkL_nil] at h3
          have h3 : c + 1 = c1 := congrArg Prod.fst h3
          have hm : mkIt (fnum k cr false) t [] = .mk k cr false b i := by
            unfold mkIt
            rw [hf.1, hf.2.1, hf.2.2.1, ht, hi0]
          simp only
          rw [hm, h3]
          rfl
theorem backL : ∀ (l : List It) (dep c a c' : Int), 0 ≤ a → c ≤ 64 → byL l → (∀ z ∈ itsB l, 0 ≤ z ∧ z ≤ 255) → (itsB l).length ≤ 4096 → chkL dep c a l = (c', 0) → decL dep c a (itsB l) = .ok c' l
  | [], dep, c, a, c', _, _, _, _, _, h => by
    rw [chkL] at h
    have h : c = c' := congrArg Prod.fst h
    rw [itsB, decL_nil, h]
  | x :: l, dep, c, a, c', ha, hc, hby, hu, hl, h => by
    rw [chkL] at h
    split at h
    · rename_i h1
      have := congrArg Prod.snd h
      exact absurd this h1
    · rename_i h1
      have h1 := Classical.not_not.1 h1
      rw [byL] at hby
      rw [itsB] at hu hl ⊢
      rw [List.length_append] at hl
      have hx := backI x dep c a (chkI dep c a x).1 (itsB l) ha hc hby.1 hu (by omega) (Prod.ext rfl h1)
      have hok := chkI_ok x dep c a ha hc h1
      have hk := ((okI_eq x).1 hok.1).1
      rw [hx, backL l dep _ x.kind c' (by omega) hok.2.2 hby.2 (fun z hz => hu z (List.mem_append_right _ hz)) (by omega) h]
      rfl
end

theorem enc_dec {l : List It} (hby : byL l) (h : (encS l).2 = 0) : ∃ c, decS (encS l).1 = .ok c l := by
  unfold encS at h ⊢
  split at h
  · rename_i h1; exact absurd h h1
  · rename_i h1
    have h1' := Classical.not_not.1 h1
    rw [if_neg h1]
    split at h
    · rename_i h2
      rw [if_pos h2]
      have hok := chkL_ok l 1 0 0 (Int.le_refl 0) (by omega) h1'
      refine ⟨(chkL 1 0 0 l).1, ?_⟩
      unfold decS
      rw [if_neg (by simpa using h2)]
      exact backL l 1 0 0 _ (Int.le_refl 0) (by omega) hby (itsB_u8 l hby hok.1 (by omega)) h2 (Prod.ext rfl h1')
    · simp at h

end Go.Proofs.Ythifopkmbbgjnaa
