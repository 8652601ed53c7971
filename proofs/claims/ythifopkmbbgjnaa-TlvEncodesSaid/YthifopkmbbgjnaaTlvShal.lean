/-
  How long the bytes of a list can be that passes the check; the first fault of a row of items is the list's.
-/
import Derived.Test.YthifopkmbbgjnaaTlvSmall
namespace Go.Proofs.Ythifopkmbbgjnaa

/-- No more than so many lists within one another. -/
def shal : Nat → List It → Prop
  | 0, l => l = []
  | e + 1, l => ∀ x ∈ l, shal e x.items

theorem chk_shal (e : Nat) : ∀ (l : List It) (dep c ahead : Int), dep + e = 5 → 0 ≤ ahead → 0 ≤ c → c ≤ 64 → (e = 0 → l = []) → (chkL dep c ahead l).2 = 0 → shal e l := by
  induction e with
  | zero => intro l dep c ahead hd ha hc0 hc hz h; exact hz rfl
  | succ e ih =>
    intro l
    induction l with
    | nil => intro dep c ahead hd ha hc0 hc hz h x hx; cases hx
    | cons y l ihl =>
      intro dep c ahead hd ha hc0 hc hz h x hx
      rw [chkL_cons] at h
      split at h
      · rename_i h1; exact absurd h h1
      · rename_i h1
        have h1 := Classical.not_not.1 h1
        have h2 := chkI_ok y dep c ahead ha hc h1
        have h3 := h1
        rw [chkI_eq] at h3
        split at h3
        · simp at h3
        · split at h3
          · rename_i h4; simp at h3; exact absurd h3 h4
          · rename_i h4
            obtain ⟨_, _, _, _, h5, _, h6⟩ := err1_ok ha (Classical.not_not.1 h4)
            rcases List.mem_cons.1 hx with rfl | hx
            · refine ih x.items (dep + 1) (c + 1) 0 (by omega) (Int.le_refl 0) (by omega) (by omega) (fun he => ?_) h3
              subst he
              cases hl : x.lst with
              | true => have := h6 hl; omega
              | false => exact h5 hl
            · have hk := ((okI_eq y).1 h2.1).1
              exact ihl dep _ y.kind hd (by omega) (by omega) h2.2.2 (fun h => by omega) h x hx

theorem shal_len (e : Nat) : ∀ (l : List It), shal e l → okL l → fewL l → l.length ≤ 64 → (itsB l).length ≤ l.length * (4200 * 65 ^ e) := by
  induction e with
  | zero => intro l h _ _ _; rw [show l = [] from h, itsB_nil]; simp
  | succ e ih =>
    intro l
    have hp : 1 ≤ 65 ^ e := Nat.one_le_pow _ _ (by omega)
    induction l with
    | nil => intro _ _ _ _; rw [itsB_nil]; simp
    | cons x l ihl =>
      intro h hok hfew hlen
      rw [okL_cons] at hok
      rw [fewL_cons] at hfew
      have h1 := ihl (fun y hy => h y (List.mem_cons_of_mem _ hy)) hok.2 hfew.2 (by simp at hlen; omega)
      have h2 := (fewI_eq x).1 hfew.1
      have h3 := (okI_eq x).1 hok.1
      have h4 := ih x.items (h x (List.mem_cons_self ..)) h3.2.2.2.2.2 h2.2 h2.1
      have h5 : (itsB x.items).length ≤ 64 * (4200 * 65 ^ e) := Nat.le_trans h4 (Nat.mul_le_mul_right _ h2.1)
      have h6 := itB_len x
      have h7 : x.inner.length ≤ 64 * (4200 * 65 ^ e) + 4096 := by
        unfold It.inner
        split
        · omega
        · have := h3.2.2.2.2.1; omega
      rw [itsB_cons, List.length_append, List.length_cons, Nat.pow_succ, Nat.add_mul]
      rw [Nat.pow_succ] at h1
      omega

/-- The first fault of items one behind the other; how many were ahead. -/
def scanR : Int → List Fl → Int × Int
  | c, [] => (c, 0)
  | c, f :: r => if c = 64 then (c, 4) else if errR f ≠ 0 then (c + 1, errR f) else scanR (c + 1) r
where
  errR (f : Fl) : Int :=
    if f.x.kind < 1 ∨ 1000 < f.x.kind ∨ f.x.kind ≤ f.ahead ∨ (f.x.items ≠ [] ∧ f.x.lst = false) ∨ (f.x.bytes ≠ [] ∧ f.x.lst = true) then 1 else
    if f.x.lst = true ∧ f.dep = 4 then 5 else
    if 4096 < f.x.bytes.length then 4 else 0

theorem scan_append (c : Int) (s t : List Fl) : scanR c (s ++ t) = if (scanR c s).2 ≠ 0 then scanR c s else scanR (scanR c s).1 t := by
  induction s generalizing c with
  | nil => rw [List.nil_append, scanR]; simp
  | cons f s ih =>
    rw [List.cons_append, scanR, scanR]
    by_cases h1 : c = 64
    · rw [if_pos h1, if_pos h1, if_pos (by simp)]
    · rw [if_neg h1, if_neg h1]
      by_cases h2 : scanR.errR f ≠ 0
      · rw [if_pos h2, if_pos h2, if_pos (by simpa using h2)]
      · rw [if_neg h2, if_neg h2, ih]

theorem errR_eq {x : It} {dep a : Int} (ha : 0 ≤ a) (hd : dep ≤ 4) : scanR.errR ⟨x, dep, a⟩ = err1 x a dep := by
  unfold scanR.errR err1
  by_cases h1 : x.kind ≤ a ∨ 1000 < x.kind
  · rw [if_pos h1, if_pos (by rcases h1 with h | h; exact .inr (.inr (.inl h)); exact .inr (.inl h))]
  · rw [if_neg h1]
    by_cases h2 : (x.lst = true ∧ x.bytes ≠ []) ∨ (x.lst = false ∧ x.items ≠ [])
    · rw [if_pos h2, if_pos (by
        rcases h2 with h | h
        · exact .inr (.inr (.inr (.inr ⟨h.2, h.1⟩)))
        · exact .inr (.inr (.inr (.inl ⟨h.2, h.1⟩))))]
    · rw [if_neg h2, if_neg (by
        rintro (h | h | h | h | h)
        · have h' : x.kind < 1 := h
          exact h1 (.inl (by omega))
        · exact h1 (.inr h)
        · exact h1 (.inl h)
        · exact h2 (.inr ⟨h.2, h.1⟩)
        · exact h2 (.inl ⟨h.2, h.1⟩))]
      by_cases h3 : x.lst = true ∧ 4 ≤ dep
      · rw [if_pos h3, if_pos ⟨h3.1, by show dep = 4; omega⟩]
      · rw [if_neg h3, if_neg (fun h => h3 ⟨h.1, by have h' : dep = 4 := h.2; omega⟩)]

theorem scan_len {s : List Fl} : ∀ {c : Int}, (scanR c s).2 = 0 → (scanR c s).1 = c + s.length := by
  induction s with
  | nil => intro c _; rw [scanR]; simp
  | cons f s ih =>
    intro c h
    rw [scanR] at h ⊢
    split at h
    · simp at h
    · rename_i h1
      rw [if_neg h1]
      split at h
      · rename_i h2; simp at h; exact absurd h h2
      · rename_i h2
        rw [if_neg h2, ih h]
        simp
        omega

theorem scan_chk (e : Nat) : ∀ (l : List It) (a c most : Int) (out t : List Fl), e ≤ 3 → most - out.length = 65 - c → 0 ≤ c → c ≤ 64 → 0 ≤ a → flL (flF e) (4 - (e : Int)) most a out l = out ++ t → scanR c t = chkL (4 - (e : Int)) c a l := by
  induction e with
  | zero =>
    intro l
    induction l with
    | nil =>
      intro a c most out t he hm hc0 hc ha h
      rw [flL] at h
      have ht : t = [] := by simpa using h.symm
      rw [ht, scanR, chkL_nil]
    | cons x l ihl =>
      intro a c most out t he hm hc0 hc ha h
      rw [fl_on (by omega)] at h
      obtain ⟨t', ht'⟩ := fl_prefix (sub := flF 0) (dep := 4 - ((0 : Nat) : Int)) (most := most) l x.kind (out ++ [⟨x, 4 - ((0 : Nat) : Int), a⟩] ++ flF 0 (most - (out.length + 1)) x.items)
      have ht : t = ⟨x, 4 - ((0 : Nat) : Int), a⟩ :: (flF 0 (most - (out.length + 1)) x.items ++ t') := by
        rw [ht', List.append_assoc, List.append_assoc] at h
        have := List.append_cancel_left h
        simpa using this.symm
      rw [ht, scanR, errR_eq ha (by omega)]
      by_cases h1 : c = 64
      · rw [if_pos h1, chk_full h1]
      rw [if_neg h1]
      by_cases h2 : err1 x a (4 - ((0 : Nat) : Int)) ≠ 0
      · rw [if_pos h2, chk_stop h1 h2]
      rw [if_neg h2]
      have h2 := Classical.not_not.1 h2
      obtain ⟨_, h3, _, _, h4, _, h5⟩ := err1_ok ha h2
      have hi : x.items = [] := by
        cases hl : x.lst with
        | true => have := h5 hl; omega
        | false => exact h4 hl
      have hs : flF 0 (most - (out.length + 1)) x.items = [] := by rw [hi, flF, flL]
      rw [hs, List.nil_append]
      rw [hs, List.append_nil] at ht'
      have hch : chkL (4 - ((0 : Nat) : Int) + 1) (c + 1) 0 x.items = (c + 1, 0) := by rw [hi, chkL_nil]
      rw [chk_on h1 h2 (by rw [hch]), hch]
      exact ihl x.kind (c + 1) most _ t' he (by simp; omega) (by omega) (by omega) (by omega) ht'
  | succ e ih =>
    intro l
    induction l with
    | nil =>
      intro a c most out t he hm hc0 hc ha h
      rw [flL] at h
      have ht : t = [] := by simpa using h.symm
      rw [ht, scanR, chkL_nil]
    | cons x l ihl =>
      intro a c most out t he hm hc0 hc ha h
      rw [fl_on (by omega)] at h
      obtain ⟨s, hs⟩ : ∃ s, s = flF (e + 1) (most - (out.length + 1)) x.items := ⟨_, rfl⟩
      rw [← hs] at h
      obtain ⟨dep, hdep⟩ : ∃ dep : Int, dep = 4 - ((e + 1 : Nat) : Int) := ⟨_, rfl⟩
      rw [← hdep] at h ihl ⊢
      obtain ⟨t', ht'⟩ := fl_prefix (sub := flF (e + 1)) (dep := dep) (most := most) l x.kind (out ++ [⟨x, dep, a⟩] ++ s)
      have ht : t = ⟨x, dep, a⟩ :: (s ++ t') := by
        rw [ht', List.append_assoc, List.append_assoc] at h
        have := List.append_cancel_left h
        simpa using this.symm
      rw [ht, scanR, errR_eq ha (by omega)]
      by_cases h1 : c = 64
      · rw [if_pos h1, chk_full h1]
      rw [if_neg h1]
      by_cases h2 : err1 x a dep ≠ 0
      · rw [if_pos h2, chk_stop h1 h2]
      rw [if_neg h2]
      have h2 := Classical.not_not.1 h2
      obtain ⟨_, h3, _⟩ := err1_ok ha h2
      have hd1 : 4 - (e : Int) = dep + 1 := by omega
      have hsc : scanR (c + 1) s = chkL (dep + 1) (c + 1) 0 x.items := by
        rw [← hd1]
        refine ih x.items 0 (c + 1) (most - (out.length + 1)) [] s (by omega) (by simp; omega) (by omega) (by omega) (Int.le_refl 0) ?_
        rw [hs, flF, List.nil_append]
        congr 1
        omega
      rw [scan_append, hsc]
      by_cases h4 : (chkL (dep + 1) (c + 1) 0 x.items).2 ≠ 0
      · rw [if_pos h4, chk_in h1 h2 h4]
      rw [if_neg h4]
      have h4 := Classical.not_not.1 h4
      rw [chk_on h1 h2 h4]
      have h5 := scan_len (c := c + 1) (s := s) (by rw [hsc]; exact h4)
      have h6 := (chkL_ok x.items (dep + 1) (c + 1) 0 (Int.le_refl 0) (by omega) h4).2
      rw [hsc] at h5
      exact ihl x.kind _ most _ t' he (by simp; omega) (by omega) (by omega) (by omega) ht'

/-- The first fault of the row is the one that Check tells. -/
theorem scan_row (l : List It) : (scanR 0 (flF 4 65 l)).2 = (chkL 1 0 0 l).2 := by
  have h := scan_chk 3 l 0 0 65 [] (flF 4 65 l) (Nat.le_refl _) (by simp) (Int.le_refl 0) (by omega) (Int.le_refl 0) (by rw [flF, List.nil_append]; rfl)
  rw [h]
  rfl

end Go.Proofs.Ythifopkmbbgjnaa
