/-
  Layer 2 in plain terms: items, their bytes, the errors of a list that is handed in, what bytes say as a list. Nothing here speaks of the program.
-/
import Derived.Test.YtchpobikbcelfaaWireSpec
import Derived.Test.YtchpobikbcelfaaWireBackSpec
namespace Go.Proofs.Ytchpobikbcelfaa

/-- An item. -/
inductive It where
  | mk (kind : Int) (crit lst : Bool) (bytes : List Int) (items : List It)
namespace It

def kind : It → Int | .mk k _ _ _ _ => k
def crit : It → Bool | .mk _ c _ _ _ => c
def lst : It → Bool | .mk _ _ s _ _ => s
def bytes : It → List Int | .mk _ _ _ b _ => b
def items : It → List It | .mk _ _ _ _ i => i
theorem eta (x : It) : x = .mk x.kind x.crit x.lst x.bytes x.items := by cases x; rfl
end It

/-- What an item's bytes begin with. -/
def fnum (k : Int) (c s : Bool) : Int := 4 * k + (if c then 2 else 0) + (if s then 1 else 0)

mutual
/-- The bytes of an item. -/
def itB : It → List Int
  | .mk k c s b i => varL (fnum k c s) ++ (varL ((if s then itsB i else b).length : Int) ++ (if s then itsB i else b))
/-- The bytes of a list. -/
def itsB : List It → List Int
  | [] => []
  | x :: l => itB x ++ itsB l
end

/-- What stands within an item. -/
def It.inner (x : It) : List Int := if x.lst then itsB x.items else x.bytes
theorem itB_eq (x : It) : itB x = varL (fnum x.kind x.crit x.lst) ++ (varL (x.inner.length : Int) ++ x.inner) := by
  cases x; rw [itB]; rfl
theorem itsB_nil : itsB [] = [] := by rw [itsB]
theorem itsB_cons (x : It) (l : List It) : itsB (x :: l) = itB x ++ itsB l := by rw [itsB]
theorem itsB_append (l r : List It) : itsB (l ++ r) = itsB l ++ itsB r := by
  induction l with
  | nil => rw [itsB_nil]; rfl
  | cons x l ih => rw [List.cons_append, itsB_cons, itsB_cons, ih, List.append_assoc]
theorem itsB_snoc (l : List It) (x : It) : itsB (l ++ [x]) = itsB l ++ itB x := by rw [itsB_append, itsB_cons, itsB_nil, List.append_nil]
theorem varL_pos (n : Int) : 0 < (varL n).length := by unfold varL; rw [varF]; split <;> simp

/-- The error of an item by itself. -/
def err1 (x : It) (ahead depth : Int) : Int :=
  if x.kind ≤ ahead ∨ 1000 < x.kind then 1 else
  if (x.lst = true ∧ x.bytes ≠ []) ∨ (x.lst = false ∧ x.items ≠ []) then 1 else
  if x.lst = true ∧ 4 ≤ depth then 5 else
  if 4096 < x.bytes.length then 4 else 0

mutual
/-- How many items there were, and the first error, behind an item. -/
def chkI (depth c ahead : Int) : It → Int × Int
  | .mk k cr s b i =>
    if c = 64 then (c, 4) else
    if err1 (.mk k cr s b i) ahead depth ≠ 0 then (c + 1, err1 (.mk k cr s b i) ahead depth) else
    chkL (depth + 1) (c + 1) 0 i
def chkL (depth c ahead : Int) : List It → Int × Int
  | [] => (c, 0)
  | x :: l =>
    if (chkI depth c ahead x).2 ≠ 0 then chkI depth c ahead x else chkL depth (chkI depth c ahead x).1 x.kind l
end

theorem chkI_eq (depth c ahead : Int) (x : It) : chkI depth c ahead x =
    if c = 64 then (c, 4) else if err1 x ahead depth ≠ 0 then (c + 1, err1 x ahead depth) else chkL (depth + 1) (c + 1) 0 x.items := by
  cases x; rw [chkI]; rfl
theorem chkL_nil (depth c ahead : Int) : chkL depth c ahead [] = (c, 0) := by rw [chkL]
theorem chkL_cons (depth c ahead : Int) (x : It) (l : List It) : chkL depth c ahead (x :: l) =
    if (chkI depth c ahead x).2 ≠ 0 then chkI depth c ahead x else chkL depth (chkI depth c ahead x).1 x.kind l := by rw [chkL]

/-- What Encode answers. -/
def encS (l : List It) : List Int × Int :=
  if (chkL 1 0 0 l).2 ≠ 0 then ([], (chkL 1 0 0 l).2) else if (itsB l).length ≤ 4096 then (itsB l, 0) else ([], 4)

mutual
/-- Kinds from 1 to 1000, and either bytes or items, all the way down. -/
def okI : It → Prop
  | .mk k _ s b i => 1 ≤ k ∧ k ≤ 1000 ∧ (s = true → b = []) ∧ (s = false → i = []) ∧ b.length ≤ 4096 ∧ okL i
def okL : List It → Prop
  | [] => True
  | x :: l => okI x ∧ okL l
end

theorem okI_eq (x : It) : okI x ↔ 1 ≤ x.kind ∧ x.kind ≤ 1000 ∧ (x.lst = true → x.bytes = []) ∧ (x.lst = false → x.items = []) ∧ x.bytes.length ≤ 4096 ∧ okL x.items := by
  cases x; rw [okI]; rfl
theorem okL_cons (x : It) (l : List It) : okL (x :: l) ↔ okI x ∧ okL l := by rw [okL]
theorem okL_nil : okL [] := by rw [okL]; trivial
theorem okL_mem {l : List It} (h : okL l) {x : It} (hx : x ∈ l) : okI x := by
  induction l with
  | nil => cases hx
  | cons y l ih =>
    rw [okL_cons] at h
    rcases List.mem_cons.1 hx with rfl | hx
    · exact h.1
    · exact ih h.2 hx

theorem err1_ok {x : It} {ahead depth : Int} (h0 : 0 ≤ ahead) (h : err1 x ahead depth = 0) :
    ahead < x.kind ∧ 1 ≤ x.kind ∧ x.kind ≤ 1000 ∧ (x.lst = true → x.bytes = []) ∧ (x.lst = false → x.items = []) ∧ x.bytes.length ≤ 4096 ∧ (x.lst = true → depth < 4) := by
  unfold err1 at h
  split at h
  · omega
  · split at h
    · omega
    · split at h
      · omega
      · split at h
        · omega
        · rename_i h1 h2 h3 h4
          refine ⟨by omega, by omega, by omega, fun e => ?_, fun e => ?_, by omega, fun e => ?_⟩
          · exact Classical.byContradiction fun hn => h2 (.inl ⟨e, hn⟩)
          · exact Classical.byContradiction fun hn => h2 (.inr ⟨e, hn⟩)
          · have : ¬ 4 ≤ depth := fun hd => h3 ⟨e, hd⟩
            omega

mutual
theorem chkI_ok : ∀ (x : It) (depth c ahead : Int), 0 ≤ ahead → c ≤ 64 → (chkI depth c ahead x).2 = 0 → okI x ∧ c + 1 ≤ (chkI depth c ahead x).1 ∧ (chkI depth c ahead x).1 ≤ 64
  | .mk k cr s b i, depth, c, ahead, h0, hc, h => by
    rw [chkI] at h ⊢
    split at h
    · simp at h
    · rename_i hc64
      rw [if_neg hc64]
      split at h
      · rename_i he; simp at h; exact absurd h he
      · rename_i he
        rw [if_neg he]
        have he' : err1 (.mk k cr s b i) ahead depth = 0 := Classical.not_not.1 he
        obtain ⟨_, h1, h2, h3, h4, h5, _⟩ := err1_ok h0 he'
        obtain ⟨h6, h7, h8⟩ := chkL_ok i (depth + 1) (c + 1) 0 (Int.le_refl 0) (by omega) h
        exact ⟨by rw [okI]; exact ⟨h1, h2, h3, h4, h5, h6⟩, by omega, h8⟩
theorem chkL_ok : ∀ (l : List It) (depth c ahead : Int), 0 ≤ ahead → c ≤ 64 → (chkL depth c ahead l).2 = 0 → okL l ∧ c + l.length ≤ (chkL depth c ahead l).1 ∧ (chkL depth c ahead l).1 ≤ 64
  | [], depth, c, ahead, _, hc, _ => by rw [chkL]; exact ⟨okL_nil, by simp, hc⟩
  | x :: l, depth, c, ahead, h0, hc, h => by
    rw [chkL] at h ⊢
    split at h
    · rename_i he; exact absurd h he
    · rename_i he
      rw [if_neg he]
      have he' : (chkI depth c ahead x).2 = 0 := Classical.not_not.1 he
      obtain ⟨h1, h2, h3⟩ := chkI_ok x depth c ahead h0 hc he'
      have hk := ((okI_eq x).1 h1).1
      obtain ⟨h4, h5, h6⟩ := chkL_ok l depth _ x.kind (by omega) h3 h
      refine ⟨by rw [okL]; exact ⟨h1, h4⟩, ?_, h6⟩
      simp only [List.length_cons]
      omega
end

theorem chkI_len {x : It} {depth c ahead : Int} (hc : c ≤ 64) (h : (chkI depth c ahead x).2 = 0) : (x.items.length : Int) ≤ 64 - (c + 1) := by
  rw [chkI_eq] at h
  split at h
  · simp at h
  · split at h
    · rename_i he; simp at h; exact absurd h he
    · have := (chkL_ok x.items (depth + 1) (c + 1) 0 (Int.le_refl 0) (by omega) h).2
      omega

mutual
/-- No list has more than 64 items, all the way down. -/
def fewI : It → Prop
  | .mk _ _ _ _ i => i.length ≤ 64 ∧ fewL i
def fewL : List It → Prop
  | [] => True
  | x :: l => fewI x ∧ fewL l
end

theorem fewI_eq (x : It) : fewI x ↔ x.items.length ≤ 64 ∧ fewL x.items := by cases x; rw [fewI]; rfl
theorem fewL_cons (x : It) (l : List It) : fewL (x :: l) ↔ fewI x ∧ fewL l := by rw [fewL]
theorem fewL_nil : fewL [] := by rw [fewL]; trivial
theorem fewL_mem {l : List It} (h : fewL l) {x : It} (hx : x ∈ l) : fewI x := by
  induction l with
  | nil => cases hx
  | cons y l ih =>
    rw [fewL_cons] at h
    rcases List.mem_cons.1 hx with rfl | hx
    · exact h.1
    · exact ih h.2 hx
mutual
theorem chkI_few : ∀ (x : It) (depth c ahead : Int), 0 ≤ ahead → 0 ≤ c → c ≤ 64 → (chkI depth c ahead x).2 = 0 → fewI x
  | .mk k cr s b i, depth, c, ahead, h0, hc0, hc, h => by
    rw [chkI] at h
    split at h
    · simp at h
    · split at h
      · rename_i he; simp at h; exact absurd h he
      · obtain ⟨_, h7, h8⟩ := chkL_ok i (depth + 1) (c + 1) 0 (Int.le_refl 0) (by omega) h
        rw [fewI]
        exact ⟨by omega, chkL_few i (depth + 1) (c + 1) 0 (Int.le_refl 0) (by omega) (by omega) h⟩
theorem chkL_few : ∀ (l : List It) (depth c ahead : Int), 0 ≤ ahead → 0 ≤ c → c ≤ 64 → (chkL depth c ahead l).2 = 0 → fewL l
  | [], _, _, _, _, _, _, _ => fewL_nil
  | x :: l, depth, c, ahead, h0, hc0, hc, h => by
    rw [chkL] at h
    split at h
    · rename_i he; exact absurd h he
    · rename_i he
      have he' : (chkI depth c ahead x).2 = 0 := Classical.not_not.1 he
      obtain ⟨h1, h2, h3⟩ := chkI_ok x depth c ahead h0 hc he'
      have hk := ((okI_eq x).1 h1).1
      rw [fewL]
      exact ⟨chkI_few x depth c ahead h0 hc0 hc he', chkL_few l depth _ x.kind (by omega) (by omega) h3 h⟩
end

theorem itB_len (x : It) : (itB x).length ≤ 20 + x.inner.length := by
  rw [itB_eq]
  have h1 := varL_len (fnum x.kind x.crit x.lst)
  have h2 := varL_len (x.inner.length : Int)
  simp only [List.length_append]
  omega
theorem itB_inner (x : It) : x.inner.length ≤ (itB x).length := by
  rw [itB_eq]; simp only [List.length_append]; omega
theorem itsB_mem {l : List It} {x : It} (hx : x ∈ l) : (itB x).length ≤ (itsB l).length := by
  induction l with
  | nil => cases hx
  | cons y l ih =>
    rw [itsB_cons, List.length_append]
    rcases List.mem_cons.1 hx with rfl | hx
    · omega
    · have := ih hx; omega

/-- What bytes say: an error, or items; and how many there were then. -/
inductive DR where
  | bad (c e : Int)
  | ok (c : Int) (l : List It)
def DR.pre (x : It) : DR → DR
  | .bad c e => .bad c e
  | .ok c l => .ok c (x :: l)
def DR.upon : DR → (Int → List It → DR) → DR
  | .bad c e, _ => .bad c e
  | .ok c l, k => k c l
/-- Items ahead. -/
def DR.pres (p : List It) : DR → DR
  | .bad c e => .bad c e
  | .ok c l => .ok c (p ++ l)
theorem DR.pres_nil (r : DR) : r.pres [] = r := by cases r <;> rfl
theorem DR.pres_pre (p : List It) (x : It) (r : DR) : (r.pre x).pres p = r.pres (p ++ [x]) := by cases r <;> simp [DR.pre, DR.pres]

/-- An item by its first number, its bytes, its items. -/
def mkIt (n : Int) (b : List Int) (l : List It) : It := .mk (n / 4) (decide (n / 2 % 2 = 1)) (decide (n % 2 = 1)) b l

def decG : Nat → Int → Int → Int → List Int → DR
  | 0, _, c, _, _ => .bad c 2
  | f + 1, depth, c, ahead, zs =>
    if zs = [] then .ok c [] else
    if fvE 0 zs ≠ 0 then .bad c (fvE 0 zs) else
    if 1000 < fvV zs / 4 ∨ fvV zs / 4 ≤ ahead then .bad c 3 else
    if c = 64 then .bad c 4 else
    if fvV zs % 2 = 1 ∧ 4 ≤ depth then .bad (c + 1) 5 else
    if (text1 (zs.drop (fvK zs)) 0 4096).2.2 ≠ 0 then .bad (c + 1) (text1 (zs.drop (fvK zs)) 0 4096).2.2 else
    if fvV zs % 2 = 1 then
      (decG f (depth + 1) (c + 1) 0 (text1 (zs.drop (fvK zs)) 0 4096).1).upon fun c' l =>
        (decG f depth c' (fvV zs / 4) (text1 (zs.drop (fvK zs)) 0 4096).2.1).pre (mkIt (fvV zs) [] l)
    else (decG f depth (c + 1) (fvV zs / 4) (text1 (zs.drop (fvK zs)) 0 4096).2.1).pre (mkIt (fvV zs) (text1 (zs.drop (fvK zs)) 0 4096).1 [])

/-- The shape of a text that was read: its length, it itself, what is left. -/
theorem text1_ok {zs : List Int} {n : Int} (hu : ∀ z ∈ zs, 0 ≤ z ∧ z ≤ 255) (hn : n ≤ 4096) (h : (text1 zs 0 n).2.2 = 0) :
    (text1 zs 0 n).1.length ≤ 4096 ∧ zs = varL ((text1 zs 0 n).1.length : Int) ++ ((text1 zs 0 n).1 ++ (text1 zs 0 n).2.1) := by
  have h0 := fvV_nonneg hu
  have hk' := fvK_le zs
  unfold text1 at h ⊢
  rw [if_neg (by simp)] at h ⊢
  by_cases hE : fvE 0 zs = 0
  · rw [if_neg (by simp [hE])] at h ⊢
    split at h
    · simp at h
    · rename_i hl
      rw [if_neg hl]
      split at h
      · simp at h
      · rename_i hs
        rw [if_neg hs]
        have hlen : ((zs.drop (fvK zs)).take (fvV zs).toNat).length = (fvV zs).toNat := by simp; omega
        refine ⟨by rw [hlen]; omega, ?_⟩
        rw [hlen, List.take_append_drop, Int.toNat_of_nonneg h0, var_one hu hE, List.take_append_drop]
  · rw [if_pos hE] at h
    exact absurd h hE
theorem text1_parts {zs : List Int} {n : Int} (hu : ∀ z ∈ zs, 0 ≤ z ∧ z ≤ 255) (hn : n ≤ 4096) (h : (text1 zs 0 n).2.2 = 0) :
    (text1 zs 0 n).1.length < zs.length ∧ (text1 zs 0 n).2.1.length < zs.length ∧ (∀ z ∈ (text1 zs 0 n).1, 0 ≤ z ∧ z ≤ 255) ∧ (∀ z ∈ (text1 zs 0 n).2.1, 0 ≤ z ∧ z ≤ 255) := by
  obtain ⟨_, h2⟩ := text1_ok hu hn h
  obtain ⟨t, ht⟩ : ∃ t, t = (text1 zs 0 n).1 := ⟨_, rfl⟩
  obtain ⟨r, hr⟩ : ∃ r, r = (text1 zs 0 n).2.1 := ⟨_, rfl⟩
  rw [← ht, ← hr] at h2 ⊢
  have h3 := varL_pos (t.length : Int)
  have h4 : zs.length = (varL (t.length : Int)).length + (t.length + r.length) := by rw [h2]; simp
  refine ⟨by omega, by omega, fun z hz => hu z ?_, fun z hz => hu z ?_⟩
  · rw [h2]; simp [hz]
  · rw [h2]; simp [hz]
/-- Behind the first number. -/
theorem behind_parts {zs : List Int} (hu : ∀ z ∈ zs, 0 ≤ z ∧ z ≤ 255) : (zs.drop (fvK zs)).length ≤ zs.length ∧ (∀ z ∈ zs.drop (fvK zs), 0 ≤ z ∧ z ≤ 255) :=
  ⟨by simp, fun z hz => hu z (List.mem_of_mem_drop hz)⟩

theorem decG_fuel : ∀ (m : Nat) (zs : List Int), zs.length ≤ m → (∀ z ∈ zs, 0 ≤ z ∧ z ≤ 255) → ∀ (f g : Nat) (depth c ahead : Int), zs.length < f → zs.length < g → decG f depth c ahead zs = decG g depth c ahead zs := by
  intro m
  induction m with
  | zero =>
    intro zs hz hu f g depth c ahead hf hg
    obtain rfl : zs = [] := List.eq_nil_of_length_eq_zero (by omega)
    cases f with
    | zero => omega
    | succ f =>
      cases g with
      | zero => omega
      | succ g => rw [decG, decG, if_pos rfl, if_pos rfl]
  | succ m ih =>
    intro zs hz hu f g depth c ahead hf hg
    cases f with
    | zero => omega
    | succ f =>
      cases g with
      | zero => omega
      | succ g =>
        rw [decG, decG]
        by_cases e1 : zs = []
        · rw [if_pos e1, if_pos e1]
        rw [if_neg e1, if_neg e1]
        by_cases e2 : fvE 0 zs ≠ 0
        · rw [if_pos e2, if_pos e2]
        rw [if_neg e2, if_neg e2]
        by_cases e3 : 1000 < fvV zs / 4 ∨ fvV zs / 4 ≤ ahead
        · rw [if_pos e3, if_pos e3]
        rw [if_neg e3, if_neg e3]
        by_cases e4 : c = 64
        · rw [if_pos e4, if_pos e4]
        rw [if_neg e4, if_neg e4]
        by_cases e5 : fvV zs % 2 = 1 ∧ 4 ≤ depth
        · rw [if_pos e5, if_pos e5]
        rw [if_neg e5, if_neg e5]
        by_cases e6 : (text1 (zs.drop (fvK zs)) 0 4096).2.2 ≠ 0
        · rw [if_pos e6, if_pos e6]
        rw [if_neg e6, if_neg e6]
        obtain ⟨b1, b2⟩ := behind_parts hu
        obtain ⟨p1, p2, p3, p4⟩ := text1_parts b2 (Int.le_refl 4096) (Classical.not_not.1 e6)
        have r1 := fun c' => ih _ (by omega) p4 f g depth c' (fvV zs / 4) (by omega) (by omega)
        have r2 := ih _ (by omega) p3 f g (depth + 1) (c + 1) 0 (by omega) (by omega)
        by_cases e7 : fvV zs % 2 = 1
        · rw [if_pos e7, if_pos e7, r2]
          exact congrArg _ (funext fun c' => funext fun l => by rw [r1])
        · rw [if_neg e7, if_neg e7, r1]

/-- What bytes say as a list, in a list of a depth, behind c items and one of the kind ahead. -/
def decL (depth c ahead : Int) (zs : List Int) : DR := decG (zs.length + 1) depth c ahead zs
theorem decL_nil (depth c ahead : Int) : decL depth c ahead [] = .ok c [] := by unfold decL; rw [decG, if_pos rfl]
/-- Behind a first number and a text. -/
theorem decL_cons {zs : List Int} (hu : ∀ z ∈ zs, 0 ≤ z ∧ z ≤ 255) (h0 : zs ≠ []) (depth c ahead : Int) : decL depth c ahead zs =
    if fvE 0 zs ≠ 0 then .bad c (fvE 0 zs) else
    if 1000 < fvV zs / 4 ∨ fvV zs / 4 ≤ ahead then .bad c 3 else
    if c = 64 then .bad c 4 else
    if fvV zs % 2 = 1 ∧ 4 ≤ depth then .bad (c + 1) 5 else
    if (text1 (zs.drop (fvK zs)) 0 4096).2.2 ≠ 0 then .bad (c + 1) (text1 (zs.drop (fvK zs)) 0 4096).2.2 else
    if fvV zs % 2 = 1 then
      (decL (depth + 1) (c + 1) 0 (text1 (zs.drop (fvK zs)) 0 4096).1).upon fun c' l =>
        (decL depth c' (fvV zs / 4) (text1 (zs.drop (fvK zs)) 0 4096).2.1).pre (mkIt (fvV zs) [] l)
    else (decL depth (c + 1) (fvV zs / 4) (text1 (zs.drop (fvK zs)) 0 4096).2.1).pre (mkIt (fvV zs) (text1 (zs.drop (fvK zs)) 0 4096).1 []) := by
  rw [decL, decG, if_neg h0]
  by_cases e2 : fvE 0 zs ≠ 0
  · rw [if_pos e2, if_pos e2]
  rw [if_neg e2, if_neg e2]
  by_cases e3 : 1000 < fvV zs / 4 ∨ fvV zs / 4 ≤ ahead
  · rw [if_pos e3, if_pos e3]
  rw [if_neg e3, if_neg e3]
  by_cases e4 : c = 64
  · rw [if_pos e4, if_pos e4]
  rw [if_neg e4, if_neg e4]
  by_cases e5 : fvV zs % 2 = 1 ∧ 4 ≤ depth
  · rw [if_pos e5, if_pos e5]
  rw [if_neg e5, if_neg e5]
  by_cases e6 : (text1 (zs.drop (fvK zs)) 0 4096).2.2 ≠ 0
  · rw [if_pos e6, if_pos e6]
  rw [if_neg e6, if_neg e6]
  obtain ⟨b1, b2⟩ := behind_parts hu
  obtain ⟨p1, p2, p3, p4⟩ := text1_parts b2 (Int.le_refl 4096) (Classical.not_not.1 e6)
  have r1 := fun c' => decG_fuel _ _ (Nat.le_refl _) p4 zs.length _ depth c' (fvV zs / 4) (by omega) (Nat.lt_add_one _)
  have r2 := decG_fuel _ _ (Nat.le_refl _) p3 zs.length _ (depth + 1) (c + 1) 0 (by omega) (Nat.lt_add_one _)
  unfold decL
  by_cases e7 : fvV zs % 2 = 1
  · rw [if_pos e7, if_pos e7, r2]
    exact congrArg _ (funext fun c' => funext fun l => by rw [r1])
  · rw [if_neg e7, if_neg e7, r1]

/-- What Decode answers. -/
def decS (zs : List Int) : DR := if 4096 < zs.length then .bad 0 4 else decL 1 0 0 zs

theorem chk_full {depth c ahead : Int} {x : It} {l : List It} (h : c = 64) : chkL depth c ahead (x :: l) = (c, 4) := by
  rw [chkL_cons, chkI_eq, if_pos h, if_pos (by simp)]
theorem chk_stop {depth c ahead : Int} {x : It} {l : List It} (h : c ≠ 64) (h1 : err1 x ahead depth ≠ 0) : chkL depth c ahead (x :: l) = (c + 1, err1 x ahead depth) := by
  rw [chkL_cons, chkI_eq, if_neg h, if_pos h1, if_pos (by simpa using h1)]
theorem chk_in {depth c ahead : Int} {x : It} {l : List It} (h : c ≠ 64) (h1 : err1 x ahead depth = 0) (h2 : (chkL (depth + 1) (c + 1) 0 x.items).2 ≠ 0) : chkL depth c ahead (x :: l) = chkL (depth + 1) (c + 1) 0 x.items := by
  rw [chkL_cons, chkI_eq, if_neg h, if_neg (show ¬ err1 x ahead depth ≠ 0 by simpa using h1), if_pos h2]
theorem chk_on {depth c ahead : Int} {x : It} {l : List It} (h : c ≠ 64) (h1 : err1 x ahead depth = 0) (h2 : (chkL (depth + 1) (c + 1) 0 x.items).2 = 0) :
    chkL depth c ahead (x :: l) = chkL depth (chkL (depth + 1) (c + 1) 0 x.items).1 x.kind l := by
  rw [chkL_cons, chkI_eq, if_neg h, if_neg (show ¬ err1 x ahead depth ≠ 0 by simpa using h1), if_neg (by simpa using h2)]

end Go.Proofs.Ytchpobikbcelfaa
