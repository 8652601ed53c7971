/-
  What layer 8 says, over lists: colours, pens, cells, rows; what a pen's blank is; what it is to cut, to lay over, to fill; and the reference's pieces, mended.
-/
import Derived.Test.YtbjgjhhombalpaaCellWid
namespace Go.Proofs.Ytbjgjhhombalpaa

structure Pn where
  fg : Int
  bg : Int
  st : Int
  lk : Int
structure Ce where
  r : Int
  wd : Int
  p : Pn
theorem Pn.ext' {a b : Pn} (h1 : a.fg = b.fg) (h2 : a.bg = b.bg) (h3 : a.st = b.st) (h4 : a.lk = b.lk) : a = b := by cases a; cases b; simp_all
theorem Ce.ext' {a b : Ce} (h1 : a.r = b.r) (h2 : a.wd = b.wd) (h3 : a.p = b.p) : a = b := by cases a; cases b; simp_all
instance : DecidableEq Pn := fun a b =>
  if h : a.fg = b.fg ∧ a.bg = b.bg ∧ a.st = b.st ∧ a.lk = b.lk then isTrue (Pn.ext' h.1 h.2.1 h.2.2.1 h.2.2.2) else isFalse fun e => h (by rw [e]; exact ⟨rfl, rfl, rfl, rfl⟩)
instance : DecidableEq Ce := fun a b =>
  if h : a.r = b.r ∧ a.wd = b.wd ∧ a.p = b.p then isTrue (Ce.ext' h.1 h.2.1 h.2.2) else isFalse fun e => h (by rw [e]; exact ⟨rfl, rfl, rfl⟩)
def pn0 : Pn := ⟨0, 0, 0, 0⟩
def ce0 : Ce := ⟨0, 0, pn0⟩

def colMay (c : Int) : Bool := decide (c ≤ 256 ∨ (16777216 ≤ c ∧ c ≤ 33554431))
def penMayS (p : Pn) : Bool := colMay p.fg && colMay p.bg
def cellMay (c : Ce) : Bool := penMayS c.p && ((decide (c.wd = 0) && decide (widthS c.r = 1)) || (decide (c.wd = 1) && decide (widthS c.r = 2)) || (decide (c.wd = 2) && decide (c.r = 0)))
def blankS (p : Pn) : Ce := ⟨32, 0, ⟨0, p.bg, 0, 0⟩⟩
def rightS (c : Ce) : Ce := ⟨0, 2, c.p⟩
/-- The cell at a place. -/
def cAt (L : List Ce) (i : Nat) : Ce := L.getD i ce0
/-- One place of a row is as it may be. -/
def OkAt (L : List Ce) (i : Nat) : Prop :=
  cellMay (cAt L i) = true ∧ ((cAt L i).wd = 1 → i + 1 < L.length ∧ cAt L (i + 1) = rightS (cAt L i)) ∧ ((cAt L i).wd = 2 → 0 < i ∧ (cAt L (i - 1)).wd = 1)
structure RowOk (L : List Ce) : Prop where
  pos : 1 ≤ L.length
  le : L.length ≤ 80
  at_ : ∀ i, i < L.length → OkAt L i
noncomputable def rowMay (L : List Ce) : Bool := @decide (RowOk L) (Classical.propDecidable _)
theorem rowMay_iff (L : List Ce) : rowMay L = true ↔ RowOk L := by unfold rowMay; exact @decide_eq_true_iff _ (Classical.propDecidable _)
theorem rowMay_not (L : List Ce) : rowMay L = false ↔ ¬ RowOk L := by rw [← rowMay_iff]; simp

theorem cAt_lt {L : List Ce} {i : Nat} (h : i < L.length) : cAt L i = L[i] := by simp [cAt, List.getD, List.getElem?_eq_getElem h]
theorem cAt_ge {L : List Ce} {i : Nat} (h : L.length ≤ i) : cAt L i = ce0 := by simp [cAt, List.getD, List.getElem?_eq_none h]
theorem cAt_mem {L : List Ce} {i : Nat} (h : i < L.length) : cAt L i ∈ L := by rw [cAt_lt h]; exact List.getElem_mem h
theorem row_ext {L M : List Ce} (hl : L.length = M.length) (h : ∀ i, i < L.length → cAt L i = cAt M i) : L = M := by
  apply List.ext_getElem hl
  intro i h1 h2
  rw [← cAt_lt h1, ← cAt_lt h2, h i h1]
theorem cAt_set (L : List Ce) (k : Nat) (c : Ce) (i : Nat) : cAt (L.set k c) i = if i = k ∧ i < L.length then c else cAt L i := by
  unfold cAt
  simp only [List.getD, List.getElem?_set]
  by_cases h : k = i
  · subst h
    by_cases h2 : k < L.length
    · simp [h2]
    · simp [h2]
  · simp [h, Ne.symm h]
theorem cAt_append (L M : List Ce) (i : Nat) : cAt (L ++ M) i = if i < L.length then cAt L i else cAt M (i - L.length) := by
  unfold cAt
  simp only [List.getD]
  by_cases h : i < L.length
  · rw [List.getElem?_append_left h, if_pos h]
  · rw [List.getElem?_append_right (by omega), if_neg h]
theorem cAt_take (L : List Ce) (k i : Nat) : cAt (L.take k) i = if i < k then cAt L i else ce0 := by
  unfold cAt
  simp only [List.getD, List.getElem?_take]
  split <;> simp
theorem cAt_drop (L : List Ce) (k i : Nat) : cAt (L.drop k) i = cAt L (k + i) := by
  unfold cAt
  simp [List.getD]
theorem cAt_replicate (n : Nat) (c : Ce) (i : Nat) : cAt (List.replicate n c) i = if i < n then c else ce0 := by
  unfold cAt
  simp only [List.getD, List.getElem?_replicate]
  split <;> simp

/-- Both halves of the wide letter that begins just ahead of a place become blanks. -/
def cutS (L : List Ce) (x : Nat) : List Ce :=
  if x < L.length ∧ (cAt L x).wd = 2 then (L.set (x - 1) (blankS (cAt L (x - 1)).p)).set x (blankS (cAt L x).p) else L
/-- Cells are laid over a row from a place on. -/
def overS (L : List Ce) (x : Nat) (M : List Ce) : List Ce := L.take x ++ (M ++ L.drop (x + M.length))
theorem cutS_length (L : List Ce) (x : Nat) : (cutS L x).length = L.length := by unfold cutS; split <;> simp
theorem overS_length {L : List Ce} {x : Nat} {M : List Ce} (h : x + M.length ≤ L.length) : (overS L x M).length = L.length := by simp [overS]; omega
theorem cAt_cutS (L : List Ce) (x i : Nat) : cAt (cutS L x) i = if x < L.length ∧ (cAt L x).wd = 2 ∧ (i = x ∨ i = x - 1) then blankS (cAt L i).p else cAt L i := by
  unfold cutS
  by_cases h : x < L.length ∧ (cAt L x).wd = 2
  · rw [if_pos h, cAt_set, cAt_set]
    simp only [List.length_set]
    by_cases h1 : i = x
    · subst h1
      rw [if_pos ⟨rfl, h.1⟩, if_pos ⟨h.1, h.2, .inl rfl⟩]
    · rw [if_neg (fun e => h1 e.1)]
      by_cases h2 : i = x - 1
      · subst h2
        rw [if_pos ⟨rfl, by omega⟩, if_pos ⟨h.1, h.2, .inr rfl⟩]
      · rw [if_neg (fun e => h2 e.1), if_neg (by omega)]
  · rw [if_neg h, if_neg (fun e => h ⟨e.1, e.2.1⟩)]
theorem cAt_overS {L : List Ce} {x : Nat} {M : List Ce} (h : x + M.length ≤ L.length) (i : Nat) : cAt (overS L x M) i = if x ≤ i ∧ i < x + M.length then cAt M (i - x) else cAt L i := by
  unfold overS
  rw [cAt_append, cAt_append, List.length_take, cAt_take, cAt_drop, Nat.min_eq_left (by omega)]
  by_cases h1 : i < x
  · simp only [h1, if_true]
    rw [if_neg (by omega)]
  · rw [if_neg h1]
    by_cases h2 : i < x + M.length
    · rw [if_pos (by omega), if_pos ⟨by omega, h2⟩]
    · rw [if_neg (by omega), if_neg (by omega)]
      congr 1
      omega

/-- The cells of a letter. -/
def lettS (r : Int) (p : Pn) : List Ce := if widthS r = 1 then [⟨r, 0, p⟩] else if widthS r = 2 then [⟨r, 1, p⟩, ⟨0, 2, p⟩] else []

/-- The code's Put, Erase, Insert and Delete, of a row that may be. -/
def putS (L : List Ce) (x r : Int) (p : Pn) : List Ce :=
  let k := (lettS r p).length
  if 0 ≤ x ∧ x < L.length ∧ 0 < k ∧ (k : Int) ≤ L.length - x then overS (cutS (cutS L x.toNat) (x.toNat + k)) x.toNat (lettS r p) else L
def eraseS (L : List Ce) (a b : Int) (p : Pn) : List Ce :=
  let f := (max a 0).toNat
  let t := (min b L.length).toNat
  if f < t then overS (cutS (cutS L f) t) f (List.replicate (t - f) (blankS p)) else L
def insertS (L : List Ce) (x n : Int) (p : Pn) : List Ce :=
  let k := (min n (L.length - x)).toNat
  let M := cutS (cutS L x.toNat) (L.length - k)
  if 0 ≤ x ∧ x < L.length ∧ 1 ≤ n then overS (overS M (x.toNat + k) ((M.drop x.toNat).take (L.length - (x.toNat + k)))) x.toNat (List.replicate k (blankS p)) else L
def deleteS (L : List Ce) (x n : Int) (p : Pn) : List Ce :=
  let k := (min n (L.length - x)).toNat
  let M := cutS (cutS L x.toNat) (x.toNat + k)
  if 0 ≤ x ∧ x < L.length ∧ 1 ≤ n then overS (overS M x.toNat (M.drop (x.toNat + k))) (L.length - k) (List.replicate k (blankS p)) else L

/-- A piece: a cell, and where it stood. -/
abbrev Pc := Ce × Int
def pAt (P : List Pc) (i : Nat) : Pc := P.getD i (ce0, 0)
/-- A piece that isn't whole any more. -/
def torn (P : List Pc) (i : Nat) : Bool :=
  decide (((pAt P i).1.wd = 1 ∧ (i + 1 = P.length ∨ (pAt P (i + 1)).1.wd ≠ 2 ∨ (pAt P (i + 1)).2 ≠ (pAt P i).2 + 1)) ∨
    ((pAt P i).1.wd = 2 ∧ (i = 0 ∨ (pAt P (i - 1)).1.wd ≠ 1 ∨ (pAt P (i - 1)).2 ≠ (pAt P i).2 - 1)))
def mendC (P : List Pc) (i : Nat) : Ce := if torn P i then blankS (pAt P i).1.p else (pAt P i).1
def mendS (P : List Pc) : List Ce := (List.range P.length).map (mendC P)
def piecesS (L : List Ce) : List Pc := (List.range L.length).map fun i => (cAt L i, (i : Int))
theorem mendS_length (P : List Pc) : (mendS P).length = P.length := by simp [mendS]
theorem piecesS_length (L : List Ce) : (piecesS L).length = L.length := by simp [piecesS]
theorem cAt_mendS {P : List Pc} {i : Nat} (h : i < P.length) : cAt (mendS P) i = mendC P i := by
  unfold cAt mendS
  simp [List.getD, h]
theorem pAt_piecesS {L : List Ce} {i : Nat} (h : i < L.length) : pAt (piecesS L) i = (cAt L i, (i : Int)) := by
  unfold pAt piecesS
  simp [List.getD, h]
theorem pAt_set (P : List Pc) (k : Nat) (c : Pc) (i : Nat) : pAt (P.set k c) i = if i = k ∧ i < P.length then c else pAt P i := by
  unfold pAt
  simp only [List.getD, List.getElem?_set]
  by_cases h : k = i
  · subst h
    by_cases h2 : k < P.length
    · simp [h2]
    · simp [h2]
  · simp [h, Ne.symm h]
theorem pAt_append (L M : List Pc) (i : Nat) : pAt (L ++ M) i = if i < L.length then pAt L i else pAt M (i - L.length) := by
  unfold pAt
  simp only [List.getD]
  by_cases h : i < L.length
  · rw [List.getElem?_append_left h, if_pos h]
  · rw [List.getElem?_append_right (by omega), if_neg h]
theorem pAt_take (L : List Pc) (k i : Nat) : pAt (L.take k) i = if i < k then pAt L i else (ce0, 0) := by
  unfold pAt
  simp only [List.getD, List.getElem?_take]
  split <;> simp
theorem pAt_drop (L : List Pc) (k i : Nat) : pAt (L.drop k) i = pAt L (k + i) := by
  unfold pAt
  simp [List.getD]
theorem pAt_replicate (n : Nat) (c : Pc) (i : Nat) : pAt (List.replicate n c) i = if i < n then c else (ce0, 0) := by
  unfold pAt
  simp only [List.getD, List.getElem?_replicate]
  split <;> simp
/-- What the reference makes of a row that may be. -/
def putR (L : List Ce) (x r : Int) (p : Pn) : List Pc :=
  if 0 ≤ x ∧ x < L.length ∧ widthS r = 1 then (piecesS L).set x.toNat (⟨r, 0, p⟩, -10)
  else if 0 ≤ x ∧ x < L.length - 1 ∧ widthS r = 2 then ((piecesS L).set x.toNat (⟨r, 1, p⟩, -10)).set (x.toNat + 1) (⟨0, 2, p⟩, -9)
  else piecesS L
def eraseR (L : List Ce) (a b : Int) (p : Pn) : List Pc := (List.range L.length).map fun (i : Nat) => if a ≤ (i : Int) ∧ (i : Int) < b then (blankS p, -10) else (cAt L i, (i : Int))
def insertR (L : List Ce) (x k : Nat) (p : Pn) : List Pc := (piecesS L).take x ++ (List.replicate k (blankS p, -10) ++ ((piecesS L).drop x).take (L.length - (x + k)))
def deleteR (L : List Ce) (x k : Nat) (p : Pn) : List Pc := (piecesS L).take x ++ ((piecesS L).drop (x + k) ++ List.replicate k (blankS p, -10))
theorem pAt_eraseR {L : List Ce} {a b : Int} {p : Pn} {i : Nat} (h : i < L.length) : pAt (eraseR L a b p) i = if a ≤ (i : Int) ∧ (i : Int) < b then (blankS p, -10) else (cAt L i, (i : Int)) := by
  unfold pAt eraseR
  simp [List.getD, h]
theorem eraseR_length (L : List Ce) (a b : Int) (p : Pn) : (eraseR L a b p).length = L.length := by simp [eraseR]
end Go.Proofs.Ytbjgjhhombalpaa
