/-
  Part 23 of what the laws of emul want: RowsSpec, RowsCut, RowsFits, RowsOwnF, WireNum.
-/
import Derived.Test.YtikhknnhmnopbaaDoorPj02
import Derived.Test.YtikhknnhmnopbaaDoorPj15
import Derived.Test.YtikhknnhmnopbaaDoorPj16
import Derived.Test.YtikhknnhmnopbaaDoorPj18
import Derived.Test.YtikhknnhmnopbaaDoorPj22
namespace Go.Proofs.YtikhknnhmnopbaaDoor
def okR (c : Ce) : Bool := decide (c.wd = 0) && decide (c.p.fg ≤ 256) && decide (c.p.bg ≤ 256)
noncomputable def fitsS (S : Sc) : Bool := rightSc S && decide (S.links = []) && decide (S.mouse = 0) && S.cells.all okR
def cellB (c : Ce) : List Int := numL c.r 4 ++ (numL c.p.fg 2 ++ (numL c.p.bg 2 ++ [c.p.st]))
def i32S (v : Int) : Int := if v < 2147483648 then v else v - 4294967296
def cellOf (d : List Int) : Ce := ⟨i32S (valL 0 (d.take 4)), 0, ⟨valL 0 ((d.drop 4).take 2), valL 0 ((d.drop 6).take 2), d.getD 8 0, 0⟩⟩
def okC (c : Ce) : Bool := cellMay c && decide (c.p.fg ≤ 256) && decide (c.p.bg ≤ 256)
def rowBy (c : Nat) (L : List Ce) (y : Nat) : List Int := (y : Int) :: (rowAt c L y).flatMap cellB
def unlike (c r : Nat) (L M : List Ce) : List Nat := (List.range r).filter fun y => decide (rowAt c L y ≠ rowAt c M y)
def diffS (base b : Sc) (fl : Int) : List Int :=
 [b.c, b.r, b.x, b.y, fl + (if b.hid = true then 1 else 0) + (if b.title ≠ base.title then 2 else 0)] ++ ((if b.title ≠ base.title then (b.title.length : Int) :: b.title else []) ++
  (((unlike b.c.toNat b.r.toNat base.cells b.cells).length : Int) :: (unlike b.c.toNat b.r.toNat base.cells b.cells).flatMap (rowBy b.c.toNat b.cells)))
noncomputable def fullS (b : Sc) : List Int × Int := if fitsS b = true then (diffS (blS b.c.toNat b.r.toNat) b 4, 0) else ([], 1)
noncomputable def encR (a b : Sc) : List Int × Int :=
 if fitsS a = true ∧ fitsS b = true then (if a.c = b.c ∧ a.r = b.r then (diffS a b 0, 0) else fullS b) else ([], 1)
def rdCells : Nat → List Int → Except Int (List Ce × List Int)
 | 0, d => .ok ([], d)
 | n + 1, d =>
  if d.length < 9 then .error 2
  else if okC (cellOf d) = true then
   match rdCells n (d.drop 9) with
   | .ok (L, t) => .ok (cellOf d :: L, t)
   | .error e => .error e
  else .error 3
def rdRows (c r : Nat) : Nat → Int → List Ce → List Int → Except Int (List Ce × List Int)
 | 0, _, L, d => .ok (L, d)
 | _ + 1, _, _, [] => .error 2
 | n + 1, last, L, y :: t =>
  if (r : Int) ≤ y ∨ y ≤ last then .error 3
  else match rdCells c t with
   | .ok (M, t') => rdRows c r n y (overS L (y.toNat * c) M) t'
   | .error e => .error e
def rdTitle (fl : Int) (old : List Int) (t : List Int) : Except Int (List Int × List Int) :=
 if fl / 2 % 2 = 1 then
  match t with
  | [] => .error 2
  | n :: t => if (t.length : Int) < n then .error 2 else .ok (t.take n.toNat, t.drop n.toNat)
 else .ok (old, t)
def rdRest (c r : Nat) (fl : Int) (s : Sc) (t : List Int) : Except Int Sc :=
 match rdTitle fl s.title t with
 | .error e => .error e
 | .ok (_, []) => .error 2
 | .ok (ti, n :: t) =>
  match rdRows c r n.toNat (-1) s.cells t with
  | .error e => .error e
  | .ok (L, []) => .ok { s with title := ti, cells := L }
  | .ok (_, _ :: _) => .error 6
noncomputable def applyS (a : Sc) (d : List Int) : Sc × Int :=
 if fitsS a = true then
  match d with
  | c :: r :: x :: y :: fl :: t =>
   if 7 < fl ∨ sizeOk c r = false then (scZero, 3)
   else if fl < 4 ∧ (c ≠ a.c ∨ r ≠ a.r) then (scZero, 15)
   else match rdRest c.toNat r.toNat fl { (if fl < 4 then a else blS c.toNat r.toNat) with x := x, y := y, hid := decide (fl % 2 = 1) } t with
    | .error e => (scZero, e)
    | .ok s => if fitsS s = true then (s, 0) else (scZero, 3)
  | _ => (scZero, 2)
 else (scZero, 1)
/-! ### What is told leads there -/
theorem width_range {r : Int} (h : widthS r ≠ 0) : 0 ≤ r ∧ r < 1114112 := by
 unfold widthS at h
 split at h
 · rename_i hm
   unfold mayS at hm
   simp at hm
   omega
 · exact absurd rfl h
theorem numL_at (x : Int) (h0 : 0 ≤ x) {s : Nat} (h1 : x < 256 ^ s) : valL 0 (numL x s) = x := by
 rw [valL_numL x h0, Int.emod_eq_of_lt h0 h1, Int.zero_mul, Int.zero_add]
theorem cellB_len (c : Ce) : (cellB c).length = 9 := by simp [cellB, numL_len]
structure FitC (c : Ce) : Prop where
 may : cellMay c = true
 wd : c.wd = 0
 fg0 : 0 ≤ c.p.fg
 fg : c.p.fg ≤ 256
 bg0 : 0 ≤ c.p.bg
 bg : c.p.bg ≤ 256
 lk : c.p.lk = 0
theorem FitC.rune {c : Ce} (h : FitC c) : 0 ≤ c.r ∧ c.r < 1114112 := by
 have hm := h.may
 unfold cellMay at hm
 rw [h.wd] at hm
 simp at hm
 exact width_range (by omega)
theorem unlike_at (c r : Nat) (L M : List Ce) (y : Nat) : y ∈ unlike c r L M ↔ y < r ∧ rowAt c L y ≠ rowAt c M y := by simp [unlike]
structure FitS (S : Sc) (c r : Nat) (LL : Rws) : Prop where
 ec : S.c = (c : Int)
 er : S.r = (r : Int)
 el : S.cells = LL.flatten
 gk : Gk c r LL
 lk : S.links = []
 mo : S.mouse = 0
 fit : ∀ y, y < r → ∀ x ∈ lAt LL y, FitC x
 ti : S.title.length ≤ 64
theorem fits_of {S : Sc} (h : fitsS S = true) (hp : PosC S.cells) : ∃ c r LL, FitS S c r LL := by
 unfold fitsS at h
 simp only [Bool.and_eq_true, decide_eq_true_eq, List.all_eq_true] at h
 obtain ⟨⟨⟨hR, hl⟩, hm⟩, hok⟩ := h
 have hR2 := hR
 unfold rightSc at hR2
 simp only [Bool.and_eq_true, decide_eq_true_eq] at hR2
 obtain ⟨⟨⟨⟨⟨⟨h1, h2⟩, h3⟩, h4⟩, h5⟩, h6⟩, h7⟩ := hR2
 obtain ⟨c, r, LL, ec, er, el, _, hg⟩ := ((gridMay_iff _ _ _).1 h1).parts
 rw [hl] at h2
 have hz := ord_zero h2
 refine ⟨c, r, LL, ec, er, el, hg, hl, hm, fun y hy x hx => ?_, h5⟩
 have hx2 : x ∈ S.cells := by
  rw [el]
  have hyl : y < LL.length := by rw [hg.box.len]; exact hy
  rw [lAt_lt hyl] at hx
  exact List.mem_flatten.2 ⟨_, List.getElem_mem _, hx⟩
 have ho := hok x hx2
 unfold okR at ho
 simp only [Bool.and_eq_true, decide_eq_true_eq] at ho
 obtain ⟨i, hi, rfl⟩ := List.getElem_of_mem hx
 have hat := (hg.ok y hy).at_ i hi
 have hpx := hp _ hx2
 exact ⟨by have := hat.1; rwa [cAt_lt hi] at this, ho.1.1, hpx.1, ho.1.2, hpx.2, ho.2, hz _ hx2⟩
theorem bl_fit {c r : Nat} (h1 : 1 ≤ c) (h2 : c ≤ 80) (h3 : 1 ≤ r) (h4 : r ≤ 24) : FitS (blS c r) c r (blankR c r) := by
 have hg := gk_blankE h1 h2 h3 h4
 refine ⟨rfl, rfl, rfl, hg, rfl, rfl, fun y hy x hx => ?_, Nat.zero_le _⟩
 have hyl : y < (blankR c r).length := by rw [hg.box.len]; exact hy
 have e : x = blankS pn0 := bl_mem x (List.mem_flatten.2 ⟨_, List.getElem_mem hyl, by rw [← lAt_lt hyl]; exact hx⟩)
 subst e
 have hm : cellMay (blankS pn0) = true := by
  have h := hg.ok y hy
  have hp : 0 < (lAt (blankR c r) y).length := by rw [hg.box.row y hy]; omega
  have := (h.at_ 0 hp).1
  rw [cAt_lt hp] at this
  have e2 : (lAt (blankR c r) y)[0] = blankS pn0 := bl_mem _ (List.mem_flatten.2 ⟨_, List.getElem_mem hyl, by rw [← lAt_lt hyl]; exact List.getElem_mem _⟩)
  rwa [e2] at this
 exact ⟨hm, rfl, by decide, by decide, by decide, by decide, rfl⟩
theorem fit_size {S : Sc} {c r : Nat} {LL : Rws} (h : FitS S c r LL) : sizeOk S.c S.r = true := by
 rw [h.ec, h.er]
 unfold sizeOk
 have h1 := h.gk.c1; have h2 := h.gk.c80; have h3 := h.gk.r1; have h4 := h.gk.r24
 exact decide_eq_true (by omega)
def Bad {α : Type} (x : Except Int α) : Prop := ∃ e : Int, e ≠ 0 ∧ x = .error e
def Cut {α : Type} (f : List Int → Except Int (α × List Int)) (d : List Int) (v : α) (t : List Int) : Prop :=
 ∃ m, m ≤ d.length ∧ t = d.drop m ∧ ∀ k, (k < m → Bad (f (d.take k))) ∧ (m ≤ k → f (d.take k) = .ok (v, t.take (k - m)))
theorem cellOf_take {d : List Int} {k : Nat} (h : 9 ≤ k) : cellOf (d.take k) = cellOf d := by
 unfold cellOf
 have h1 : (d.take k).take 4 = d.take 4 := by rw [List.take_take, Nat.min_eq_left (by omega)]
 have h2 : ((d.take k).drop 4).take 2 = (d.drop 4).take 2 := by rw [List.drop_take, List.take_take, Nat.min_eq_left (by omega)]
 have h3 : ((d.take k).drop 6).take 2 = (d.drop 6).take 2 := by rw [List.drop_take, List.take_take, Nat.min_eq_left (by omega)]
 have h4 : (d.take k).getD 8 0 = d.getD 8 0 := by simp only [List.getD_eq_getElem?_getD, List.getElem?_take]; rw [if_pos (by omega)]
 rw [h1, h2, h3, h4]
theorem rdCells_bad : ∀ (n : Nat) (d : List Int) (e : Int), rdCells n d = .error e → e ≠ 0
 | 0, d, e, h => by simp [rdCells] at h
 | n + 1, d, e, h => by
  unfold rdCells at h
  split at h
  · injection h with h; omega
  · split at h
    · split at h
      · cases h
      · rename_i hr
        injection h with h
        subst h
        exact rdCells_bad n _ _ hr
    · injection h with h; omega
theorem rdCells_cut : ∀ (n : Nat) (d : List Int) (L : List Ce) (t : List Int), rdCells n d = .ok (L, t) → Cut (rdCells n) d L t
 | 0, d, L, t, h => by
  unfold rdCells at h
  injection h with h
  injection h with h1 h2
  subst h1 h2
  exact ⟨0, Nat.zero_le _, rfl, fun k => ⟨fun h => by omega, fun _ => rfl⟩⟩
 | n + 1, d, L, t, h => by
  unfold rdCells at h
  split at h
  · cases h
  · rename_i hl
    split at h
    · rename_i hok
      split at h
      · rename_i L' t' hr
        injection h with h
        injection h with h1 h2
        subst h1 h2
        obtain ⟨m, hm, ht, hk⟩ := rdCells_cut n _ _ _ hr
        rw [List.length_drop] at hm
        refine ⟨9 + m, by omega, by rw [ht, List.drop_drop], fun k => ⟨fun h => ?_, fun h => ?_⟩⟩
        · unfold rdCells
          by_cases h9 : k < 9
          · rw [if_pos (by rw [List.length_take]; omega)]
            exact ⟨2, by omega, rfl⟩
          · rw [if_neg (by rw [List.length_take]; omega), cellOf_take (by omega), if_pos hok, List.drop_take]
            obtain ⟨e, he, hb⟩ := (hk (k - 9)).1 (by omega)
            rw [hb]
            exact ⟨e, he, rfl⟩
        · unfold rdCells
          rw [if_neg (by rw [List.length_take]; omega), cellOf_take (by omega), if_pos hok, List.drop_take, (hk (k - 9)).2 (by omega)]
          simp only
          rw [show k - 9 - m = k - (9 + m) by omega]
      · cases h
    · cases h
theorem rdRows_cut (c r : Nat) : ∀ (n : Nat) (last : Int) (L : List Ce) (d : List Int) (L' : List Ce) (t : List Int), rdRows c r n last L d = .ok (L', t) → Cut (rdRows c r n last L) d L' t
 | 0, last, L, d, L', t, h => by
  unfold rdRows at h
  injection h with h
  injection h with h1 h2
  subst h1 h2
  exact ⟨0, Nat.zero_le _, rfl, fun k => ⟨fun h => by omega, fun _ => by unfold rdRows; rfl⟩⟩
 | n + 1, last, L, [], L', t, h => by simp [rdRows] at h
 | n + 1, last, L, y :: d, L', t, h => by
  unfold rdRows at h
  split at h
  · cases h
  · rename_i hy
    split at h
    · rename_i M t1 hr
      obtain ⟨m, hm, ht, hk⟩ := rdCells_cut c _ _ _ hr
      obtain ⟨m2, hm2, ht2, hk2⟩ := rdRows_cut c r n _ _ _ _ _ h
      subst ht
      rw [List.length_drop] at hm2
      refine ⟨1 + m + m2, by rw [List.length_cons]; omega, by rw [ht2, List.drop_drop, show 1 + m + m2 = (m + m2) + 1 by omega, List.drop_succ_cons], fun k => ⟨fun h => ?_, fun h => ?_⟩⟩
      · cases k with
        | zero => exact ⟨2, by omega, by unfold rdRows; rfl⟩
        | succ k =>
         rw [List.take_succ_cons]
         unfold rdRows
         rw [if_neg hy]
         by_cases h2 : k < m
         · obtain ⟨e, he, hb⟩ := (hk k).1 h2
           rw [hb]
           exact ⟨e, he, rfl⟩
         · rw [(hk k).2 (by omega)]
           simp only
           exact (hk2 (k - m)).1 (by omega)
      · obtain ⟨k, rfl⟩ : ∃ j, k = j + 1 := ⟨k - 1, by omega⟩
        rw [List.take_succ_cons]
        unfold rdRows
        rw [if_neg hy, (hk k).2 (by omega)]
        simp only
        rw [(hk2 (k - m)).2 (by omega), show k - m - m2 = k + 1 - (1 + m + m2) by omega]
    · cases h
theorem rdTitle_cut (fl : Int) (old d ti t : List Int) (h : rdTitle fl old d = .ok (ti, t)) : Cut (rdTitle fl old) d ti t := by
 unfold rdTitle at h
 split at h
 · rename_i hf
   cases d with
   | nil => cases h
   | cons n u =>
    simp only at h
    split at h
    · cases h
    · rename_i hn
      injection h with h
      injection h with h1 h2
      subst h1 h2
      refine ⟨1 + n.toNat, by rw [List.length_cons]; omega, by rw [Nat.add_comm, List.drop_succ_cons], fun k => ⟨fun h => ?_, fun h => ?_⟩⟩
      · unfold rdTitle
        rw [if_pos hf]
        cases k with
        | zero => exact ⟨2, by omega, rfl⟩
        | succ k =>
         rw [List.take_succ_cons]
         simp only
         rw [if_pos (by rw [List.length_take]; omega)]
         exact ⟨2, by omega, rfl⟩
      · obtain ⟨k, rfl⟩ : ∃ j, k = j + 1 := ⟨k - 1, by omega⟩
        unfold rdTitle
        rw [if_pos hf, List.take_succ_cons]
        simp only
        rw [if_neg (by rw [List.length_take]; omega), List.take_take, Nat.min_eq_left (by omega), List.drop_take, show k - n.toNat = k + 1 - (1 + n.toNat) by omega]
 · rename_i hf
   injection h with h
   injection h with h1 h2
   subst h1 h2
   exact ⟨0, Nat.zero_le _, rfl, fun k => ⟨fun h => by omega, fun _ => by unfold rdTitle; rw [if_neg hf]; rfl⟩⟩
theorem rest_cut {c r : Nat} {fl : Int} {s s' : Sc} {t : List Int} (h : rdRest c r fl s t = .ok s') {k : Nat} (hk : k < t.length) : Bad (rdRest c r fl s (t.take k)) := by
 unfold rdRest at h
 split at h
 · cases h
 · cases h
 · rename_i ti n u htit
   obtain ⟨m, hm, ht, hcut⟩ := rdTitle_cut _ _ _ _ _ htit
   split at h
   · cases h
   · rename_i L hrow
     obtain ⟨m2, hm2, ht2, hcut2⟩ := rdRows_cut _ _ _ _ _ _ _ _ hrow
     have hlu : u.length = m2 := by
      have := congrArg List.length ht2
      rw [List.length_drop, List.length_nil] at this
      omega
     have hlt : t.length = m + 1 + m2 := by
      have := congrArg List.length ht
      rw [List.length_drop, List.length_cons] at this
      omega
     unfold rdRest
     by_cases h1 : k < m
     · obtain ⟨e, he, hb⟩ := (hcut k).1 h1
       rw [hb]
       exact ⟨e, he, rfl⟩
     · rw [(hcut k).2 (by omega)]
       obtain ⟨j, rfl⟩ : ∃ j, k = m + j := ⟨k - m, by omega⟩
       rw [show m + j - m = j by omega]
       cases j with
       | zero => exact ⟨2, by omega, rfl⟩
       | succ j =>
        rw [List.take_succ_cons]
        simp only
        obtain ⟨e, he, hb⟩ := (hcut2 j).1 (by omega)
        rw [hb]
        exact ⟨e, he, rfl⟩
   · cases h
theorem rdRows_bad (c r : Nat) : ∀ (n : Nat) (last : Int) (L : List Ce) (d : List Int) (e : Int), rdRows c r n last L d = .error e → e ≠ 0
 | 0, _, _, d, e, h => by simp [rdRows] at h
 | n + 1, _, _, [], e, h => by
  unfold rdRows at h
  injection h with h; omega
 | n + 1, last, L, y :: d, e, h => by
  unfold rdRows at h
  split at h
  · injection h with h; omega
  · split at h
    · exact rdRows_bad c r n _ _ _ _ h
    · rename_i hr
      injection h with h
      subst h
      exact rdCells_bad _ _ _ hr
theorem rest_bad {c r : Nat} {fl : Int} {s : Sc} {t : List Int} {e : Int} (h : rdRest c r fl s t = .error e) : e ≠ 0 := by
 unfold rdRest at h
 split at h
 · rename_i e' ht
   injection h with h
   subst h
   unfold rdTitle at ht
   split at ht
   · split at ht
     · injection ht with ht; omega
     · split at ht
       · injection ht with ht; omega
       · cases ht
   · cases ht
 · injection h with h; omega
 · split at h
   · rename_i hr
     injection h with h
     subst h
     exact rdRows_bad _ _ _ _ _ _ _ hr
   · cases h
   · injection h with h; omega
theorem apply_or (a : Sc) (d : List Int) : (fitsS (applyS a d).1 = true ∧ (applyS a d).2 = 0) ∨ ((applyS a d).1 = scZero ∧ (applyS a d).2 ≠ 0) := by
 unfold applyS
 split
 · split
   · split
     · exact .inr ⟨rfl, by show (3 : Int) ≠ 0; omega⟩
     · split
       · exact .inr ⟨rfl, by show (15 : Int) ≠ 0; omega⟩
       · split
         · rename_i e hr
           exact .inr ⟨rfl, rest_bad hr⟩
         · split
           · rename_i hf
             exact .inl ⟨hf, rfl⟩
           · exact .inr ⟨rfl, by show (3 : Int) ≠ 0; omega⟩
   · exact .inr ⟨rfl, by show (2 : Int) ≠ 0; omega⟩
 · exact .inr ⟨rfl, by show (1 : Int) ≠ 0; omega⟩
theorem apply_fits {a : Sc} {d : List Int} (h : (applyS a d).2 = 0) : fitsS (applyS a d).1 = true := by
 rcases apply_or a d with h1 | h1
 · exact h1.1
 · exact absurd h h1.2
theorem apply_none {a : Sc} {d : List Int} (h : (applyS a d).2 ≠ 0) : (applyS a d).1 = scZero := by
 rcases apply_or a d with h1 | h1
 · exact absurd h1.2 h
 · exact h1.1
theorem apply_cut {a : Sc} {d : List Int} (h : (applyS a d).2 = 0) {k : Nat} (hk : k < d.length) : (applyS a (d.take k)).2 ≠ 0 := by
 unfold applyS at h
 split at h
 · rename_i fa
   split at h
   · rename_i c r x y fl t
     simp only [List.length_cons] at hk
     by_cases h5 : k < 5
     · unfold applyS
       rw [if_pos fa]
       have : k = 0 ∨ k = 1 ∨ k = 2 ∨ k = 3 ∨ k = 4 := by omega
       rcases this with rfl | rfl | rfl | rfl | rfl <;> (show (2 : Int) ≠ 0; omega)
     · obtain ⟨j, rfl⟩ : ∃ j, k = j + 5 := ⟨k - 5, by omega⟩
       split at h
       · exact absurd h (by show (3 : Int) ≠ 0; omega)
       · rename_i h1
         split at h
         · exact absurd h (by show (15 : Int) ≠ 0; omega)
         · rename_i h2
           split at h
           · rename_i e hr
             exact absurd h (rest_bad hr)
           · rename_i s hr
             obtain ⟨e, he, hb⟩ := rest_cut hr (k := j) (by omega)
             unfold applyS
             rw [if_pos fa]
             simp only [List.take_succ_cons]
             rw [if_neg h1, if_neg h2, hb]
             exact he
   · exact absurd h (by show (2 : Int) ≠ 0; omega)
 · exact absurd h (by show (1 : Int) ≠ 0; omega)
theorem still_there {a : Sc} (fa : fitsS a = true) {x y : Int} {hid : Bool} (hx : 0 ≤ x ∧ x < a.c) (hy : 0 ≤ y ∧ y < a.r) :
  fitsS { a with x := x, y := y, hid := hid } = true ∧ (encR a { a with x := x, y := y, hid := hid }).2 = 0 ∧ (encR a { a with x := x, y := y, hid := hid }).1 = [a.c, a.r, x, y, (if hid = true then 1 else 0), 0] := by
 have fb : fitsS { a with x := x, y := y, hid := hid } = true := by
  unfold fitsS rightSc at *
  simp only [Bool.and_eq_true, decide_eq_true_eq] at *
  obtain ⟨⟨⟨⟨⟨⟨⟨⟨⟨h1, h2⟩, h3⟩, h4⟩, h5⟩, h6⟩, h7⟩, h8⟩, h9⟩, h10⟩ := fa
  exact ⟨⟨⟨⟨⟨⟨⟨⟨⟨h1, h2⟩, ⟨hx.1, hx.2, hy.1, hy.2⟩⟩, h4⟩, h5⟩, h6⟩, h7⟩, h8⟩, h9⟩, h10⟩
 have hu : unlike a.c.toNat a.r.toNat a.cells a.cells = [] := by
  unfold unlike
  rw [List.filter_eq_nil_iff]
  intro z _
  simp
 refine ⟨fb, ?_, ?_⟩
 · unfold encR
   rw [if_pos ⟨fa, fb⟩, if_pos ⟨rfl, rfl⟩]
 · unfold encR
   rw [if_pos ⟨fa, fb⟩, if_pos ⟨rfl, rfl⟩]
   unfold diffS
   dsimp only
   rw [hu]
   simp
open Go.RowKit
theorem fits_no {S : Sc} (h : rightSc S = false ∨ S.links ≠ [] ∨ S.mouse ≠ 0 ∨ ∃ c ∈ S.cells, okR c = false) : fitsS S = false := by
 rw [Bool.eq_false_iff]
 intro e
 unfold fitsS at e
 simp only [Bool.and_eq_true, decide_eq_true_eq, List.all_eq_true] at e
 obtain ⟨⟨⟨h1, h2⟩, h3⟩, h4⟩ := e
 rcases h with h | h | h | ⟨c, hc, h⟩
 · rw [h1] at h; cases h
 · exact h h2
 · exact h h3
 · rw [h4 c hc] at h; cases h
theorem fits_yes {S : Sc} (h1 : rightSc S = true) (h2 : S.links = []) (h3 : S.mouse = 0) (h4 : ∀ c ∈ S.cells, okR c = true) : fitsS S = true := by
 unfold fitsS
 simp only [Bool.and_eq_true, decide_eq_true_eq, List.all_eq_true]
 exact ⟨⟨⟨h1, h2⟩, h3⟩, h4⟩
set_option maxHeartbeats 6400000 in
set_option maxRecDepth 100000 in
theorem rFits_any {s : ScR} {S : Sc} {w : World} (h : ScIn w s S) (h0 : 0 ≤ S.mouse) (hn : s.n ≤ 60000) (hm : s.m ≤ 60000) :
  Calls Tryd.prog 15 #[.agg (scrA s)] w fun e w' => e = .returned (.bool (fitsS S)) ∧ Below w.heap.size w w' := by
 obtain ⟨B, hB⟩ : ∃ B, fitsS S = B := ⟨_, rfl⟩
 rw [hB]
 have HBB := Lib.hid hB
 have HI := Lib.hid h
 have HN := Lib.hid (And.intro hn hm)
 have HM0 := Lib.hid (show 0 ≤ s.mouse from by rw [← h.mouse]; exact h0)
 obtain ⟨b, hb⟩ : ∃ b, b = w.heap.size := ⟨_, rfl⟩
 obtain ⟨w1, hw1⟩ : ∃ w1, w1 = w.alloc (.cells (scrA s) 25) := ⟨_, rfl⟩
 have H1 := Lib.hid (show Sx w1 b s ∧ Below w.heap.size w w1 from by
  rw [hw1, hb]
  exact ⟨Sx.new w s, (Below.refl _ _).alloc (Nat.le_refl _) _⟩)
 have PR := Lib.hid (refRightS_any (h.below H1.out.2) hn hm)
 clear h h0 hm hB
 obtain ⟨a0, a1, a2, a3, a4, a5, a6, a7, a8, _⟩ := sx_cells H1.out.1
 unfold scrA at hw1 PR ⊢
 go_enter Tryd.func15, Tryd.ntmps15
 go_upto_region 1 with fail
 rw [← hw1, ← hb]
 clear hw1 hb
 go_wp2_with fail
 refine PR.out.mono ?_
 rintro e w3 ⟨rfl, hb3⟩
 have H3 := Lib.hid (show Sx w3 b s ∧ Below w.heap.size w w3 from ⟨H1.out.1.below hb3, H1.out.2.trans (hb3.mono H1.out.2.size)⟩)
 clear hb3 H1 PR a0 a1 a2 a3 a4 a5 a6 a7 a8
 obtain ⟨a0, a1, a2, a3, a4, a5, a6, a7, a8, _⟩ := sx_cells H3.out.1
 cases hR : rightSc S
 · have hB : B = false := by rw [← HBB.out]; exact fits_no (.inl hR)
   subst hB
   clear hR
   go_wp2_with fail
   go_ret
   exact ⟨rfl, H3.out.2⟩
 have HR := Lib.hid hR
 clear hR
 by_cases hm : 0 < s.m
 · have hB : B = false := by rw [← HBB.out]; exact fits_no (.inr (.inl fun e => by have := HI.out.links.len; rw [e] at this; simp at this; omega))
   subst hB
   go_wp2_with fail
   go_ret
   exact ⟨rfl, H3.out.2⟩
 have HM := Lib.hid (show s.m = 0 by omega)
 have hm0 : ¬ (0 : Int) < (s.m : Int) := by omega
 clear hm
 by_cases ho : 0 < s.mouse
 · have hB : B = false := by rw [← HBB.out]; exact fits_no (.inr (.inr (.inl fun e => by rw [HI.out.mouse] at e; omega)))
   subst hB
   go_wp2_with fail
   go_ret
   exact ⟨rfl, H3.out.2⟩
 have HO := Lib.hid (show s.mouse = 0 by have := HM0.out; omega)
 go_wp2_with fail
 rename s.m = 0 => hq0
 clear a0 a1 a2 a3 a4 a5 a6 a7 a8 hq0 ho
 try clear hm0
 go_loopw [21] (fun i wr => ∃ k : Nat, k ≤ s.n ∧ i = .int .i64 k ∧ Sx wr b s ∧ Below w.heap.size w wr ∧ ∀ c ∈ S.cells.take k, okR c = true) (fun i _ => s.n - (intOf i).toNat)
 case atStart => exact ⟨0, Nat.zero_le _, rfl, H3.out.1, H3.out.2, fun c hc => by cases hc⟩
 case round =>
  obtain ⟨k, hk, rfl, hx, hbw, hpl⟩ := hrel
  have Y := Lib.hid (And.intro hx (And.intro hbw hpl))
  clear hx hbw hpl H3
  by_cases hlt : k < s.n
  · have hkl : (k : Int) < (s.n : Int) := by omega
    have HKS := Lib.hid (show k < S.cells.length from by rw [HI.out.cells.len]; exact hlt)
    obtain ⟨ad, had⟩ := HI.out.cells.addr (by omega)
    obtain ⟨x, hx⟩ : ∃ x, x = cAt S.cells k := ⟨_, rfl⟩
    have hv := HI.out.cells.below Y.out.2.1
    rw [had] at hv
    have hsx := hv.six hlt
    rw [← hx] at hsx
    obtain ⟨d0, d1, d2, d3, d4, d5⟩ := hsx
    have HX := Lib.hid hx
    have c2 := (sx_cells Y.out.1).c2
    rw [had] at c2
    clear hv hx had
    have HNO := Lib.hid (show okR x = false → B = false from fun e => by rw [← HBB.out]; exact fits_no (.inr (.inr (.inr ⟨x, by rw [HX.out]; exact cAt_mem HKS.out, e⟩))))
    by_cases h1 : x.wd = 0
    rotate_left
    · have hB : B = false := HNO.out (by unfold okR; rw [decide_eq_false h1]; rfl)
      subst hB
      have h1b : (x.wd != 0) = true := by simpa using h1
      go_wp2_with fail
      go_ret
      exact ⟨rfl, Y.out.2.1⟩
    have h1b : (x.wd != 0) = false := by simpa using h1
    by_cases h2 : x.p.fg ≤ 256
    rotate_left
    · have hB : B = false := HNO.out (by unfold okR; rw [decide_eq_false h2]; simp)
      subst hB
      have h2b : (256 : Int) < x.p.fg := by omega
      clear h1
      go_wp2_with fail
      go_ret
      exact ⟨rfl, Y.out.2.1⟩
    have h2b : ¬ (256 : Int) < x.p.fg := by omega
    by_cases h3 : x.p.bg ≤ 256
    rotate_left
    · have hB : B = false := HNO.out (by unfold okR; rw [decide_eq_false h3]; simp)
      subst hB
      have h3b : (256 : Int) < x.p.bg := by omega
      clear h1 h2
      go_wp2_with fail
      go_ret
      exact ⟨rfl, Y.out.2.1⟩
    have h3b : ¬ (256 : Int) < x.p.bg := by omega
    have HPL := Lib.hid (show ∀ c ∈ S.cells.take (k + 1), okR c = true from fun c hc => by
     rw [List.take_add_one, getElem?_cAt HKS.out] at hc
     rcases List.mem_append.1 hc with hc | hc
     · exact Y.out.2.2 c hc
     · obtain rfl : c = cAt S.cells k := by simpa using hc
       rw [← HX.out]
       unfold okR
       rw [decide_eq_true h1, decide_eq_true h2, decide_eq_true h3]; rfl)
    clear h1 h2 h3
    go_wp2_with fail
    go_roundw
    case rel => exact ⟨k + 1, by omega, by go_num, Y.out.1, Y.out.2.1, HPL.out⟩
    case measure => simp [intOf]; omega
  · have e : k = s.n := by omega
    subst e
    have hB : B = true := by
     rw [← HBB.out]
     have := Y.out.2.2
     rw [List.take_of_length_le (by rw [HI.out.cells.len]; exact Nat.le_refl _)] at this
     exact fits_yes HR.out (List.eq_nil_of_length_eq_zero (by rw [HI.out.links.len]; exact HM.out)) (by rw [HI.out.mouse]; exact HO.out) this
    subst hB
    clear hlt
    go_wp2_with fail
    go_ret
    exact ⟨rfl, Y.out.2.1⟩
open Go.RowKit
set_option maxHeartbeats 3200000 in
set_option maxRecDepth 100000 in
theorem beyondR_any (x : Ce) (w : World) : Calls Tryd.prog 25 #[.agg (ceA x)] w fun e w' => e = .returned (.bool (!okR x)) ∧ Below w.heap.size w w' := by
 obtain ⟨B, hB⟩ : ∃ B, okR x = B := ⟨_, rfl⟩
 rw [hB]
 have HB := Lib.hid hB
 clear hB
 obtain ⟨b, hb⟩ : ∃ b, b = w.heap.size := ⟨_, rfl⟩
 obtain ⟨w1, hw1⟩ : ∃ w1, w1 = w.alloc (.cells (ceA x) 51) := ⟨_, rfl⟩
 have H1 := Lib.hid (show Cb w1 b x ∧ Below w.heap.size w w1 from by
  rw [hw1, hb]
  exact ⟨Cb.new w x, (Below.refl _ _).alloc (Nat.le_refl _) _⟩)
 obtain ⟨d0, d1, d2, d3, d4, d5⟩ := H1.out.1.all
 unfold ceA at hw1 ⊢
 go_enter Tryd.func25, Tryd.ntmps25
 go_upto_region 1 with fail
 rw [← hw1, ← hb]
 clear hw1 hb
 by_cases h1 : x.wd = 0
 rotate_left
 · have hB : B = false := by rw [← HB.out]; unfold okR; rw [decide_eq_false h1]; rfl
   subst hB
   have h1b : (x.wd != 0) = true := by simpa using h1
   clear h1
   go_wp2_with fail
   go_ret
   exact ⟨rfl, H1.out.2⟩
 have h1b : (x.wd != 0) = false := by simpa using h1
 by_cases h2 : x.p.fg ≤ 256
 rotate_left
 · have hB : B = false := by rw [← HB.out]; unfold okR; rw [decide_eq_false h2]; simp
   subst hB
   have h2b : (256 : Int) < x.p.fg := by omega
   clear h1 h2
   go_wp2_with fail
   go_ret
   exact ⟨rfl, H1.out.2⟩
 have h2b : ¬ (256 : Int) < x.p.fg := by omega
 by_cases h3 : x.p.bg ≤ 256
 rotate_left
 · have hB : B = false := by rw [← HB.out]; unfold okR; rw [decide_eq_false h3]; simp
   subst hB
   have h3b : (256 : Int) < x.p.bg := by omega
   clear h1 h2 h3
   go_wp2_with fail
   go_ret
   exact ⟨rfl, H1.out.2⟩
 have h3b : ¬ (256 : Int) < x.p.bg := by omega
 have hB : B = true := by
  rw [← HB.out]
  unfold okR
  rw [decide_eq_true h1, decide_eq_true h2, decide_eq_true h3]; rfl
 subst hB
 clear h1 h2 h3
 go_wp2_with fail
 go_ret
 exact ⟨rfl, H1.out.2⟩
set_option maxHeartbeats 3200000 in
set_option maxRecDepth 100000 in
theorem indexR_any {w : World} {A : Option Addr} {n c : Nat} {L : List Ce} (h : Vs ceV w A n L) (hn : n ≤ 1000000) (F : Value) (hF : F = .func (.func 25) #[] #[]) :
  Calls Tryd.prog 42 #[.slice A n c, F] w fun e w' => ∃ i : Int, e = .returned (.int .i64 i) ∧ ((L.all okR = true) ∧ i = -1 ∨ L.all okR = false ∧ 0 ≤ i) ∧ Below w.heap.size w w' := by
 subst hF
 have H := Lib.hid h
 clear h
 go_enter Tryd.func42, Tryd.ntmps42
 go_wp2_with fail
 go_loopw [8] (fun i wr => ∃ (k : Nat), k ≤ n ∧ i = .int .i64 k ∧ Below w.heap.size w wr ∧ ∀ c ∈ L.take k, okR c = true) (fun i _ => n - (intOf i).toNat)
 case atStart => exact ⟨0, Nat.zero_le _, rfl, Below.refl _ _, fun c hc => by cases hc⟩
 case round =>
  obtain ⟨k, hk, rfl, hbel, hall⟩ := hrel
  have X := Lib.hid (And.intro hbel hall)
  clear hbel hall
  by_cases hlt : k < n
  · obtain ⟨ad, hA⟩ := H.out.addr (by omega)
    subst hA
    have hsx := (H.out.below X.out.1).six hlt
    have HKL := Lib.hid (show k < L.length from by rw [H.out.len]; exact hlt)
    obtain ⟨z, hz⟩ : ∃ z, z = cAt L k := ⟨_, rfl⟩
    rw [← hz] at hsx
    obtain ⟨d0, d1, d2, d3, d4, d5⟩ := hsx
    have HZ := Lib.hid hz
    clear hz
    go_wp2_with fail
    refine (beyondR_any z wr).mono ?_
    rintro e w1 ⟨rfl, hb1⟩
    have HB1 := Lib.hid (X.out.1.trans (hb1.mono X.out.1.size))
    clear hb1 d0 d1 d2 d3 d4 d5
    cases hok : okR z
    · have HF := Lib.hid (show L.all okR = false from by
       rw [Bool.eq_false_iff]
       intro hh
       have := List.all_eq_true.1 hh z (by rw [HZ.out]; exact cAt_mem HKL.out)
       rw [hok] at this; cases this)
      clear hok
      go_wp2_with fail
      go_ret
      exact ⟨(k : Int), rfl, .inr ⟨HF.out, by omega⟩, HB1.out⟩
    · have HF := Lib.hid (show ∀ c ∈ L.take (k + 1), okR c = true from fun c hc => by
       rw [List.take_add_one, getElem?_cAt HKL.out] at hc
       rcases List.mem_append.1 hc with hc | hc
       · exact X.out.2 c hc
       · obtain rfl : c = cAt L k := by simpa using hc
         rw [← HZ.out, hok])
      clear hok
      go_wp2_with fail
      go_roundw
      case rel => exact ⟨k + 1, by omega, by go_num, HB1.out, HF.out⟩
      case measure => simp [intOf]; omega
  · obtain rfl : k = n := by omega
    have HF := Lib.hid (show L.all okR = true from by
     have := X.out.2
     rw [List.take_of_length_le (by rw [H.out.len]; exact Nat.le_refl _)] at this
     exact List.all_eq_true.2 this)
    go_wp2_with fail
    go_ret
    exact ⟨-1, rfl, .inl ⟨HF.out, rfl⟩, X.out.1⟩
theorem containsR_any {w : World} {A : Option Addr} {n c : Nat} {L : List Ce} (h : Vs ceV w A n L) (hn : n ≤ 1000000) (F : Value) (hF : F = .func (.func 25) #[] #[]) :
  Calls Tryd.prog 24 #[.slice A n c, F] w fun e w' => e = .returned (.bool (!L.all okR)) ∧ Below w.heap.size w w' := by
 have X := Lib.hid (indexR_any (c := c) h hn F hF)
 clear h hF
 obtain ⟨K, hK⟩ : ∃ K, L.all okR = K := ⟨_, rfl⟩
 rw [hK] at X ⊢
 clear hK
 go_enter Tryd.func24, Tryd.ntmps24
 go_wp2_with fail
 refine X.out.mono ?_
 rintro e w1 ⟨i, rfl, hi, hbel⟩
 have HB := Lib.hid hbel
 clear hbel X
 rcases hi with ⟨rfl, rfl⟩ | ⟨rfl, h2⟩
 · go_wp2_with fail
   go_ret
   exact ⟨rfl, HB.out⟩
 · go_wp2_with fail
   go_ret
   exact ⟨rfl, HB.out⟩
set_option maxHeartbeats 6400000 in
set_option maxRecDepth 100000 in
theorem cFits_any {s : ScR} {S : Sc} {w : World} (hT : Tabs w) (h : ScIn w s S) (hn : s.n ≤ 60000) (hm : s.m ≤ 60000) :
  Calls Tryd.prog 14 #[.agg (scrA s)] w fun e w' => e = .returned (.bool (fitsS S)) ∧ Below w.heap.size w w' := by
 obtain ⟨B, hB⟩ : ∃ B, fitsS S = B := ⟨_, rfl⟩
 rw [hB]
 have HBB := Lib.hid hB
 have HI := Lib.hid h
 have HN := Lib.hid (And.intro hn hm)
 obtain ⟨b, hb⟩ : ∃ b, b = w.heap.size := ⟨_, rfl⟩
 obtain ⟨w1, hw1⟩ : ∃ w1, w1 = w.alloc (.cells (scrA s) 25) := ⟨_, rfl⟩
 have H1 := Lib.hid (show Sx w1 b s ∧ Below w.heap.size w w1 from by
  rw [hw1, hb]
  exact ⟨Sx.new w s, (Below.refl _ _).alloc (Nat.le_refl _) _⟩)
 have PR := Lib.hid (rightT_any (hT.below H1.out.2 (Nat.le_refl _)) (h.below H1.out.2) hn hm)
 clear h hm hB hn hT
 obtain ⟨a0, a1, a2, a3, a4, a5, a6, a7, a8, _⟩ := sx_cells H1.out.1
 unfold scrA at hw1 PR ⊢
 go_enter Tryd.func14, Tryd.ntmps14
 go_upto_region 1 with fail
 rw [← hw1, ← hb]
 clear hw1 hb
 go_wp2_with fail
 refine PR.out.mono ?_
 rintro e w3 ⟨rfl, hb3⟩
 have H3 := Lib.hid (show Sx w3 b s ∧ Below w.heap.size w w3 from ⟨H1.out.1.below hb3, H1.out.2.trans (hb3.mono H1.out.2.size)⟩)
 clear hb3 H1 PR a0 a1 a2 a3 a4 a5 a6 a7 a8
 obtain ⟨a0, a1, a2, a3, a4, a5, a6, a7, a8, _⟩ := sx_cells H3.out.1
 clear a0 a1 a3 a4 a5 a7
 cases hR : rightSc S
 · have hB : B = false := by rw [← HBB.out]; exact fits_no (.inl hR)
   subst hB
   clear hR
   go_wp2_with fail
   go_ret
   exact ⟨rfl, H3.out.2⟩
 have HR := Lib.hid hR
 clear hR
 by_cases hm : s.m = 0
 rotate_left
 · have hB : B = false := by rw [← HBB.out]; exact fits_no (.inr (.inl fun e => by have := HI.out.links.len; rw [e] at this; simp at this; omega))
   subst hB
   have hmb : ¬ ((s.m : Int) = 0) := by omega
   go_wp2_with fail
   go_ret
   exact ⟨rfl, H3.out.2⟩
 have HM := Lib.hid hm
 by_cases ho : s.mouse = 0
 rotate_left
 · have hB : B = false := by rw [← HBB.out]; exact fits_no (.inr (.inr (.inl fun e => by rw [HI.out.mouse] at e; omega)))
   subst hB
   have hmb : (s.m : Int) = 0 := by omega
   clear hm
   go_wp2_with fail
   go_ret
   exact ⟨rfl, H3.out.2⟩
 have HO := Lib.hid ho
 have hmb : (s.m : Int) = 0 := by omega
 clear hm
 have PC := Lib.hid (containsR_any (c := s.k) (HI.out.cells.below H3.out.2) (by have := HN.out; omega) _ rfl)
 go_wp2_with fail
 refine PC.out.mono ?_
 rintro e w4 ⟨rfl, hb4⟩
 have hB : B = S.cells.all okR := by
  rw [← HBB.out]
  cases hK : S.cells.all okR
  · refine fits_no (.inr (.inr (.inr ?_)))
    rw [List.all_eq_false] at hK
    obtain ⟨c, hc, hk⟩ := hK
    exact ⟨c, hc, by simpa using hk⟩
  · exact fits_yes HR.out (List.eq_nil_of_length_eq_zero (by rw [HI.out.links.len]; exact HM.out)) (by rw [HI.out.mouse]; exact HO.out) (List.all_eq_true.1 hK)
 have H4 := Lib.hid (H3.out.2.trans (hb4.mono H3.out.2.size))
 generalize S.cells.all okR = K at hB ⊢
 subst hB
 clear hb4 PC
 cases B
 · go_wp2_with fail
   go_ret
   exact ⟨rfl, H4.out⟩
 · go_wp2_with fail
   go_ret
   exact ⟨rfl, H4.out⟩
open Go.RowKit
def numS (n size : Int) : List Int := if 1 ≤ size ∧ size ≤ 8 then numL n size.toNat else []
theorem num_any (n size : Int) (w : World) (_ : 0 ≤ n) (_ : n ≤ 18446744073709551615) :
  Calls Tryd.prog 58 #[.int .u64 n, .int .i64 size] w fun e w' => ∃ v, e = .returned v ∧ Made 5 (numS n size) w v w' := by
 obtain ⟨i0, hi, hz0, hz1, hz2⟩ := info_parts info8
 by_cases hs : 1 ≤ size ∧ size ≤ 8
 · obtain ⟨s, rfl⟩ : ∃ s : Nat, size = s := ⟨size.toNat, by omega⟩
   have hb : decide (1 ≤ (s : Int) ∧ (s : Int) ≤ 8) = true := by simpa using hs
   obtain ⟨hs1, hs2⟩ := hs
   go_enter Tryd.func58, Tryd.ntmps58
   go_wp2_with (first
    | (go_at_call 84; refine (sizeMay_any _ _).mono ?_; rintro e w' ⟨rfl, rfl⟩)
    | (at_make; refine wpList_make_full _ rfl _ _ 29 rfl w.heap.size 5 i0 (.int .u8 0) 1 Tryd.underlying29 hi hz0 hz1 .i64 .i64 (s : Int) (s : Int) s rfl rfl rfl rfl (by rw [hz2]; omega) (by unfold maxLen; omega) (Nat.le_refl _) ?_; intro w1 hown hg))
   have hbel : Below w.heap.size w w1 := Below.grown (Below.refl _ _) hg (Nat.le_refl _) (by intro k hk; cases hk)
   clear hg
   go_loopw [14] (fun i wr => ∃ k : Nat, k ≤ s ∧ i = .int .i64 k ∧ wr.ownsRow w.heap.size 5 1 (.slice (some ⟨w.heap.size, 0, none⟩) s s) s ((rowL s n k).map (Value.int .u8)) ∧ Below w.heap.size w wr) (fun i _ => s - (intOf i).toNat)
   case atStart => exact ⟨0, Nat.zero_le _, rfl, by simpa [rowL_zero, toList_madeCells_one, Value.cells] using hown, hbel⟩
   case round =>
    clear hown hbel
    obtain ⟨k, hk, rfl, hown, hbel⟩ := hrel
    by_cases hlt : k < s
    · have hc : wr.cell? ⟨w.heap.size, s - 1 - k, none⟩ = some (.int .u8 0) := by
       rw [hown.cellAt (s - 1 - k) (by omega), List.getElem?_map, rowL_at n hlt]; rfl
      have hf := hown.frozenAt (s - 1 - k)
      have hst := hown.stored (s - 1 - k) (.int .u8 (n / 2 ^ (8 * k) % 256))
      rw [← List.map_set, pow8, rowL_set n hlt] at hst
      have H1 := Lib.hid (And.intro hst.1 (hbel.setCell (p := ⟨w.heap.size, s - 1 - k, none⟩) (Nat.le_refl _) (.int .u8 (n / 256 ^ k % 256))))
      clear hst hown hbel
      go_wp2
      go_roundw
      case rel => exact ⟨k + 1, by omega, by go_num, by simpa only [pow8] using H1.out⟩
      case measure => simp [intOf]; omega
    · obtain rfl : k = s := by omega
      rw [rowL_full] at hown
      have H := Made.mk (w := w) hown hbel
      clear hown hbel
      go_wp2
      go_ret
      exact ⟨_, rfl, by unfold numS; rw [if_pos ⟨hs1, hs2⟩]; exact H⟩
 · have hb : decide (1 ≤ size ∧ size ≤ 8) = false := by simpa using hs
   go_enter Tryd.func58, Tryd.ntmps58
   go_wp2_with (first
    | (go_at_call 84; refine (sizeMay_any _ _).mono ?_; rintro e w' ⟨rfl, rfl⟩))
   go_ret
   exact ⟨_, rfl, by unfold numS; rw [if_neg hs]; exact Made.nil _ _⟩
set_option maxRecDepth 100000 in
theorem refNum_any (n size : Int) (w : World) (hn : 0 ≤ n) (hn' : n ≤ 18446744073709551615) :
  Calls Tryd.prog 62 #[.int .u64 n, .int .i64 size] w fun e w' => ∃ v, e = .returned v ∧ Made 5 (numS n size) w v w' := by
 obtain ⟨i0, hi, hz0, hz1, hz2⟩ := info_parts info8
 by_cases hs : 1 ≤ size ∧ size ≤ 8
 · obtain ⟨s, rfl⟩ : ∃ s : Nat, size = s := ⟨size.toNat, by omega⟩
   obtain ⟨hs1, hs2⟩ := hs
   go_enter Tryd.func62, Tryd.ntmps62
   go_wp2_with (first
    | (at_make; refine wpList_make_full _ rfl _ _ 29 rfl w.heap.size 5 i0 (.int .u8 0) 1 Tryd.underlying29 hi hz0 hz1 .i64 .i64 (s : Int) (s : Int) s rfl rfl rfl rfl (by rw [hz2]; omega) (by unfold maxLen; omega) (Nat.le_refl _) ?_; intro w1 hown hg))
   have hbel : Below w.heap.size w w1 := Below.grown (Below.refl _ _) hg (Nat.le_refl _) (by intro k hk; cases hk)
   clear hg
   go_loopw [6, 0] (fun i x wr => ∃ k : Nat, k ≤ s ∧ i = .int .i64 k ∧ x = .int .u64 (n / 256 ^ k) ∧ wr.ownsRow w.heap.size 5 1 (.slice (some ⟨w.heap.size, 0, none⟩) s s) s ((rowL s n k).map (Value.int .u8)) ∧ Below w.heap.size w wr) (fun i _ _ => s - (intOf i).toNat)
   case atStart => exact ⟨0, Nat.zero_le _, rfl, by simp, by simpa [rowL_zero, toList_madeCells_one, Value.cells] using hown, hbel⟩
   case round =>
    clear hown hbel
    obtain ⟨k, hk, rfl, rfl, hown, hbel⟩ := hrel
    by_cases hlt : k < s
    · have hc : wr.cell? ⟨w.heap.size, s - 1 - k, none⟩ = some (.int .u8 0) := by
       rw [hown.cellAt (s - 1 - k) (by omega), List.getElem?_map, rowL_at n hlt]; rfl
      have hf := hown.frozenAt (s - 1 - k)
      have hst := hown.stored (s - 1 - k) (.int .u8 (n / 256 ^ k % 256))
      rw [← List.map_set, rowL_set n hlt] at hst
      have H1 := Lib.hid (And.intro hst.1 (hbel.setCell (p := ⟨w.heap.size, s - 1 - k, none⟩) (Nat.le_refl _) (.int .u8 (n / 256 ^ k % 256))))
      have hd := div_step n k
      obtain ⟨hb1, hb2⟩ := div_bounds k hn hn'
      have HD := Lib.hid hd
      obtain ⟨x, hx⟩ : ∃ x, x = n / 256 ^ k := ⟨_, rfl⟩
      rw [← hx] at hb1 hb2 HD H1 ⊢
      clear hst hown hbel hd hx
      go_wp2
      go_roundw
      case rel => exact ⟨k + 1, by omega, by go_num, by rw [HD.out], H1.out⟩
      case measure => simp [intOf]; omega
    · obtain rfl : k = s := by omega
      rw [rowL_full] at hown
      have H := Made.mk (w := w) hown hbel
      clear hown hbel
      go_wp2
      go_ret
      exact ⟨_, rfl, by unfold numS; rw [if_pos ⟨hs1, hs2⟩]; exact H⟩
 · by_cases h1 : size < 1
   · go_enter Tryd.func62, Tryd.ntmps62
     go_wp2
     go_ret
     exact ⟨_, rfl, by unfold numS; rw [if_neg hs]; exact Made.nil _ _⟩
   · have h2 : 8 < size := by omega
     go_enter Tryd.func62, Tryd.ntmps62
     go_wp2
     go_ret
     exact ⟨_, rfl, by unfold numS; rw [if_neg hs]; exact Made.nil _ _⟩
end Go.Proofs.YtikhknnhmnopbaaDoor
