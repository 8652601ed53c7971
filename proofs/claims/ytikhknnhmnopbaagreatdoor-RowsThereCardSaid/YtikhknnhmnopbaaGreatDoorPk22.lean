/-
  Part 22 of what the laws of emul want: RowsSpec, RowsFits, RowsOwnF, WireNum, ParseRefDec, RowsCell.
-/
import Derived.LoopTactic
import Derived.Test.YtikhknnhmnopbaaGreatDoorPk02
import Derived.Test.YtikhknnhmnopbaaGreatDoorPk10
import Derived.Test.YtikhknnhmnopbaaGreatDoorPk14
import Derived.Test.YtikhknnhmnopbaaGreatDoorPk15
import Derived.Test.YtikhknnhmnopbaaGreatDoorPk17
import Derived.Test.YtikhknnhmnopbaaGreatDoorPk21
namespace Go.Proofs.YtikhknnhmnopbaaGreatDoor
def okR (c : Ce) : Bool := decide (c.wd = 0) && decide (c.p.fg ≤ 256) && decide (c.p.bg ≤ 256)
noncomputable def fitsS (S : Sc) : Bool := rightSc S && decide (S.links = []) && decide (S.mouse = 0) && S.cells.all okR
def cellB (c : Ce) : List Int := numL c.r 4 ++ (numL c.p.fg 2 ++ (numL c.p.bg 2 ++ [c.p.st]))
def i32S (v : Int) : Int := if v < 2147483648 then v else v - 4294967296
def cellOf (d : List Int) : Ce := ⟨i32S (valL 0 (d.take 4)), 0, ⟨valL 0 ((d.drop 4).take 2), valL 0 ((d.drop 6).take 2), d.getD 8 0, 0⟩⟩
def okC (c : Ce) : Bool := cellMay c && decide (c.p.fg ≤ 256) && decide (c.p.bg ≤ 256)
def rowBy (c : Nat) (L : List Ce) (y : Nat) : List Int := (y : Int) :: (rowAt c L y).flatMap cellB
def unlike (c r : Nat) (L M : List Ce) : List Nat := (List.range r).filter fun y => decide (rowAt c L y ≠ rowAt c M y)
def diffS (base b : Sc) (fl : Int) : List Int :=
 [b.c, b.r, b.x, b.y, fl + (if b.hid = true then 1 else 0) + (if b.title ≠ base.title then 2 else 0)] ++ ((if b.title ≠ base.title then (b.title.length : Int) :: b.title else []) ++
  (((unlike b.c.toNat b.r.toNat base.cells b.cells).length : Int) :: (unlike b.c.toNat b.r.toNat base.cells b.cells).flatMap (rowBy b.c.toNat b.cells)))
noncomputable def fullS (b : Sc) : List Int × Int := if fitsS b = true then (diffS (blS b.c.toNat b.r.toNat) b 4, 0) else ([], 1)
noncomputable def encR (a b : Sc) : List Int × Int :=
 if fitsS a = true ∧ fitsS b = true then (if a.c = b.c ∧ a.r = b.r then (diffS a b 0, 0) else fullS b) else ([], 1)
def rdCells : Nat → List Int → Except Int (List Ce × List Int)
 | 0, d => .ok ([], d)
 | n + 1, d =>
  if d.length < 9 then .error 2
  else if okC (cellOf d) = true then
   match rdCells n (d.drop 9) with
   | .ok (L, t) => .ok (cellOf d :: L, t)
   | .error e => .error e
  else .error 3
def rdRows (c r : Nat) : Nat → Int → List Ce → List Int → Except Int (List Ce × List Int)
 | 0, _, L, d => .ok (L, d)
 | _ + 1, _, _, [] => .error 2
 | n + 1, last, L, y :: t =>
  if (r : Int) ≤ y ∨ y ≤ last then .error 3
  else match rdCells c t with
   | .ok (M, t') => rdRows c r n y (overS L (y.toNat * c) M) t'
   | .error e => .error e
def rdTitle (fl : Int) (old : List Int) (t : List Int) : Except Int (List Int × List Int) :=
 if fl / 2 % 2 = 1 then
  match t with
  | [] => .error 2
  | n :: t => if (t.length : Int) < n then .error 2 else .ok (t.take n.toNat, t.drop n.toNat)
 else .ok (old, t)
def rdRest (c r : Nat) (fl : Int) (s : Sc) (t : List Int) : Except Int Sc :=
 match rdTitle fl s.title t with
 | .error e => .error e
 | .ok (_, []) => .error 2
 | .ok (ti, n :: t) =>
  match rdRows c r n.toNat (-1) s.cells t with
  | .error e => .error e
  | .ok (L, []) => .ok { s with title := ti, cells := L }
  | .ok (_, _ :: _) => .error 6
noncomputable def applyS (a : Sc) (d : List Int) : Sc × Int :=
 if fitsS a = true then
  match d with
  | c :: r :: x :: y :: fl :: t =>
   if 7 < fl ∨ sizeOk c r = false then (scZero, 3)
   else if fl < 4 ∧ (c ≠ a.c ∨ r ≠ a.r) then (scZero, 15)
   else match rdRest c.toNat r.toNat fl { (if fl < 4 then a else blS c.toNat r.toNat) with x := x, y := y, hid := decide (fl % 2 = 1) } t with
    | .error e => (scZero, e)
    | .ok s => if fitsS s = true then (s, 0) else (scZero, 3)
  | _ => (scZero, 2)
 else (scZero, 1)
/-! ### What is told leads there -/
theorem width_range {r : Int} (h : widthS r ≠ 0) : 0 ≤ r ∧ r < 1114112 := by
 unfold widthS at h
 split at h
 · rename_i hm
   unfold mayS at hm
   simp at hm
   omega
 · exact absurd rfl h
theorem numL_at (x : Int) (h0 : 0 ≤ x) {s : Nat} (h1 : x < 256 ^ s) : valL 0 (numL x s) = x := by
 rw [valL_numL x h0, Int.emod_eq_of_lt h0 h1, Int.zero_mul, Int.zero_add]
theorem cellB_len (c : Ce) : (cellB c).length = 9 := by simp [cellB, numL_len]
structure FitC (c : Ce) : Prop where
 may : cellMay c = true
 wd : c.wd = 0
 fg0 : 0 ≤ c.p.fg
 fg : c.p.fg ≤ 256
 bg0 : 0 ≤ c.p.bg
 bg : c.p.bg ≤ 256
 lk : c.p.lk = 0
theorem FitC.okc {c : Ce} (h : FitC c) : okC c = true := by
 unfold okC
 rw [h.may, decide_eq_true h.fg, decide_eq_true h.bg]; rfl
theorem FitC.rune {c : Ce} (h : FitC c) : 0 ≤ c.r ∧ c.r < 1114112 := by
 have hm := h.may
 unfold cellMay at hm
 rw [h.wd] at hm
 simp at hm
 exact width_range (by omega)
theorem cellOf_B {c : Ce} (h : FitC c) (t : List Int) : cellOf (cellB c ++ t) = c := by
 have hr := h.rune
 have l4 : (numL c.r 4).length = 4 := numL_len _ _
 have l2 : (numL c.p.fg 2).length = 2 := numL_len _ _
 have m2 : (numL c.p.bg 2).length = 2 := numL_len _ _
 have e1 : (cellB c ++ t).take 4 = numL c.r 4 := by
  unfold cellB; rw [List.append_assoc, List.take_append_of_le_length (by omega), List.take_of_length_le (by omega)]
 have d4 : (cellB c ++ t).drop 4 = numL c.p.fg 2 ++ (numL c.p.bg 2 ++ [c.p.st]) ++ t := by
  unfold cellB; rw [List.append_assoc, List.drop_append_of_le_length (by omega), List.drop_of_length_le (by omega), List.nil_append]
 have e2 : ((cellB c ++ t).drop 4).take 2 = numL c.p.fg 2 := by
  rw [d4, List.append_assoc, List.take_append_of_le_length (by omega), List.take_of_length_le (by omega)]
 have d6 : (cellB c ++ t).drop 6 = numL c.p.bg 2 ++ [c.p.st] ++ t := by
  rw [show (6 : Nat) = 4 + 2 from rfl, ← List.drop_drop, d4, List.append_assoc, List.drop_append_of_le_length (by omega), List.drop_of_length_le (by omega), List.nil_append]
 have e3 : ((cellB c ++ t).drop 6).take 2 = numL c.p.bg 2 := by
  rw [d6, List.append_assoc, List.take_append_of_le_length (by omega), List.take_of_length_le (by omega)]
 have e4 : (cellB c ++ t).getD 8 0 = c.p.st := by
  have : (cellB c ++ t).drop 8 = c.p.st :: t := by
   rw [show (8 : Nat) = 6 + 2 from rfl, ← List.drop_drop, d6, List.append_assoc, List.drop_append_of_le_length (by omega), List.drop_of_length_le (by omega), List.nil_append]; rfl
  have h2 := congrArg (fun l => l.getD 0 0) this
  simp only [List.getD_eq_getElem?_getD, List.getElem?_drop, Nat.add_zero] at h2
  simpa [List.getD_eq_getElem?_getD] using h2
 have hf := h.fg; have hf0 := h.fg0; have hb := h.bg; have hb0 := h.bg0
 unfold cellOf
 rw [e1, e2, e3, e4, numL_at c.r hr.1 (by show c.r < 4294967296; omega), numL_at c.p.fg hf0 (by show c.p.fg < 65536; omega), numL_at c.p.bg hb0 (by show c.p.bg < 65536; omega)]
 have hw := h.wd
 have hl := h.lk
 obtain ⟨r, wd, fg, bg, st, lk⟩ := c
 simp only at hw hl hr ⊢
 subst hw hl
 unfold i32S
 rw [if_pos (by omega)]
theorem rdCells_B : ∀ (L : List Ce) (t : List Int), (∀ c ∈ L, FitC c) → rdCells L.length (L.flatMap cellB ++ t) = .ok (L, t)
 | [], t, _ => rfl
 | c :: L, t, h => by
  have hc := h c (by simp)
  have ih := rdCells_B L t fun x hx => h x (by simp [hx])
  rw [List.flatMap_cons, List.append_assoc, List.length_cons]
  unfold rdCells
  rw [if_neg (by rw [List.length_append, cellB_len]; omega), cellOf_B hc, if_pos hc.okc, List.drop_append_of_le_length (by rw [cellB_len]; omega), List.drop_of_length_le (by rw [cellB_len]; omega), List.nil_append, ih]
def putsS (MM : Rws) (ys : List Nat) (LL : Rws) : Rws := ys.foldl (fun LL y => LL.set y (lAt MM y)) LL
theorem puts_box {c r : Nat} {MM : Rws} (hM : Box c r MM) : ∀ (ys : List Nat) {LL : Rws}, (∀ y ∈ ys, y < r) → Box c r LL → Box c r (putsS MM ys LL)
 | [], _, _, h => h
 | y :: ys, LL, hy, h => puts_box hM ys (fun z hz => hy z (by simp [hz])) (h.set y (hM.row y (hy y (by simp))))
theorem puts_at {c r : Nat} {MM : Rws} (hM : Box c r MM) : ∀ (ys : List Nat) {LL : Rws}, (∀ y ∈ ys, y < r) → Box c r LL → ∀ z, z < r → lAt (putsS MM ys LL) z = if z ∈ ys then lAt MM z else lAt LL z
 | [], _, _, _, _, _ => by simp [putsS]
 | y :: ys, LL, hy, h, z, hz => by
  have ih := puts_at hM ys (fun z hz => hy z (by simp [hz])) (h.set y (hM.row y (hy y (by simp)))) z hz
  show lAt (putsS MM ys (LL.set y (lAt MM y))) z = _
  rw [ih, lAt_set]
  by_cases e : z = y
  · subst e
    have : z < LL.length := by rw [h.len]; exact hz
    by_cases h2 : z ∈ ys <;> simp [h2, this]
  · by_cases h2 : z ∈ ys <;> simp [h2, e]
theorem rdRows_B {c r : Nat} {MM : Rws} (hM : Box c r MM) (hf : ∀ y, y < r → ∀ x ∈ lAt MM y, FitC x) : ∀ (ys : List Nat) (last : Int) (LL : Rws) (t : List Int), ys.Pairwise (· < ·) → (∀ y ∈ ys, y < r ∧ last < (y : Int)) → Box c r LL →
  rdRows c r ys.length last LL.flatten (ys.flatMap (rowBy c MM.flatten) ++ t) = .ok ((putsS MM ys LL).flatten, t)
 | [], _, _, _, _, _, _ => rfl
 | y :: ys, last, LL, t, hp, hy, h => by
  obtain ⟨h1, h2⟩ := hy y (by simp)
  have hl : (lAt MM y).length = c := hM.row y h1
  have ih := rdRows_B hM hf ys (y : Int) (LL.set y (lAt MM y)) t (List.Pairwise.of_cons hp) (fun z hz => ⟨(hy z (by simp [hz])).1, by have := List.rel_of_pairwise_cons hp hz; omega⟩) (h.set y hl)
  rw [List.flatMap_cons, List.append_assoc, List.length_cons]
  show rdRows c r (ys.length + 1) last LL.flatten ((y : Int) :: ((rowAt c MM.flatten y).flatMap cellB ++ (ys.flatMap (rowBy c MM.flatten) ++ t))) = _
  rw [rowAt_flat hM h1]
  unfold rdRows
  rw [if_neg (by omega)]
  have hc := rdCells_B (lAt MM y) (ys.flatMap (rowBy c MM.flatten) ++ t) (hf y h1)
  rw [hl] at hc
  rw [hc]
  simp only
  rw [Int.toNat_natCast, over_flat h h1 hl]
  exact ih
theorem unlike_at (c r : Nat) (L M : List Ce) (y : Nat) : y ∈ unlike c r L M ↔ y < r ∧ rowAt c L y ≠ rowAt c M y := by simp [unlike]
theorem unlike_up (c r : Nat) (L M : List Ce) : (unlike c r L M).Pairwise (· < ·) := List.Pairwise.filter _ List.pairwise_lt_range
theorem puts_all {c r : Nat} {LL MM : Rws} (h : Box c r LL) (hM : Box c r MM) : putsS MM (unlike c r LL.flatten MM.flatten) LL = MM := by
 have hy : ∀ y ∈ unlike c r LL.flatten MM.flatten, y < r := fun y hy => ((unlike_at _ _ _ _ _).1 hy).1
 have hb := puts_box hM _ hy h
 refine rws_ext (by rw [hb.len, hM.len]) fun z hz => ?_
 have hz : z < r := by rw [← hb.len]; exact hz
 rw [puts_at hM _ hy h z hz]
 split
 · rfl
 · rename_i hn
   rw [unlike_at] at hn
   have : rowAt c LL.flatten z = rowAt c MM.flatten z := Classical.byContradiction fun e => hn ⟨hz, e⟩
   rw [rowAt_flat h hz, rowAt_flat hM hz] at this
   exact this
structure FitS (S : Sc) (c r : Nat) (LL : Rws) : Prop where
 ec : S.c = (c : Int)
 er : S.r = (r : Int)
 el : S.cells = LL.flatten
 gk : Gk c r LL
 lk : S.links = []
 mo : S.mouse = 0
 fit : ∀ y, y < r → ∀ x ∈ lAt LL y, FitC x
 ti : S.title.length ≤ 64
theorem fits_of {S : Sc} (h : fitsS S = true) (hp : PosC S.cells) : ∃ c r LL, FitS S c r LL := by
 unfold fitsS at h
 simp only [Bool.and_eq_true, decide_eq_true_eq, List.all_eq_true] at h
 obtain ⟨⟨⟨hR, hl⟩, hm⟩, hok⟩ := h
 have hR2 := hR
 unfold rightSc at hR2
 simp only [Bool.and_eq_true, decide_eq_true_eq] at hR2
 obtain ⟨⟨⟨⟨⟨⟨h1, h2⟩, h3⟩, h4⟩, h5⟩, h6⟩, h7⟩ := hR2
 obtain ⟨c, r, LL, ec, er, el, _, hg⟩ := ((gridMay_iff _ _ _).1 h1).parts
 rw [hl] at h2
 have hz := ord_zero h2
 refine ⟨c, r, LL, ec, er, el, hg, hl, hm, fun y hy x hx => ?_, h5⟩
 have hx2 : x ∈ S.cells := by
  rw [el]
  have hyl : y < LL.length := by rw [hg.box.len]; exact hy
  rw [lAt_lt hyl] at hx
  exact List.mem_flatten.2 ⟨_, List.getElem_mem _, hx⟩
 have ho := hok x hx2
 unfold okR at ho
 simp only [Bool.and_eq_true, decide_eq_true_eq] at ho
 obtain ⟨i, hi, rfl⟩ := List.getElem_of_mem hx
 have hat := (hg.ok y hy).at_ i hi
 have hpx := hp _ hx2
 exact ⟨by have := hat.1; rwa [cAt_lt hi] at this, ho.1.1, hpx.1, ho.1.2, hpx.2, ho.2, hz _ hx2⟩
theorem bl_fit {c r : Nat} (h1 : 1 ≤ c) (h2 : c ≤ 80) (h3 : 1 ≤ r) (h4 : r ≤ 24) : FitS (blS c r) c r (blankR c r) := by
 have hg := gk_blankE h1 h2 h3 h4
 refine ⟨rfl, rfl, rfl, hg, rfl, rfl, fun y hy x hx => ?_, Nat.zero_le _⟩
 have hyl : y < (blankR c r).length := by rw [hg.box.len]; exact hy
 have e : x = blankS pn0 := bl_mem x (List.mem_flatten.2 ⟨_, List.getElem_mem hyl, by rw [← lAt_lt hyl]; exact hx⟩)
 subst e
 have hm : cellMay (blankS pn0) = true := by
  have h := hg.ok y hy
  have hp : 0 < (lAt (blankR c r) y).length := by rw [hg.box.row y hy]; omega
  have := (h.at_ 0 hp).1
  rw [cAt_lt hp] at this
  have e2 : (lAt (blankR c r) y)[0] = blankS pn0 := bl_mem _ (List.mem_flatten.2 ⟨_, List.getElem_mem hyl, by rw [← lAt_lt hyl]; exact List.getElem_mem _⟩)
  rwa [e2] at this
 exact ⟨hm, rfl, by decide, by decide, by decide, by decide, rfl⟩
theorem flag_hid (f0 : Int) (h : f0 = 0 ∨ f0 = 4) (hid ti : Bool) : decide ((f0 + (if hid = true then 1 else 0) + (if ti = true then 2 else 0)) % 2 = 1) = hid ∧ ((f0 + (if hid = true then 1 else 0) + (if ti = true then 2 else 0)) / 2 % 2 = 1 ↔ ti = true) ∧ (f0 + (if hid = true then 1 else 0) + (if ti = true then 2 else 0)) ≤ 7 ∧ ((f0 + (if hid = true then 1 else 0) + (if ti = true then 2 else 0)) < 4 ↔ f0 = 0) := by
 rcases h with rfl | rfl <;> cases hid <;> cases ti <;> decide
theorem rest_there {base b : Sc} {c r : Nat} {BL LL : Rws} (hA : FitS base c r BL) (hB : FitS b c r LL) {fl : Int} (hid : Bool) (ht : fl / 2 % 2 = 1 ↔ b.title ≠ base.title) (hh : hid = b.hid) :
  rdRest c r fl { base with x := b.x, y := b.y, hid := hid } ((if b.title ≠ base.title then (b.title.length : Int) :: b.title else []) ++ (((unlike c r base.cells b.cells).length : Int) :: (unlike c r base.cells b.cells).flatMap (rowBy c b.cells))) = .ok b := by
 have hrow := rdRows_B hB.gk.box hB.fit (unlike c r base.cells b.cells) (-1) BL [] (unlike_up _ _ _ _) (fun y hy => ⟨((unlike_at _ _ _ _ _).1 hy).1, by omega⟩) hA.gk.box
 rw [List.append_nil] at hrow
 have hput := puts_all hA.gk.box hB.gk.box
 rw [← hA.el, ← hB.el] at hput hrow
 rw [hput, ← hB.el] at hrow
 have htit : rdTitle fl base.title ((if b.title ≠ base.title then (b.title.length : Int) :: b.title else []) ++ (((unlike c r base.cells b.cells).length : Int) :: (unlike c r base.cells b.cells).flatMap (rowBy c b.cells))) = .ok (b.title, ((unlike c r base.cells b.cells).length : Int) :: (unlike c r base.cells b.cells).flatMap (rowBy c b.cells)) := by
  unfold rdTitle
  by_cases e : b.title ≠ base.title
  · rw [if_pos (ht.2 e), if_pos e, List.cons_append]
    simp only
    rw [if_neg (by simp; omega), Int.toNat_natCast, List.take_append_of_le_length (Nat.le_refl _), List.take_of_length_le (Nat.le_refl _), List.drop_append_of_le_length (Nat.le_refl _), List.drop_of_length_le (Nat.le_refl _), List.nil_append]
  · have e2 : b.title = base.title := Classical.not_not.1 e
    rw [if_neg (fun h => e (ht.1 h)), if_neg e, e2]
    rfl
 unfold rdRest
 dsimp only
 rw [htit]
 dsimp only
 rw [Int.toNat_natCast, hrow]
 dsimp only
 have e1 := hA.ec.trans hB.ec.symm
 have e2 := hA.er.trans hB.er.symm
 have e3 := hA.lk.trans hB.lk.symm
 have e4 := hA.mo.trans hB.mo.symm
 obtain ⟨bc, br, bcells, bx, by_, bhid, bmouse, btitle, blinks⟩ := b
 simp only at e1 e2 e3 e4 hh ⊢
 rw [e1, e2, e3, e4, hh]
theorem fit_size {S : Sc} {c r : Nat} {LL : Rws} (h : FitS S c r LL) : sizeOk S.c S.r = true := by
 rw [h.ec, h.er]
 unfold sizeOk
 have h1 := h.gk.c1; have h2 := h.gk.c80; have h3 := h.gk.r1; have h4 := h.gk.r24
 exact decide_eq_true (by omega)
theorem apply_there {a base b : Sc} {c r : Nat} {BL LL : Rws} (fa : fitsS a = true) (fb : fitsS b = true) (hA : FitS base c r BL) (hB : FitS b c r LL) {f0 : Int} (h0 : (f0 = 0 ∧ base = a) ∨ (f0 = 4 ∧ base = blS c r)) : applyS a (diffS base b f0) = (b, 0) := by
 have hz := fit_size hB
 have hc : b.c.toNat = c := by rw [hB.ec]; rfl
 have hr : b.r.toNat = r := by rw [hB.er]; rfl
 obtain ⟨T, hT⟩ : ∃ T : Bool, T = decide (b.title ≠ base.title) := ⟨_, rfl⟩
 have hflag := flag_hid f0 (h0.imp And.left And.left) b.hid T
 have e2 : (if b.title ≠ base.title then (2 : Int) else 0) = if T = true then 2 else 0 := by rw [hT]; simp
 have hT2 : T = true ↔ b.title ≠ base.title := by rw [hT]; simp
 unfold applyS
 rw [if_pos fa]
 unfold diffS
 rw [e2, hc, hr]
 obtain ⟨fl, hfl⟩ : ∃ fl, fl = f0 + (if b.hid = true then 1 else 0) + (if T = true then 2 else 0) := ⟨_, rfl⟩
 rw [← hfl] at hflag ⊢
 obtain ⟨hf1, hf2, hf3, hf4⟩ := hflag
 simp only [List.cons_append, List.nil_append]
 rw [if_neg (by rw [hz]; simp; omega)]
 have hbase : (if fl < 4 then a else blS b.c.toNat b.r.toNat) = base ∧ ¬ (fl < 4 ∧ (b.c ≠ a.c ∨ b.r ≠ a.r)) := by
  rcases h0 with ⟨h1, h2⟩ | ⟨h1, h2⟩
  · rw [if_pos (hf4.2 h1), h2]
    refine ⟨rfl, ?_⟩
    rintro ⟨_, h | h⟩
    · exact h (by rw [hB.ec, ← h2, hA.ec])
    · exact h (by rw [hB.er, ← h2, hA.er])
  · have : ¬ fl < 4 := fun e => by have := hf4.1 e; omega
    rw [if_neg this, hc, hr, h2]
    exact ⟨rfl, fun e => this e.1⟩
 rw [if_neg hbase.2, hbase.1, hc, hr, hf1]
 have := rest_there hA hB (fl := fl) b.hid (hf2.trans hT2) rfl
 rw [this]
 simp only
 rw [if_pos fb]
theorem full_there {a b : Sc} (fa : fitsS a = true) (fb : fitsS b = true) (pb : PosC b.cells) : fullS b = (diffS (blS b.c.toNat b.r.toNat) b 4, 0) ∧ applyS a (diffS (blS b.c.toNat b.r.toNat) b 4) = (b, 0) := by
 obtain ⟨c, r, LL, hB⟩ := fits_of fb pb
 have hc : b.c.toNat = c := by rw [hB.ec]; rfl
 have hr : b.r.toNat = r := by rw [hB.er]; rfl
 refine ⟨by unfold fullS; rw [if_pos fb], ?_⟩
 rw [hc, hr]
 exact apply_there fa fb (bl_fit hB.gk.c1 hB.gk.c80 hB.gk.r1 hB.gk.r24) hB (.inr ⟨rfl, rfl⟩)
theorem enc_there {a b : Sc} (fa : fitsS a = true) (fb : fitsS b = true) (pa : PosC a.cells) (pb : PosC b.cells) : (encR a b).2 = 0 ∧ applyS a (encR a b).1 = (b, 0) := by
 unfold encR
 rw [if_pos ⟨fa, fb⟩]
 by_cases e : a.c = b.c ∧ a.r = b.r
 · rw [if_pos e]
   obtain ⟨c, r, LL, hB⟩ := fits_of fb pb
   obtain ⟨c', r', BL, hA⟩ := fits_of fa pa
   have e1 : c' = c := by have := hA.ec; have := hB.ec; omega
   have e2 : r' = r := by have := hA.er; have := hB.er; omega
   subst e1 e2
   exact ⟨rfl, apply_there fa fb hA hB (.inl ⟨rfl, rfl⟩)⟩
 · rw [if_neg e]
   obtain ⟨h1, h2⟩ := full_there fa fb pb
   rw [h1]
   exact ⟨rfl, h2⟩
open Go.RowKit
theorem fits_no {S : Sc} (h : rightSc S = false ∨ S.links ≠ [] ∨ S.mouse ≠ 0 ∨ ∃ c ∈ S.cells, okR c = false) : fitsS S = false := by
 rw [Bool.eq_false_iff]
 intro e
 unfold fitsS at e
 simp only [Bool.and_eq_true, decide_eq_true_eq, List.all_eq_true] at e
 obtain ⟨⟨⟨h1, h2⟩, h3⟩, h4⟩ := e
 rcases h with h | h | h | ⟨c, hc, h⟩
 · rw [h1] at h; cases h
 · exact h h2
 · exact h h3
 · rw [h4 c hc] at h; cases h
theorem fits_yes {S : Sc} (h1 : rightSc S = true) (h2 : S.links = []) (h3 : S.mouse = 0) (h4 : ∀ c ∈ S.cells, okR c = true) : fitsS S = true := by
 unfold fitsS
 simp only [Bool.and_eq_true, decide_eq_true_eq, List.all_eq_true]
 exact ⟨⟨⟨h1, h2⟩, h3⟩, h4⟩
set_option maxHeartbeats 6400000 in
set_option maxRecDepth 100000 in
theorem rFits_any {s : ScR} {S : Sc} {w : World} (h : ScIn w s S) (h0 : 0 ≤ S.mouse) (hn : s.n ≤ 60000) (hm : s.m ≤ 60000) :
  Calls Tryz.prog 13 #[.agg (scrA s)] w fun e w' => e = .returned (.bool (fitsS S)) ∧ Below w.heap.size w w' := by
 obtain ⟨B, hB⟩ : ∃ B, fitsS S = B := ⟨_, rfl⟩
 rw [hB]
 have HBB := Lib.hid hB
 have HI := Lib.hid h
 have HN := Lib.hid (And.intro hn hm)
 have HM0 := Lib.hid (show 0 ≤ s.mouse from by rw [← h.mouse]; exact h0)
 obtain ⟨b, hb⟩ : ∃ b, b = w.heap.size := ⟨_, rfl⟩
 obtain ⟨w1, hw1⟩ : ∃ w1, w1 = w.alloc (.cells (scrA s) 25) := ⟨_, rfl⟩
 have H1 := Lib.hid (show Sx w1 b s ∧ Below w.heap.size w w1 from by
  rw [hw1, hb]
  exact ⟨Sx.new w s, (Below.refl _ _).alloc (Nat.le_refl _) _⟩)
 have PR := Lib.hid (refRightS_any (h.below H1.out.2) hn hm)
 clear h h0 hm hB
 obtain ⟨a0, a1, a2, a3, a4, a5, a6, a7, a8, _⟩ := sx_cells H1.out.1
 unfold scrA at hw1 PR ⊢
 go_enter Tryz.func13, Tryz.ntmps13
 go_upto_region 1 with fail
 rw [← hw1, ← hb]
 clear hw1 hb
 go_wp2_with fail
 refine PR.out.mono ?_
 rintro e w3 ⟨rfl, hb3⟩
 have H3 := Lib.hid (show Sx w3 b s ∧ Below w.heap.size w w3 from ⟨H1.out.1.below hb3, H1.out.2.trans (hb3.mono H1.out.2.size)⟩)
 clear hb3 H1 PR a0 a1 a2 a3 a4 a5 a6 a7 a8
 obtain ⟨a0, a1, a2, a3, a4, a5, a6, a7, a8, _⟩ := sx_cells H3.out.1
 cases hR : rightSc S
 · have hB : B = false := by rw [← HBB.out]; exact fits_no (.inl hR)
   subst hB
   clear hR
   go_wp2_with fail
   go_ret
   exact ⟨rfl, H3.out.2⟩
 have HR := Lib.hid hR
 clear hR
 by_cases hm : 0 < s.m
 · have hB : B = false := by rw [← HBB.out]; exact fits_no (.inr (.inl fun e => by have := HI.out.links.len; rw [e] at this; simp at this; omega))
   subst hB
   go_wp2_with fail
   go_ret
   exact ⟨rfl, H3.out.2⟩
 have HM := Lib.hid (show s.m = 0 by omega)
 have hm0 : ¬ (0 : Int) < (s.m : Int) := by omega
 clear hm
 by_cases ho : 0 < s.mouse
 · have hB : B = false := by rw [← HBB.out]; exact fits_no (.inr (.inr (.inl fun e => by rw [HI.out.mouse] at e; omega)))
   subst hB
   go_wp2_with fail
   go_ret
   exact ⟨rfl, H3.out.2⟩
 have HO := Lib.hid (show s.mouse = 0 by have := HM0.out; omega)
 go_wp2_with fail
 rename s.m = 0 => hq0
 clear a0 a1 a2 a3 a4 a5 a6 a7 a8 hq0 ho
 try clear hm0
 go_loopw [21] (fun i wr => ∃ k : Nat, k ≤ s.n ∧ i = .int .i64 k ∧ Sx wr b s ∧ Below w.heap.size w wr ∧ ∀ c ∈ S.cells.take k, okR c = true) (fun i _ => s.n - (intOf i).toNat)
 case atStart => exact ⟨0, Nat.zero_le _, rfl, H3.out.1, H3.out.2, fun c hc => by cases hc⟩
 case round =>
  obtain ⟨k, hk, rfl, hx, hbw, hpl⟩ := hrel
  have Y := Lib.hid (And.intro hx (And.intro hbw hpl))
  clear hx hbw hpl H3
  by_cases hlt : k < s.n
  · have hkl : (k : Int) < (s.n : Int) := by omega
    have HKS := Lib.hid (show k < S.cells.length from by rw [HI.out.cells.len]; exact hlt)
    obtain ⟨ad, had⟩ := HI.out.cells.addr (by omega)
    obtain ⟨x, hx⟩ : ∃ x, x = cAt S.cells k := ⟨_, rfl⟩
    have hv := HI.out.cells.below Y.out.2.1
    rw [had] at hv
    have hsx := hv.six hlt
    rw [← hx] at hsx
    obtain ⟨d0, d1, d2, d3, d4, d5⟩ := hsx
    have HX := Lib.hid hx
    have c2 := (sx_cells Y.out.1).c2
    rw [had] at c2
    clear hv hx had
    have HNO := Lib.hid (show okR x = false → B = false from fun e => by rw [← HBB.out]; exact fits_no (.inr (.inr (.inr ⟨x, by rw [HX.out]; exact cAt_mem HKS.out, e⟩))))
    by_cases h1 : x.wd = 0
    rotate_left
    · have hB : B = false := HNO.out (by unfold okR; rw [decide_eq_false h1]; rfl)
      subst hB
      have h1b : (x.wd != 0) = true := by simpa using h1
      go_wp2_with fail
      go_ret
      exact ⟨rfl, Y.out.2.1⟩
    have h1b : (x.wd != 0) = false := by simpa using h1
    by_cases h2 : x.p.fg ≤ 256
    rotate_left
    · have hB : B = false := HNO.out (by unfold okR; rw [decide_eq_false h2]; simp)
      subst hB
      have h2b : (256 : Int) < x.p.fg := by omega
      clear h1
      go_wp2_with fail
      go_ret
      exact ⟨rfl, Y.out.2.1⟩
    have h2b : ¬ (256 : Int) < x.p.fg := by omega
    by_cases h3 : x.p.bg ≤ 256
    rotate_left
    · have hB : B = false := HNO.out (by unfold okR; rw [decide_eq_false h3]; simp)
      subst hB
      have h3b : (256 : Int) < x.p.bg := by omega
      clear h1 h2
      go_wp2_with fail
      go_ret
      exact ⟨rfl, Y.out.2.1⟩
    have h3b : ¬ (256 : Int) < x.p.bg := by omega
    have HPL := Lib.hid (show ∀ c ∈ S.cells.take (k + 1), okR c = true from fun c hc => by
     rw [List.take_add_one, getElem?_cAt HKS.out] at hc
     rcases List.mem_append.1 hc with hc | hc
     · exact Y.out.2.2 c hc
     · obtain rfl : c = cAt S.cells k := by simpa using hc
       rw [← HX.out]
       unfold okR
       rw [decide_eq_true h1, decide_eq_true h2, decide_eq_true h3]; rfl)
    clear h1 h2 h3
    go_wp2_with fail
    go_roundw
    case rel => exact ⟨k + 1, by omega, by go_num, Y.out.1, Y.out.2.1, HPL.out⟩
    case measure => simp [intOf]; omega
  · have e : k = s.n := by omega
    subst e
    have hB : B = true := by
     rw [← HBB.out]
     have := Y.out.2.2
     rw [List.take_of_length_le (by rw [HI.out.cells.len]; exact Nat.le_refl _)] at this
     exact fits_yes HR.out (List.eq_nil_of_length_eq_zero (by rw [HI.out.links.len]; exact HM.out)) (by rw [HI.out.mouse]; exact HO.out) this
    subst hB
    clear hlt
    go_wp2_with fail
    go_ret
    exact ⟨rfl, Y.out.2.1⟩
open Go.RowKit
set_option maxHeartbeats 3200000 in
set_option maxRecDepth 100000 in
theorem beyondR_any (x : Ce) (w : World) : Calls Tryz.prog 31 #[.agg (ceA x)] w fun e w' => e = .returned (.bool (!okR x)) ∧ Below w.heap.size w w' := by
 obtain ⟨B, hB⟩ : ∃ B, okR x = B := ⟨_, rfl⟩
 rw [hB]
 have HB := Lib.hid hB
 clear hB
 obtain ⟨b, hb⟩ : ∃ b, b = w.heap.size := ⟨_, rfl⟩
 obtain ⟨w1, hw1⟩ : ∃ w1, w1 = w.alloc (.cells (ceA x) 43) := ⟨_, rfl⟩
 have H1 := Lib.hid (show Cb w1 b x ∧ Below w.heap.size w w1 from by
  rw [hw1, hb]
  exact ⟨Cb.new w x, (Below.refl _ _).alloc (Nat.le_refl _) _⟩)
 obtain ⟨d0, d1, d2, d3, d4, d5⟩ := H1.out.1.all
 unfold ceA at hw1 ⊢
 go_enter Tryz.func31, Tryz.ntmps31
 go_upto_region 1 with fail
 rw [← hw1, ← hb]
 clear hw1 hb
 by_cases h1 : x.wd = 0
 rotate_left
 · have hB : B = false := by rw [← HB.out]; unfold okR; rw [decide_eq_false h1]; rfl
   subst hB
   have h1b : (x.wd != 0) = true := by simpa using h1
   clear h1
   go_wp2_with fail
   go_ret
   exact ⟨rfl, H1.out.2⟩
 have h1b : (x.wd != 0) = false := by simpa using h1
 by_cases h2 : x.p.fg ≤ 256
 rotate_left
 · have hB : B = false := by rw [← HB.out]; unfold okR; rw [decide_eq_false h2]; simp
   subst hB
   have h2b : (256 : Int) < x.p.fg := by omega
   clear h1 h2
   go_wp2_with fail
   go_ret
   exact ⟨rfl, H1.out.2⟩
 have h2b : ¬ (256 : Int) < x.p.fg := by omega
 by_cases h3 : x.p.bg ≤ 256
 rotate_left
 · have hB : B = false := by rw [← HB.out]; unfold okR; rw [decide_eq_false h3]; simp
   subst hB
   have h3b : (256 : Int) < x.p.bg := by omega
   clear h1 h2 h3
   go_wp2_with fail
   go_ret
   exact ⟨rfl, H1.out.2⟩
 have h3b : ¬ (256 : Int) < x.p.bg := by omega
 have hB : B = true := by
  rw [← HB.out]
  unfold okR
  rw [decide_eq_true h1, decide_eq_true h2, decide_eq_true h3]; rfl
 subst hB
 clear h1 h2 h3
 go_wp2_with fail
 go_ret
 exact ⟨rfl, H1.out.2⟩
set_option maxHeartbeats 3200000 in
set_option maxRecDepth 100000 in
theorem indexR_any {w : World} {A : Option Addr} {n c : Nat} {L : List Ce} (h : Vs ceV w A n L) (hn : n ≤ 1000000) (F : Value) (hF : F = .func (.func 31) #[] #[]) :
  Calls Tryz.prog 57 #[.slice A n c, F] w fun e w' => ∃ i : Int, e = .returned (.int .i64 i) ∧ ((L.all okR = true) ∧ i = -1 ∨ L.all okR = false ∧ 0 ≤ i) ∧ Below w.heap.size w w' := by
 subst hF
 have H := Lib.hid h
 clear h
 go_enter Tryz.func57, Tryz.ntmps57
 go_wp2_with fail
 go_loopw [8] (fun i wr => ∃ (k : Nat), k ≤ n ∧ i = .int .i64 k ∧ Below w.heap.size w wr ∧ ∀ c ∈ L.take k, okR c = true) (fun i _ => n - (intOf i).toNat)
 case atStart => exact ⟨0, Nat.zero_le _, rfl, Below.refl _ _, fun c hc => by cases hc⟩
 case round =>
  obtain ⟨k, hk, rfl, hbel, hall⟩ := hrel
  have X := Lib.hid (And.intro hbel hall)
  clear hbel hall
  by_cases hlt : k < n
  · obtain ⟨ad, hA⟩ := H.out.addr (by omega)
    subst hA
    have hsx := (H.out.below X.out.1).six hlt
    have HKL := Lib.hid (show k < L.length from by rw [H.out.len]; exact hlt)
    obtain ⟨z, hz⟩ : ∃ z, z = cAt L k := ⟨_, rfl⟩
    rw [← hz] at hsx
    obtain ⟨d0, d1, d2, d3, d4, d5⟩ := hsx
    have HZ := Lib.hid hz
    clear hz
    go_wp2_with fail
    refine (beyondR_any z wr).mono ?_
    rintro e w1 ⟨rfl, hb1⟩
    have HB1 := Lib.hid (X.out.1.trans (hb1.mono X.out.1.size))
    clear hb1 d0 d1 d2 d3 d4 d5
    cases hok : okR z
    · have HF := Lib.hid (show L.all okR = false from by
       rw [Bool.eq_false_iff]
       intro hh
       have := List.all_eq_true.1 hh z (by rw [HZ.out]; exact cAt_mem HKL.out)
       rw [hok] at this; cases this)
      clear hok
      go_wp2_with fail
      go_ret
      exact ⟨(k : Int), rfl, .inr ⟨HF.out, by omega⟩, HB1.out⟩
    · have HF := Lib.hid (show ∀ c ∈ L.take (k + 1), okR c = true from fun c hc => by
       rw [List.take_add_one, getElem?_cAt HKL.out] at hc
       rcases List.mem_append.1 hc with hc | hc
       · exact X.out.2 c hc
       · obtain rfl : c = cAt L k := by simpa using hc
         rw [← HZ.out, hok])
      clear hok
      go_wp2_with fail
      go_roundw
      case rel => exact ⟨k + 1, by omega, by go_num, HB1.out, HF.out⟩
      case measure => simp [intOf]; omega
  · obtain rfl : k = n := by omega
    have HF := Lib.hid (show L.all okR = true from by
     have := X.out.2
     rw [List.take_of_length_le (by rw [H.out.len]; exact Nat.le_refl _)] at this
     exact List.all_eq_true.2 this)
    go_wp2_with fail
    go_ret
    exact ⟨-1, rfl, .inl ⟨HF.out, rfl⟩, X.out.1⟩
theorem containsR_any {w : World} {A : Option Addr} {n c : Nat} {L : List Ce} (h : Vs ceV w A n L) (hn : n ≤ 1000000) (F : Value) (hF : F = .func (.func 31) #[] #[]) :
  Calls Tryz.prog 30 #[.slice A n c, F] w fun e w' => e = .returned (.bool (!L.all okR)) ∧ Below w.heap.size w w' := by
 have X := Lib.hid (indexR_any (c := c) h hn F hF)
 clear h hF
 obtain ⟨K, hK⟩ : ∃ K, L.all okR = K := ⟨_, rfl⟩
 rw [hK] at X ⊢
 clear hK
 go_enter Tryz.func30, Tryz.ntmps30
 go_wp2_with fail
 refine X.out.mono ?_
 rintro e w1 ⟨i, rfl, hi, hbel⟩
 have HB := Lib.hid hbel
 clear hbel X
 rcases hi with ⟨rfl, rfl⟩ | ⟨rfl, h2⟩
 · go_wp2_with fail
   go_ret
   exact ⟨rfl, HB.out⟩
 · go_wp2_with fail
   go_ret
   exact ⟨rfl, HB.out⟩
set_option maxHeartbeats 6400000 in
set_option maxRecDepth 100000 in
theorem cFits_any {s : ScR} {S : Sc} {w : World} (hT : Tabs w) (h : ScIn w s S) (hn : s.n ≤ 60000) (hm : s.m ≤ 60000) :
  Calls Tryz.prog 17 #[.agg (scrA s)] w fun e w' => e = .returned (.bool (fitsS S)) ∧ Below w.heap.size w w' := by
 obtain ⟨B, hB⟩ : ∃ B, fitsS S = B := ⟨_, rfl⟩
 rw [hB]
 have HBB := Lib.hid hB
 have HI := Lib.hid h
 have HN := Lib.hid (And.intro hn hm)
 obtain ⟨b, hb⟩ : ∃ b, b = w.heap.size := ⟨_, rfl⟩
 obtain ⟨w1, hw1⟩ : ∃ w1, w1 = w.alloc (.cells (scrA s) 25) := ⟨_, rfl⟩
 have H1 := Lib.hid (show Sx w1 b s ∧ Below w.heap.size w w1 from by
  rw [hw1, hb]
  exact ⟨Sx.new w s, (Below.refl _ _).alloc (Nat.le_refl _) _⟩)
 have PR := Lib.hid (rightT_any (hT.below H1.out.2 (Nat.le_refl _)) (h.below H1.out.2) hn hm)
 clear h hm hB hn hT
 obtain ⟨a0, a1, a2, a3, a4, a5, a6, a7, a8, _⟩ := sx_cells H1.out.1
 unfold scrA at hw1 PR ⊢
 go_enter Tryz.func17, Tryz.ntmps17
 go_upto_region 1 with fail
 rw [← hw1, ← hb]
 clear hw1 hb
 go_wp2_with fail
 refine PR.out.mono ?_
 rintro e w3 ⟨rfl, hb3⟩
 have H3 := Lib.hid (show Sx w3 b s ∧ Below w.heap.size w w3 from ⟨H1.out.1.below hb3, H1.out.2.trans (hb3.mono H1.out.2.size)⟩)
 clear hb3 H1 PR a0 a1 a2 a3 a4 a5 a6 a7 a8
 obtain ⟨a0, a1, a2, a3, a4, a5, a6, a7, a8, _⟩ := sx_cells H3.out.1
 clear a0 a1 a3 a4 a5 a7
 cases hR : rightSc S
 · have hB : B = false := by rw [← HBB.out]; exact fits_no (.inl hR)
   subst hB
   clear hR
   go_wp2_with fail
   go_ret
   exact ⟨rfl, H3.out.2⟩
 have HR := Lib.hid hR
 clear hR
 by_cases hm : s.m = 0
 rotate_left
 · have hB : B = false := by rw [← HBB.out]; exact fits_no (.inr (.inl fun e => by have := HI.out.links.len; rw [e] at this; simp at this; omega))
   subst hB
   have hmb : ¬ ((s.m : Int) = 0) := by omega
   go_wp2_with fail
   go_ret
   exact ⟨rfl, H3.out.2⟩
 have HM := Lib.hid hm
 by_cases ho : s.mouse = 0
 rotate_left
 · have hB : B = false := by rw [← HBB.out]; exact fits_no (.inr (.inr (.inl fun e => by rw [HI.out.mouse] at e; omega)))
   subst hB
   have hmb : (s.m : Int) = 0 := by omega
   clear hm
   go_wp2_with fail
   go_ret
   exact ⟨rfl, H3.out.2⟩
 have HO := Lib.hid ho
 have hmb : (s.m : Int) = 0 := by omega
 clear hm
 have PC := Lib.hid (containsR_any (c := s.k) (HI.out.cells.below H3.out.2) (by have := HN.out; omega) _ rfl)
 go_wp2_with fail
 refine PC.out.mono ?_
 rintro e w4 ⟨rfl, hb4⟩
 have hB : B = S.cells.all okR := by
  rw [← HBB.out]
  cases hK : S.cells.all okR
  · refine fits_no (.inr (.inr (.inr ?_)))
    rw [List.all_eq_false] at hK
    obtain ⟨c, hc, hk⟩ := hK
    exact ⟨c, hc, by simpa using hk⟩
  · exact fits_yes HR.out (List.eq_nil_of_length_eq_zero (by rw [HI.out.links.len]; exact HM.out)) (by rw [HI.out.mouse]; exact HO.out) (List.all_eq_true.1 hK)
 have H4 := Lib.hid (H3.out.2.trans (hb4.mono H3.out.2.size))
 generalize S.cells.all okR = K at hB ⊢
 subst hB
 clear hb4 PC
 cases B
 · go_wp2_with fail
   go_ret
   exact ⟨rfl, H4.out⟩
 · go_wp2_with fail
   go_ret
   exact ⟨rfl, H4.out⟩
open Go.RowKit
def numS (n size : Int) : List Int := if 1 ≤ size ∧ size ≤ 8 then numL n size.toNat else []
theorem num_any (n size : Int) (w : World) (_ : 0 ≤ n) (_ : n ≤ 18446744073709551615) :
  Calls Tryz.prog 72 #[.int .u64 n, .int .i64 size] w fun e w' => ∃ v, e = .returned v ∧ Made 5 (numS n size) w v w' := by
 obtain ⟨i0, hi, hz0, hz1, hz2⟩ := info_parts info8
 by_cases hs : 1 ≤ size ∧ size ≤ 8
 · obtain ⟨s, rfl⟩ : ∃ s : Nat, size = s := ⟨size.toNat, by omega⟩
   have hb : decide (1 ≤ (s : Int) ∧ (s : Int) ≤ 8) = true := by simpa using hs
   obtain ⟨hs1, hs2⟩ := hs
   go_enter Tryz.func72, Tryz.ntmps72
   go_wp2_with (first
    | (go_at_call 59; refine (sizeMay_any _ _).mono ?_; rintro e w' ⟨rfl, rfl⟩)
    | (at_make; refine wpList_make_full _ rfl _ _ 26 rfl w.heap.size 5 i0 (.int .u8 0) 1 Tryz.underlying26 hi hz0 hz1 .i64 .i64 (s : Int) (s : Int) s rfl rfl rfl rfl (by rw [hz2]; omega) (by unfold maxLen; omega) (Nat.le_refl _) ?_; intro w1 hown hg))
   have hbel : Below w.heap.size w w1 := Below.grown (Below.refl _ _) hg (Nat.le_refl _) (by intro k hk; cases hk)
   clear hg
   go_loopw [14] (fun i wr => ∃ k : Nat, k ≤ s ∧ i = .int .i64 k ∧ wr.ownsRow w.heap.size 5 1 (.slice (some ⟨w.heap.size, 0, none⟩) s s) s ((rowL s n k).map (Value.int .u8)) ∧ Below w.heap.size w wr) (fun i _ => s - (intOf i).toNat)
   case atStart => exact ⟨0, Nat.zero_le _, rfl, by simpa [rowL_zero, toList_madeCells_one, Value.cells] using hown, hbel⟩
   case round =>
    clear hown hbel
    obtain ⟨k, hk, rfl, hown, hbel⟩ := hrel
    by_cases hlt : k < s
    · have hc : wr.cell? ⟨w.heap.size, s - 1 - k, none⟩ = some (.int .u8 0) := by
       rw [hown.cellAt (s - 1 - k) (by omega), List.getElem?_map, rowL_at n hlt]; rfl
      have hf := hown.frozenAt (s - 1 - k)
      have hst := hown.stored (s - 1 - k) (.int .u8 (n / 2 ^ (8 * k) % 256))
      rw [← List.map_set, pow8, rowL_set n hlt] at hst
      have H1 := Lib.hid (And.intro hst.1 (hbel.setCell (p := ⟨w.heap.size, s - 1 - k, none⟩) (Nat.le_refl _) (.int .u8 (n / 256 ^ k % 256))))
      clear hst hown hbel
      go_wp2
      go_roundw
      case rel => exact ⟨k + 1, by omega, by go_num, by simpa only [pow8] using H1.out⟩
      case measure => simp [intOf]; omega
    · obtain rfl : k = s := by omega
      rw [rowL_full] at hown
      have H := Made.mk (w := w) hown hbel
      clear hown hbel
      go_wp2
      go_ret
      exact ⟨_, rfl, by unfold numS; rw [if_pos ⟨hs1, hs2⟩]; exact H⟩
 · have hb : decide (1 ≤ size ∧ size ≤ 8) = false := by simpa using hs
   go_enter Tryz.func72, Tryz.ntmps72
   go_wp2_with (first
    | (go_at_call 59; refine (sizeMay_any _ _).mono ?_; rintro e w' ⟨rfl, rfl⟩))
   go_ret
   exact ⟨_, rfl, by unfold numS; rw [if_neg hs]; exact Made.nil _ _⟩
open Go.RowKit
structure By (base : Nat) (w : World) (A : Option Addr) (n c : Nat) (zs : List Int) : Prop where
 len : zs.length = n
 le : n ≤ c
 max : c ≤ maxLen
 own : w.ownsRow base 5 1 (.slice A n c) n (zs.map (Value.int .u8))
section
variable {base : Nat} {w w' : World} {A : Option Addr} {n c : Nat} {zs : List Int}
theorem By.mk' (h : w.ownsRow base 5 1 (.slice A n c) n (zs.map (Value.int .u8))) : By base w A n c zs := by
 obtain ⟨A', c', e, h1, h2⟩ := own_shape h
 injection e with e1 e2 e3
 subst e1 e3
 exact ⟨by have := h.1; simpa using this, h1, h2, h⟩
theorem By.sb (h : By base w A n c zs) : Sb w A n zs := Sb.own h.own
theorem By.lower {B : Nat} (h : By base w A n c zs) (hB : B ≤ base) : By B w A n c zs := ⟨h.len, h.le, h.max, own_base h.own hB⟩
theorem By.keep (h : By base w A n c zs) (hs : ∀ g, base ≤ g → g < w.heap.size → w'.heap[g]? = w.heap[g]?) : By base w' A n c zs := by
 refine ⟨h.len, h.le, h.max, h.own.1, ?_⟩
 rcases h.own.2 with h1 | ⟨g, cap, cur, hv, hb, hg, hr⟩
 · exact .inl h1
 · exact .inr ⟨g, cap, cur, hv, hb, (hs g hb (Array.getElem?_eq_some_iff.1 hg).1).trans hg, hr⟩
theorem By.below (h : By base w A n c zs) (hb : Below w.heap.size w w') : By base w' A n c zs := h.keep fun g _ hg => hb.block g hg
theorem By.ownB (h : By base w A n c zs) : ∀ k, (Value.slice A n c).ownBlock = some k → base ≤ k := by
 intro k hk
 rcases h.own.2 with ⟨h1, _⟩ | ⟨g, cap, cur, hv, hb, _⟩
 · rw [h1] at hk; cases hk
 · rw [hv] at hk
   injection hk with hk
   rw [← hk]
   exact hb
theorem By.lit (w : World) (zs : List Int) (n : Nat) (cs : Array Value) (hc : cs.toList = zs.map (Value.int .u8)) (hl : zs.length = n) (hm : n ≤ 1000) : By w.heap.size (w.alloc (.cells cs 5)) (some ⟨w.heap.size, 0, none⟩) n n zs := by
 refine By.mk' ?_
 rw [← hc]
 exact World.ownsRow_lit w cs n (Nat.le_refl _) (by unfold maxLen; omega) (by have := congrArg List.length hc; simp at this; omega)
end
theorem wpList_appB (w : World) {ops : Array Oper} {rest : List Oper} {o : Oper} {a : Act} {Q : Exit → Act → World → Prop} (hgd : o.guard = none) (s x : Operand)
  (ho : o.op = .call { callee := .builtin .append, args := #[s, x], argTypes := #[26, 26] }) (base : Nat)
  (A0 : Option Addr) (n c0 : Nat) (L : List Int) (hs : a.eval s = .slice A0 n c0) (hown : By base w A0 n c0 L)
  (A : Option Addr) (m c k : Nat) (hk : n + m = k) (M : List Int) (hx : a.eval x = .slice A m c) (hr : Sb w A m M) (h63 : k ≤ 140737488355328) (hbase : base ≤ w.heap.size)
  (h : ∀ A' c' w', By base w' A' k c' (L ++ M) → w.grownBy w' (Value.slice A0 n c0).ownBlock → wpList Tryz.prog ops Q rest (a.put o.dst (.slice A' k c')) w') : wpList Tryz.prog ops Q (o :: rest) a w := by
 subst hk
 exact wpList_app w hgd s x _ ho base 5 Tryz.underlying26 info8 _ n _ hs hown.own A m c M hx hr h63 hbase fun A' c' w' h1 h2 => h A' c' w' (By.mk' (by rw [List.map_append]; exact h1)) h2
open Go.RowKit
def ByOwn (zs : List Int) (w : World) (e : Ending) (w' : World) : Prop := Below w.heap.size w w' ∧ ∃ A c, e = .returned (.slice A zs.length c) ∧ By w.heap.size w' A zs.length c zs
theorem num_own {n size : Int} {w : World} {e : Ending} {w' : World} (h : ∃ v, e = .returned v ∧ Made 5 (numS n size) w v w') : ByOwn (numS n size) w e w' := by
 obtain ⟨v, rfl, A, m, c, rfl, hm⟩ := h
 obtain rfl := hm.len
 exact ⟨hm.below, A, c, rfl, ⟨rfl, hm.le, hm.max, hm.own⟩⟩
theorem num4 (x : Int) : numS x 4 = numL x 4 := rfl
theorem num2 (x : Int) : numS x 2 = numL x 2 := rfl
end Go.Proofs.YtikhknnhmnopbaaGreatDoor
