/-
  Part 26 of what the laws of emul want: RowsRead, RowsBase, WireTake, WireRead.
-/
import Derived.Deep.MidRow
import Derived.Laws.BitsAllLaws
import Derived.Test.YtikhknnhmnopbaaGreatDoorPk02
import Derived.Test.YtikhknnhmnopbaaGreatDoorPk21
import Derived.Test.YtikhknnhmnopbaaGreatDoorPk22
import Derived.Test.YtikhknnhmnopbaaGreatDoorPk25
namespace Go.Proofs.YtikhknnhmnopbaaGreatDoor
def rdIn : Nat → Nat → List Ce → List Int → Except Int (List Ce × List Int)
 | 0, _, L, d => .ok (L, d)
 | n + 1, i, L, d => if d.length < 9 then .error 2 else if okC (cellOf d) = true then rdIn n (i + 1) (L.set i (cellOf d)) (d.drop 9) else .error 3
theorem over_cons {L : List Ce} {i : Nat} {c : Ce} {M : List Ce} (h : i + (M.length + 1) ≤ L.length) : overS (L.set i c) (i + 1) M = overS L i (c :: M) := by
 unfold overS
 have h1 : (L.set i c).take (i + 1) = L.take i ++ [c] := by
  rw [List.take_add_one, List.take_set_of_le (Nat.le_refl _), List.getElem?_set_self (by omega)]
  rfl
 rw [h1, List.drop_set_of_lt (by omega), List.append_assoc, List.length_cons, show i + 1 + M.length = i + (M.length + 1) from by omega]
 rfl
theorem over_nil (L : List Ce) (i : Nat) : overS L i [] = L := by simp [overS]
theorem rdCells_len : ∀ (n : Nat) (d : List Int) (M : List Ce) (t : List Int), rdCells n d = .ok (M, t) → M.length = n
 | 0, d, M, t, h => by
  unfold rdCells at h
  injection h with h
  injection h with h1 h2
  rw [← h1]; rfl
 | n + 1, d, M, t, h => by
  unfold rdCells at h
  split at h
  · cases h
  · split at h
    · split at h
      · rename_i L' t' hr
        injection h with h
        injection h with h1 h2
        rw [← h1, List.length_cons, rdCells_len n _ _ _ hr]
      · cases h
    · cases h
theorem rdIn_eq : ∀ (n i : Nat) (L : List Ce) (d : List Int), i + n ≤ L.length →
  rdIn n i L d = match rdCells n d with
   | .ok (M, t) => .ok (overS L i M, t)
   | .error e => .error e
 | 0, i, L, d, _ => by
  unfold rdIn rdCells
  simp only [over_nil]
 | n + 1, i, L, d, h => by
  unfold rdIn rdCells
  by_cases h9 : d.length < 9
  · rw [if_pos h9, if_pos h9]
  · rw [if_neg h9, if_neg h9]
    by_cases ho : okC (cellOf d) = true
    · rw [if_pos ho, if_pos ho, rdIn_eq n (i + 1) _ _ (by rw [List.length_set]; omega)]
      cases hr : rdCells n (d.drop 9) with
      | error e => rfl
      | ok p =>
       obtain ⟨M, t⟩ := p
       have hl := rdCells_len _ _ _ _ hr
       simp only
       rw [over_cons (by omega)]
    · rw [if_neg ho, if_neg ho]
def rowsOn (c r n : Nat) (y : Int) : Except Int (List Ce × List Int) → Except Int (List Ce × List Int)
 | .ok (L, t) => rdRows c r n y L t
 | .error e => .error e
theorem rdRows_in {c r n : Nat} {last y : Int} {L : List Ce} {t : List Int} (hl : L.length = r * c) (h1 : last < y) (h2 : y < (r : Int)) (h0 : -1 ≤ last) :
  rdRows c r (n + 1) last L (y :: t) = rowsOn c r n y (rdIn c (y.toNat * c) L t) := by
 have hy : y.toNat + 1 ≤ r := by omega
 have hm := Nat.mul_le_mul_right c hy
 rw [Nat.add_mul, Nat.one_mul] at hm
 unfold rdRows
 rw [if_neg (by omega), rdIn_eq _ _ _ _ (by omega)]
 cases rdCells c t with
 | error e => rfl
 | ok p => rfl
theorem rdRows_off {c r n : Nat} {last y : Int} {L : List Ce} {t : List Int} (h : (r : Int) ≤ y ∨ y ≤ last) : rdRows c r (n + 1) last L (y :: t) = .error 3 := by
 unfold rdRows
 rw [if_pos h]
theorem rdRows_out (c r n : Nat) (last : Int) (L : List Ce) : rdRows c r (n + 1) last L [] = .error 2 := rfl
theorem rdRows_none (c r : Nat) (last : Int) (L : List Ce) (d : List Int) : rdRows c r 0 last L d = .ok (L, d) := by unfold rdRows; rfl
theorem rdIn_short {n i : Nat} {L : List Ce} {d : List Int} (h : d.length < 9) : rdIn (n + 1) i L d = .error 2 := by unfold rdIn; rw [if_pos h]
theorem rdIn_bad {n i : Nat} {L : List Ce} {d : List Int} (h : ¬ d.length < 9) (ho : okC (cellOf d) = false) : rdIn (n + 1) i L d = .error 3 := by unfold rdIn; rw [if_neg h, if_neg (by rw [ho]; simp)]
theorem rdIn_one {n i : Nat} {L : List Ce} {d : List Int} (h : ¬ d.length < 9) (ho : okC (cellOf d) = true) : rdIn (n + 1) i L d = rdIn n (i + 1) (L.set i (cellOf d)) (d.drop 9) := by
 show (if d.length < 9 then _ else if okC (cellOf d) = true then _ else _) = _
 rw [if_neg h, if_pos ho]
theorem rdIn_none (i : Nat) (L : List Ce) (d : List Int) : rdIn 0 i L d = .ok (L, d) := by unfold rdIn; rfl
noncomputable def endA (s : Sc) : Except Int (List Ce × List Int) → Sc × Int
 | .error e => (scZero, e)
 | .ok (L, []) => if fitsS { s with cells := L } = true then ({ s with cells := L }, 0) else (scZero, 3)
 | .ok (_, _ :: _) => (scZero, 6)
noncomputable def restB (c r : Nat) (s : Sc) : List Int → Sc × Int
 | [] => (scZero, 2)
 | n :: t => endA s (rdRows c r n.toNat (-1) s.cells t)
noncomputable def restA (c r : Nat) (fl : Int) (s : Sc) (t : List Int) : Sc × Int :=
 if fl / 2 % 2 = 1 then
  match t with
  | [] => (scZero, 2)
  | n :: t => if (t.length : Int) < n then (scZero, 2) else restB c r { s with title := t.take n.toNat } (t.drop n.toNat)
 else restB c r s t
theorem rest_b (c r : Nat) (s : Sc) (ti : List Int) (t : List Int) :
  (match (match (Except.ok (ti, t) : Except Int (List Int × List Int)) with
   | .error e => .error e
   | .ok (_, []) => .error 2
   | .ok (ti, n :: t) =>
    match rdRows c r n.toNat (-1) s.cells t with
    | .error e => .error e
    | .ok (L, []) => .ok { s with title := ti, cells := L }
    | .ok (_, _ :: _) => .error 6 : Except Int Sc) with
   | .error e => (scZero, e)
   | .ok s => if fitsS s = true then (s, 0) else (scZero, 3)) = restB c r { s with title := ti } t := by
 cases t with
 | nil => rfl
 | cons n t =>
  unfold restB
  simp only
  cases rdRows c r n.toNat (-1) s.cells t with
  | error e => rfl
  | ok p =>
   obtain ⟨L, t⟩ := p
   cases t <;> rfl
theorem rest_a (c r : Nat) (fl : Int) (s : Sc) (t : List Int) :
  (match rdRest c r fl s t with
   | .error e => (scZero, e)
   | .ok s => if fitsS s = true then (s, 0) else (scZero, 3)) = restA c r fl s t := by
 unfold rdRest rdTitle restA
 by_cases h : fl / 2 % 2 = 1
 · rw [if_pos h, if_pos h]
   cases t with
   | nil => rfl
   | cons n t =>
    simp only
    by_cases h2 : (t.length : Int) < n
    · rw [if_pos h2, if_pos h2]
    · rw [if_neg h2, if_neg h2]
      exact rest_b c r s (t.take n.toNat) (t.drop n.toNat)
 · rw [if_neg h, if_neg h]
   exact rest_b c r s s.title t
theorem app_1 {a : Sc} {d : List Int} (h : fitsS a = false) : applyS a d = (scZero, 1) := by unfold applyS; rw [if_neg (by rw [h]; simp)]
theorem app_2 {a : Sc} {d : List Int} (h : fitsS a = true) (hl : d.length < 5) : applyS a d = (scZero, 2) := by
 unfold applyS
 rw [if_pos h]
 rcases d with _ | ⟨_, _ | ⟨_, _ | ⟨_, _ | ⟨_, _ | ⟨_, _⟩⟩⟩⟩⟩ <;> first | rfl | (simp at hl; done) | (simp at hl; omega)
theorem app_3 {a : Sc} {c r x y fl : Int} {t : List Int} (h : fitsS a = true) (h3 : 7 < fl ∨ sizeOk c r = false) : applyS a (c :: r :: x :: y :: fl :: t) = (scZero, 3) := by
 unfold applyS
 rw [if_pos h]
 simp only
 rw [if_pos h3]
theorem app_15 {a : Sc} {c r x y fl : Int} {t : List Int} (h : fitsS a = true) (h3 : ¬ (7 < fl ∨ sizeOk c r = false)) (h4 : fl < 4 ∧ (c ≠ a.c ∨ r ≠ a.r)) : applyS a (c :: r :: x :: y :: fl :: t) = (scZero, 15) := by
 unfold applyS
 rw [if_pos h]
 simp only
 rw [if_neg h3, if_pos h4]
theorem app_on {a : Sc} {c r x y fl : Int} {t : List Int} (h : fitsS a = true) (h3 : ¬ (7 < fl ∨ sizeOk c r = false)) (h4 : ¬ (fl < 4 ∧ (c ≠ a.c ∨ r ≠ a.r))) :
  applyS a (c :: r :: x :: y :: fl :: t) = restA c.toNat r.toNat fl { (if fl < 4 then a else blS c.toNat r.toNat) with x := x, y := y, hid := decide (fl % 2 = 1) } t := by
 rw [← rest_a]
 unfold applyS
 rw [if_pos h]
 simp only
 rw [if_neg h3, if_neg h4]
 rfl
open Go.RowKit
def BaEnd (cols rows fl : Int) (A : Sc) (w : World) (e : Ending) (w' : World) : Prop :=
 Below w.heap.size w w' ∧ ((∃ s, e = .returned (.tuple #[.agg (scrA s), .int .i64 0]) ∧ ScOwn w.heap.size w' s { (if fl < 4 then A else blS cols.toNat rows.toNat) with x := 0, y := 0, hid := false } ∧ sizeOk cols rows = true ∧ ¬ (7 < fl ∨ sizeOk cols rows = false) ∧ ¬ (fl < 4 ∧ (cols ≠ A.c ∨ rows ≠ A.r))) ∨
  (e = .returned (.tuple #[.agg (scrA scN), .int .i64 3]) ∧ (7 < fl ∨ sizeOk cols rows = false)) ∨
  (e = .returned (.tuple #[.agg (scrA scN), .int .i64 15]) ∧ ¬ (7 < fl ∨ sizeOk cols rows = false) ∧ (fl < 4 ∧ (cols ≠ A.c ∨ rows ≠ A.r))))
theorem Sx.set {w : World} {g : Nat} {s s' : ScR} {k : Nat} {v : Value} (h : Sx w g s) (e : (scF s).set k v = scF s') (hk : k < 9) : Sx (w.setCell ⟨g, k, none⟩ v) g s' := by
 obtain ⟨r, h⟩ := h
 refine ⟨r, ?_⟩
 rw [heap_setCell_same w g k _ _ _ h]
 have e1 : rowV scF [s] = scF s := by simp [rowV]
 have e2 : rowV scF [s'] = scF s' := by simp [rowV]
 have e3 : ((rowV scF [s] ++ r).toArray.setIfInBounds k v) = (rowV scF [s'] ++ r).toArray := by
  rw [List.setIfInBounds_toArray, e1, e2, List.set_append_left _ _ (by rw [scF_len]; exact hk), e]
 rw [e3]
theorem Tx.onto {α : Type} {f : α → List Value} {t : TypeId} {B g : Nat} {w w' : World} {T : Option Addr} {m q : Nat} {L : List ByteArray} {M : List α} (h : Tx B w T m q L) (hR : Rw f t w g M) (hn : t ≠ 9) (hg : w.grownBy w' (some g)) : Tx B w' T m q L := ⟨h.len, h.le, h.max, by
 refine World.ownsRow.kept h.own hg ?_
 rcases h.own.2 with ⟨h1, _⟩ | ⟨q, cap, cur, hv, hb, hgg, _⟩
 · left; rw [h1]; rfl
 · right
   rw [hv]
   intro e
   have e2 : q = g := by injection e
   subst e2
   obtain ⟨r, h3⟩ := hR
   rw [h3] at hgg
   injection hgg with e3
   injection e3 with _ e3
   exact absurd e3 hn⟩
theorem wp_store_S {w : World} {o : Oper} {a : Act} {K : Act → World → Prop} {Q : Exit → Act → World → Prop} (x y : Operand) (ho : o.op = .store 25 x y)
  (g : Nat) (s0 s : ScR) (hx : a.eval x = .pointer (some ⟨g, 0, none⟩)) (hy : a.eval y = .agg (scrA s)) (hR : Sx w g s0)
  (h : ∀ w', Sx w' g s → w.grownBy w' (some g) → K (a.put o.dst undef) w') : o.wp Tryz.prog a w K Q := by
 obtain ⟨e1, e2⟩ := Rw.stored scF_len hR (k := 0) (M := [s]) (by simp)
 have hone : rowV scF [s] = (scrA s).toList := by simp [rowV, scF, scrA]
 refine wp_store_mid 25 x y ho g 0 (scrA s) hx hy (by simpa [scrA] using Rw.there scF_len hR (k := 0) (m := 1) (by simp)) (by kernel_rfl) ?_ ?_
 · rw [Array.all_eq_true_iff_forall_mem]
   intro v hv
   exact one_sc [s] v (by rw [hone]; simpa using hv)
 · have e3 : w.setCells g 0 (scrA s).toList = w.setCells g (0 * 9) (rowV scF [s]) := by rw [hone]
   rw [e3]
   refine h _ ?_ e2
   have := e1
   simpa using this
theorem ScOwn.box {base : Nat} {w w' : World} {s s0 : ScR} {S : Sc} {g : Nat} (h : ScOwn base w s S) (hR : Sx w g s0) (hg : w.grownBy w' (some g)) : ScOwn base w' s S := by
 have hc : Cx base w' s.A s.n s.k S.cells := ⟨h.cx.len, h.cx.le, h.cx.max, fun hn => by
  obtain ⟨q, e, hb, hQ⟩ := h.cx.own hn
  exact ⟨q, e, hb, hQ.grown hg (fun e2 => by injection e2 with e2; exact Rw.apart hQ hR (by decide) e2.symm)⟩⟩
 have ht : Tx base w' s.T s.m s.q S.links := Tx.onto h.tx hR (by decide) hg
 exact ⟨{ h.sc with cells := hc.vs, links := ht.vs }, hc, ht, h.n, h.m⟩
theorem ScOwn.ttl {base : Nat} {w : World} {s : ScR} {S : Sc} (h : ScOwn base w s S) (t : ByteArray) (ht : t.size ≤ 140737488351232) : ScOwn base w { s with ttl := t } { S with title := sL t } :=
 ⟨{ h.sc with ttl := rfl, tz := ht }, h.cx, h.tx, h.n, h.m⟩
theorem and4 {fl : Int} (h : 0 ≤ fl ∧ fl ≤ 7) : bits .and .u64 fl 4 = if fl < 4 then 0 else 4 := by
 have : fl = 0 ∨ fl = 1 ∨ fl = 2 ∨ fl = 3 ∨ fl = 4 ∨ fl = 5 ∨ fl = 6 ∨ fl = 7 := by omega
 rcases this with rfl | rfl | rfl | rfl | rfl | rfl | rfl | rfl <;> decide
theorem and2 {fl : Int} (h : 0 ≤ fl ∧ fl ≤ 7) : bits .and .u64 fl 2 = if fl / 2 % 2 = 1 then 2 else 0 := by
 have : fl = 0 ∨ fl = 1 ∨ fl = 2 ∨ fl = 3 ∨ fl = 4 ∨ fl = 5 ∨ fl = 6 ∨ fl = 7 := by omega
 rcases this with rfl | rfl | rfl | rfl | rfl | rfl | rfl | rfl <;> decide
theorem and1 {fl : Int} (h : 0 ≤ fl ∧ fl ≤ 7) : bits .and .u64 fl 1 = if fl % 2 = 1 then 1 else 0 := by
 have : fl = 0 ∨ fl = 1 ∨ fl = 2 ∨ fl = 3 ∨ fl = 4 ∨ fl = 5 ∨ fl = 6 ∨ fl = 7 := by omega
 rcases this with rfl | rfl | rfl | rfl | rfl | rfl | rfl | rfl <;> decide
set_option maxHeartbeats 6400000 in
set_option maxRecDepth 100000 in
theorem base_any {sa : ScR} {A : Sc} {cols rows fl : Int} {c r : Nat} {BL : Rws} {w : World} (hT : Tabs w) (h : ScIn w sa A) (hA : FitS A c r BL) (hf : 0 ≤ fl ∧ fl ≤ 255) :
  Calls Tryz.prog 35 #[.agg (scrA sa), .int .i64 cols, .int .i64 rows, .int .u64 fl] w (BaEnd cols rows fl A w) := by
 have HI := Lib.hid (And.intro h hA)
 obtain ⟨b, hb⟩ : ∃ b, b = w.heap.size := ⟨_, rfl⟩
 obtain ⟨w1, hw1⟩ : ∃ w1, w1 = (w.alloc (.cells (scrA sa) 25)).alloc (.cells (scrA scN) 25) := ⟨_, rfl⟩
 have H1 := Lib.hid (show S2 w w1 b sa scN from by
  have h1 := Sx.new w sa
  have h2 := Sx.new (w.alloc (.cells (scrA sa) 25)) scN
  rw [World.size_alloc] at h2
  rw [hb, hw1]
  exact ⟨h1.below ((Below.refl _ _).alloc (Nat.le_refl _) _), h2, ((Below.refl _ _).alloc (Nat.le_refl _) _).alloc (by simp) _, Nat.le_refl _⟩)
 have HBZ := Lib.hid (show b + 2 = w1.heap.size from by rw [hb, hw1]; simp)
 have PB := Lib.hid (pBlank_any (hT.below H1.out.bel (Nat.le_refl _)) cols rows)
 clear h hA hT
 unfold scrA scN at hw1
 dsimp only at hw1
 unfold scrA
 go_enter Tryz.func35, Tryz.ntmps35
 go_upto_region 1 with fail
 rw [← hw1, ← hb]
 clear hw1 hb
 go_wp2_with fail
 refine PB.out.mono ?_
 rintro e w2 ⟨hb2, ⟨hz, s, rfl, hS⟩ | ⟨hz, rfl⟩⟩
 rotate_left
 · obtain ⟨b10, hb10⟩ : ∃ q, q = w2.heap.size := ⟨_, rfl⟩
   obtain ⟨w3, hw3⟩ : ∃ q, q = w2.alloc (.cells (scrA scN) 25) := ⟨_, rfl⟩
   have H3 := Lib.hid (show S2 w w3 b sa scN from by
    have hbb : Below w2.heap.size w2 w3 := by rw [hw3]; exact (Below.refl _ _).alloc (Nat.le_refl _) _
    exact (H1.out.on hb2).on hbb)
   have HZ := Lib.hid hz
   clear hb2 hz H1 PB
   unfold scrA scN at hw3 ⊢
   dsimp only at hw3 ⊢
   go_upto_region 2 with fail
   rw [← hw3, ← hb10]
   clear hw3 hb10
   by_cases h7 : 7 < fl
   all_goals
    go_wp2_with (refine wpList_store_V rfl 25 (.tmp 8) (.tmp 25) rfl scF_len one_sc info56 (b + 1) _ 0 scN _ rfl (by omega) rfl rfl 25 [scN] H3.out.b2 (by decide) ?_; intro w7 hR7 hg7)
    have HE := Lib.hid (show Below w.heap.size w w7 from H3.out.bel.grown hg7 H3.out.bel.size (fun k hk => by injection hk with hk; have := H3.out.lo; omega))
    obtain ⟨y0, y1, y2, y3, y4, y5, y6, y7, y8, _⟩ := sx_cells (s := scN) hR7
    exact bodyPost_ret (v := .tuple #[.agg (scrA scN), .int .i64 3]) (by simp [results, Tryz.results35, scrA, scN, go_sem, y0, y1, y2, y3, y4, y5, y6, y7, y8]) rfl ⟨HE.out, .inr (.inl ⟨rfl, .inr HZ.out⟩)⟩
 · obtain ⟨b10, hb10⟩ : ∃ q, q = w2.heap.size := ⟨_, rfl⟩
   obtain ⟨w3, hw3⟩ : ∃ q, q = w2.alloc (.cells (scrA s) 25) := ⟨_, rfl⟩
   have H3 := Lib.hid (show S2 w w3 b sa scN ∧ Sx w3 b10 s ∧ ScOwn w1.heap.size w3 s (blS cols.toNat rows.toNat) ∧ b + 2 ≤ b10 from by
    have hbb : Below w2.heap.size w2 w3 := by rw [hw3]; exact (Below.refl _ _).alloc (Nat.le_refl _) _
    exact ⟨(H1.out.on hb2).on hbb, by rw [hw3, hb10]; exact Sx.new w2 s, hS.below hbb, by rw [hb10]; exact (H1.out.on hb2).lt⟩)
   have HZ := Lib.hid hz
   have HSZ := Lib.hid (size_nat hz)
   clear hb2 hz hS H1 PB
   unfold scrA at hw3 ⊢
   go_upto_region 2 with fail
   rw [← hw3, ← hb10]
   clear hw3 hb10
   by_cases h7 : 7 < fl
   · go_wp2_with (refine wpList_store_V rfl 25 (.tmp 8) (.tmp 25) rfl scF_len one_sc info56 (b + 1) _ 0 scN _ rfl (by omega) rfl rfl 25 [scN] H3.out.1.b2 (by decide) ?_; intro w7 hR7 hg7)
     have HE := Lib.hid (show Below w.heap.size w w7 from H3.out.1.bel.grown hg7 H3.out.1.bel.size (fun k hk => by injection hk with hk; have := H3.out.1.lo; omega))
     obtain ⟨y0, y1, y2, y3, y4, y5, y6, y7, y8, _⟩ := sx_cells (s := scN) hR7
     exact bodyPost_ret (v := .tuple #[.agg (scrA scN), .int .i64 3]) (by simp [results, Tryz.results35, scrA, scN, go_sem, y0, y1, y2, y3, y4, y5, y6, y7, y8]) rfl ⟨HE.out, .inr (.inl ⟨rfl, .inl h7⟩)⟩
   have ha4 := and4 (fl := fl) (by omega)
   have HN3 := Lib.hid (show ¬ (7 < fl ∨ sizeOk cols rows = false) from by rw [HZ.out]; simp; omega)
   by_cases h4 : fl < 4
   rotate_left
   · rw [if_neg h4] at ha4
     obtain ⟨d0, d1, d2, d3, d4, d5, d6, d7, d8, _⟩ := sx_cells H3.out.2.1
     have H4 := Lib.hid (show ¬ fl < 4 from h4)
     clear h4
     go_wp2_with (refine wpList_store_V rfl 25 (.tmp 8) (.tmp 30) rfl scF_len one_sc info56 (b + 1) _ 0 s _ rfl (by omega) rfl rfl 25 [scN] H3.out.1.b2 (by decide) ?_; intro w7 hR7 hg7)
     have HE := Lib.hid (show Below w.heap.size w w7 ∧ ScOwn w.heap.size w7 s (blS cols.toNat rows.toNat) from
      ⟨H3.out.1.bel.grown hg7 H3.out.1.bel.size (fun k hk => by injection hk with hk; have := H3.out.1.lo; omega), (H3.out.2.2.1.grown hg7 (by have := HBZ.out; omega)).lower (by have := H3.out.1.lo; have := HBZ.out; omega)⟩)
     obtain ⟨y0, y1, y2, y3, y4, y5, y6, y7, y8, _⟩ := sx_cells (s := s) hR7
     exact bodyPost_ret (v := .tuple #[.agg (scrA s), .int .i64 0]) (by simp [results, Tryz.results35, scrA, go_sem, y0, y1, y2, y3, y4, y5, y6, y7, y8]) rfl ⟨HE.out.1, .inl ⟨s, rfl, by rw [if_neg (by have := H4.out; omega)]; exact HE.out.2, HZ.out, HN3.out, fun hh => by have := H4.out; have := hh.1; omega⟩⟩
   rw [if_pos h4] at ha4
   have HSC := Lib.hid (show s.c = cols ∧ s.r = rows ∧ sa.c = A.c ∧ sa.r = A.r from by
    obtain ⟨c', r', e1, e2, _⟩ := HSZ.out
    have h1 := H3.out.2.2.1.sc.c
    have h2 := H3.out.2.2.1.sc.r
    refine ⟨?_, ?_, HI.out.1.c.symm, HI.out.1.r.symm⟩
    · rw [← h1, e1]; rfl
    · rw [← h2, e2]; rfl)
   obtain ⟨a0, a1, a2, a3, a4, a5, a6, a7, a8, _⟩ := sx_cells H3.out.1.b1
   obtain ⟨d0, d1, d2, d3, d4, d5, d6, d7, d8, _⟩ := sx_cells H3.out.2.1
   have PK := Lib.hid (likeR_any sa s w3)
   obtain ⟨K, hK⟩ : ∃ K, decide (sa.c = s.c ∧ sa.r = s.r) = K := ⟨_, rfl⟩
   rw [hK] at PK
   have HK := Lib.hid (show (K = true ↔ (cols = A.c ∧ rows = A.r)) from by rw [← hK, HSC.out.1, HSC.out.2.1, HSC.out.2.2.1, HSC.out.2.2.2]; simp only [decide_eq_true_eq]; exact ⟨fun h => ⟨h.1.symm, h.2.symm⟩, fun h => ⟨h.1.symm, h.2.symm⟩⟩)
   clear hK
   unfold scrA at PK
   have H4 := Lib.hid h4
   go_wp2_with fail
   refine PK.out.mono ?_
   rintro e w4 ⟨rfl, hb4⟩
   have H5 := Lib.hid (show S2 w w4 b sa scN ∧ Sx w4 b10 s ∧ ScOwn w1.heap.size w4 s (blS cols.toNat rows.toNat) from ⟨H3.out.1.on hb4, H3.out.2.1.below hb4, H3.out.2.2.1.below hb4⟩)
   have HBB := Lib.hid H3.out.2.2.2
   clear hb4 PK a0 a1 a2 a3 a4 a5 a6 a7 a8 d0 d1 d2 d3 d4 d5 d6 d7 d8 H3 h4 ha4
   cases K
   · have hno : fl < 4 ∧ (cols ≠ A.c ∨ rows ≠ A.r) := ⟨H4.out, by
      by_cases e : cols = A.c
      · exact .inr fun e2 => by have := HK.out.2 ⟨e, e2⟩; cases this
      · exact .inl e⟩
     have HNO := Lib.hid hno
     clear hno
     go_wp2_with (refine wpList_store_V rfl 25 (.tmp 8) (.tmp 36) rfl scF_len one_sc info56 (b + 1) _ 0 scN _ rfl (by omega) rfl rfl 25 [scN] H5.out.1.b2 (by decide) ?_; intro w7 hR7 hg7)
     have HE := Lib.hid (show Below w.heap.size w w7 from H5.out.1.bel.grown hg7 H5.out.1.bel.size (fun k hk => by injection hk with hk; have := H5.out.1.lo; omega))
     obtain ⟨y0, y1, y2, y3, y4, y5, y6, y7, y8, _⟩ := sx_cells (s := scN) hR7
     exact bodyPost_ret (v := .tuple #[.agg (scrA scN), .int .i64 15]) (by simp [results, Tryz.results35, scrA, scN, go_sem, y0, y1, y2, y3, y4, y5, y6, y7, y8]) rfl ⟨HE.out, .inr (.inr ⟨rfl, HN3.out, HNO.out⟩)⟩
   · have hcc := HK.out.1 rfl
     have HCR := Lib.hid (show cols = (c : Int) ∧ rows = (r : Int) from ⟨by rw [hcc.1, HI.out.2.ec], by rw [hcc.2, HI.out.2.er]⟩)
     clear hcc HK
     rw [HCR.out.1, HCR.out.2, Int.toNat_natCast, Int.toNat_natCast] at H5
     have hsm := HI.out.2.gk.small
     have HLN := Lib.hid (show s.n = r * c ∧ sa.n = r * c ∧ 0 < r * c from by
      have h1 := HI.out.2.gk.c1
      have h2 := HI.out.2.gk.r1
      refine ⟨?_, ?_, Nat.mul_pos h2 h1⟩
      · rw [← H5.out.2.2.sc.cells.len]
        exact (bl_fit h1 HI.out.2.gk.c80 h2 HI.out.2.gk.r24).gk.box.flen
      · rw [← HI.out.1.cells.len, HI.out.2.el]
        exact HI.out.2.gk.box.flen)
     obtain ⟨g, hA, hg, hR⟩ := H5.out.2.2.cx.own (by have := HLN.out; omega)
     have HG := Lib.hid (show s.A = some ⟨g, 0, none⟩ ∧ w1.heap.size ≤ g ∧ Rw ceV 43 w4 g (blS c r).cells ∧ g ≠ b10 from ⟨hA, hg, hR, Rw.apart hR H5.out.2.1 (by decide)⟩)
     clear hA hg hR
     obtain ⟨_, _, a2, _, _, _, _, _, _, _⟩ := sx_cells H5.out.1.b1
     obtain ⟨_, _, d2, _, _, _, _, _, _, _⟩ := sx_cells H5.out.2.1
     rw [HG.out.1] at d2
     have HFA := Lib.hid (HI.out.2.gk.box.flen)
     go_upto_region 9 with (refine wpList_copy_V rfl (.tmp 38) (.tmp 40) 22 22 rfl 43 ceV_len one_ce Tryz.underlying22 infoCe g 0 s.n s.k (some ⟨g, 0, none⟩) sa.A sa.n sa.k rfl rfl 43 (blS c r).cells A.cells HG.out.2.2.1 (by rw [HI.out.1.cells.len, HLN.out.1, HLN.out.2.1]; exact (Nat.min_self _).symm) (by rw [HI.out.1.cells.len]; exact HI.out.1.cells.below H5.out.1.bel) (fun _ => rfl) (by rw [HI.out.1.cells.len, H5.out.2.2.sc.cells.len, HLN.out.1, HLN.out.2.1]; omega) ?_; intro w5 hR5 hg5)
     have H6 := Lib.hid (show S2 w w5 b sa scN ∧ Sx w5 b10 s ∧ ScOwn w1.heap.size w5 s { blS c r with cells := A.cells } from by
      have hne : g ≠ b10 := HG.out.2.2.2
      have hgw := HG.out.2.1
      have hbz := HBZ.out
      have hlb := HBB.out
      have hl5 := H5.out.1.lt
      have hRA : Rw ceV 43 w5 g A.cells := by
       have e : (blS c r).cells.take 0 ++ (A.cells ++ (blS c r).cells.drop (0 + A.cells.length)) = A.cells := by
        rw [List.drop_of_length_le (by rw [HI.out.1.cells.len, H5.out.2.2.sc.cells.len, HLN.out.1, HLN.out.2.1]; omega)]
        simp
       rw [e] at hR5
       exact hR5
      have hcx : Cx w1.heap.size w5 s.A s.n s.k A.cells := ⟨by rw [HI.out.1.cells.len, HLN.out.1, HLN.out.2.1], H5.out.2.2.cx.le, H5.out.2.2.cx.max, fun _ => ⟨g, HG.out.1, hgw, hRA⟩⟩
      have htx : Tx w1.heap.size w5 s.T s.m s.q [] := Tx.onto H5.out.2.2.tx HG.out.2.2.1 (by decide) hg5
      refine ⟨⟨H5.out.1.b1.grown hg5 (by intro e; injection e with e; omega), H5.out.1.b2.grown hg5 (by intro e; injection e with e; omega), H5.out.1.bel.grown hg5 H5.out.1.bel.size (fun k hk => by injection hk with hk; have := H5.out.1.bel.size; have := H5.out.1.lo; omega), H5.out.1.lo⟩, H5.out.2.1.grown hg5 (by intro e; injection e with e; exact hne e), ?_⟩
      exact ⟨{ H5.out.2.2.sc with cells := hcx.vs, links := htx.vs, lk := HI.out.1.lk }, hcx, htx, H5.out.2.2.n, H5.out.2.2.m⟩)
     clear hR5 hg5 a2 d2
     have hlb := HBB.out
     obtain ⟨_, _, _, _, _, _, _, a7, _, _⟩ := sx_cells H6.out.1.b1
     obtain ⟨_, _, _, _, _, _, _, d7, _, _⟩ := sx_cells H6.out.2.1
     have hfz := H6.out.2.1.free 7
     obtain ⟨w6, hw6⟩ : ∃ q, q = w5.setCell ⟨b10, 7, none⟩ (.string sa.ttl) := ⟨_, rfl⟩
     have H7 := Lib.hid (show S2 w w6 b sa scN ∧ Sx w6 b10 { s with ttl := sa.ttl } ∧ ScOwn w1.heap.size w6 { s with ttl := sa.ttl } { A with x := 0, y := 0, hid := false } from by
      have hg6 : w5.grownBy w6 (some b10) := by rw [hw6]; exact grownBy_set w5 ⟨b10, 7, none⟩ _
      have hlo := H6.out.1.lo
      have hsz := H6.out.1.bel.size
      have hx : Sx w6 b10 { s with ttl := sa.ttl } := by rw [hw6]; exact Sx.set H6.out.2.1 rfl (by omega)
      refine ⟨⟨H6.out.1.b1.grown hg6 (by intro e; injection e with e; omega), H6.out.1.b2.grown hg6 (by intro e; injection e with e; omega), H6.out.1.bel.grown hg6 hsz (fun k hk => by injection hk with hk; omega), hlo⟩, hx, ?_⟩
      have hcx : Cx w1.heap.size w6 s.A s.n s.k A.cells := ⟨H6.out.2.2.cx.len, H6.out.2.2.cx.le, H6.out.2.2.cx.max, fun hn => by
       obtain ⟨q, e, hb, hQ⟩ := H6.out.2.2.cx.own hn
       exact ⟨q, e, hb, hQ.grown hg6 (fun e2 => by injection e2 with e2; exact Rw.apart hQ H6.out.2.1 (by decide) e2.symm)⟩⟩
      have htx : Tx w1.heap.size w6 s.T s.m s.q [] := Tx.onto H6.out.2.2.tx H6.out.2.1 (by decide) hg6
      have hl := HI.out.2.lk
      have hmo := HI.out.2.mo
      have hbs := H6.out.2.2.sc
      refine ⟨⟨?_, ?_, hbs.x, hbs.y, hbs.hid, ?_, HI.out.1.ttl, hcx.vs, ?_, hbs.nk, hbs.n9, hbs.mq, HI.out.1.lk, ?_, HI.out.1.tz⟩, hcx, ?_, H6.out.2.2.n, H6.out.2.2.m⟩
      · show A.c = s.c
        rw [HSC.out.1, HCR.out.1, HI.out.2.ec]
      · show A.r = s.r
        rw [HSC.out.2.1, HCR.out.2, HI.out.2.er]
      · show A.mouse = s.mouse
        rw [hmo]
        exact hbs.mouse
      · show Vs stV w6 s.T s.m A.links
        rw [hl]
        exact htx.vs
      · show ∀ u ∈ A.links, _
        rw [hl]
        intro u hu
        cases hu
      · show Tx _ w6 s.T s.m s.q A.links
        rw [hl]
        exact htx)
     go_upto_region 10 with fail
     rw [← hw6]
     clear hw6 a7 d7 hfz
     obtain ⟨d0, d1, d2, d3, d4, d5, d6, d7, d8, _⟩ := sx_cells H7.out.2.1
     try dsimp only at d0 d1 d2 d3 d4 d5 d6 d7 d8
     go_wp2_with (refine wpList_store_V rfl 25 (.tmp 8) (.tmp 45) rfl scF_len one_sc info56 (b + 1) _ 0 { s with ttl := sa.ttl } _ rfl (by omega) rfl rfl 25 [scN] H7.out.1.b2 (by decide) ?_; intro w7 hR7 hg7)
     have HE := Lib.hid (show Below w.heap.size w w7 ∧ ScOwn w.heap.size w7 { s with ttl := sa.ttl } { A with x := 0, y := 0, hid := false } from
      ⟨H7.out.1.bel.grown hg7 H7.out.1.bel.size (fun k hk => by injection hk with hk; have := H7.out.1.lo; omega), (H7.out.2.2.grown hg7 (by have := HBZ.out; omega)).lower (by have := H7.out.1.lo; have := HBZ.out; omega)⟩)
     obtain ⟨y0, y1, y2, y3, y4, y5, y6, y7, y8, _⟩ := sx_cells (s := { s with ttl := sa.ttl }) hR7
     try dsimp only at y0 y1 y2 y3 y4 y5 y6 y7 y8
     have hyes : ¬ (fl < 4 ∧ (cols ≠ A.c ∨ rows ≠ A.r)) := fun hh => by
      have h1 := HI.out.2.ec
      have h2 := HI.out.2.er
      have h3 := HCR.out
      rcases hh.2 with e | e
      · exact e (by rw [h3.1, h1])
      · exact e (by rw [h3.2, h2])
     exact bodyPost_ret (v := .tuple #[.agg (scrA { s with ttl := sa.ttl }), .int .i64 0]) (by simp [results, Tryz.results35, scrA, go_sem, y0, y1, y2, y3, y4, y5, y6, y7, y8]) rfl ⟨HE.out.1, .inl ⟨_, rfl, by rw [if_pos (show fl < 4 from by have := H4.out; omega)]; exact HE.out.2, HZ.out, HN3.out, hyes⟩⟩
open Go.RowKit
def RdNewPost (zs : List Int) (w : World) (e : Ending) (w' : World) : Prop :=
 ∃ r A n c, e = .returned (.pointer (some ⟨r, 0, none⟩)) ∧ Rd 72 w.heap.size w' r A n c zs 0 ∧ Below w.heap.size w w'
theorem new_any {w : World} {A : Option Addr} {n c : Nat} {zs : List Int} (h : Sb w A n zs) (hn : n ≤ 140737488355328) :
  Calls Tryz.prog 19 #[.slice A n c] w (RdNewPost zs w) := by
 go_enter Tryz.func19, Tryz.ntmps19
 go_wp2_with fail
 refine (clone_any h hn).mono ?_
 rintro e w1 ⟨v, rfl, A1, n1, c1, rfl, hm⟩
 have HM := Lib.hid hm
 clear hm
 go_wp2
 have hm := HM.out
 have hs := hm.below.size
 have HP : RdNewPost zs w (.returned (.pointer (some ⟨w1.heap.size, 0, none⟩))) (w1.alloc (.cells #[.slice A1 n1 c1, .int .i64 0] 72)) :=
  ⟨w1.heap.size, A1, n1, c1, rfl, ⟨heap_alloc_new _ _, hm.sb.alloc _, hm.le, hm.max, hs, fun ad hA => by subst hA; exact own_block hm.own⟩, hm.below.alloc hs _⟩
 go_ret
 exact HP
def TakePost (base : Nat) (w : World) (r : Nat) (q : List Int × List Int × Int) (e' : Ending) (w' : World) : Prop :=
 ∃ v, e' = .returned v ∧ Fresh 5 q.1 w v w' ∧ RdTo 72 base w r q.2.1 q.2.2 w'
theorem take_any {base : Nat} {w : World} {r : Nat} {A : Option Addr} {m c : Nat} {zs : List Int} {e : Int} (h : Rd 72 base w r A m c zs e) (hm : m ≤ 140737488355328) (n : Int) (hn : n ≤ 9223372036854775807) :
  Calls Tryz.prog 36 #[.pointer (some ⟨r, 0, none⟩), .int .i64 n] w (TakePost base w r (take1 zs e n)) := by
 have hl := Lib.hid h.sb.len
 by_cases h0 : e = 0
 · subst h0
   by_cases h1 : n < 0
   · have HP : TakePost base w r (take1 zs 0 n) (.returned (.slice none 0 0)) (w.setCell ⟨r, 1, none⟩ (.int .i64 1)) := by
      unfold take1; rw [if_neg (by simp), if_pos h1]; exact ⟨_, rfl, Fresh.nil _ _ _, RdTo.err h 1⟩
     have hc0 := h.cell0
     have hc1 := h.cell1
     have hf := h.free 1
     go_enter Tryz.func36, Tryz.ntmps36
     go_wp2_with (go_at_call 58; refine (reads_any h).mono ?_; rintro e w' ⟨rfl, rfl⟩)
     go_ret
     exact HP
   · by_cases h2 : (m : Int) < n
     · have HP : TakePost base w r (take1 zs 0 n) (.returned (.slice none 0 0)) (w.setCell ⟨r, 1, none⟩ (.int .i64 2)) := by
        unfold take1; rw [if_neg (by simp), if_neg h1, hl.out, if_pos h2]; exact ⟨_, rfl, Fresh.nil _ _ _, RdTo.err h 2⟩
       have hc0 := h.cell0
       have hc1 := h.cell1
       have hf := h.free 1
       go_enter Tryz.func36, Tryz.ntmps36
       go_wp2_with (go_at_call 58; refine (reads_any h).mono ?_; rintro e w' ⟨rfl, rfl⟩)
       go_ret
       exact HP
     · obtain ⟨k, rfl⟩ : ∃ k : Nat, n = k := ⟨n.toNat, by omega⟩
       have hk : k ≤ m := by omega
       have hmc := h.le
       have hcm := h.max
       unfold maxLen at hcm
       have hc0 := h.cell0
       go_enter Tryz.func36, Tryz.ntmps36
       go_wp2_with (go_at_call 58; refine (reads_any h).mono ?_; rintro e w' ⟨rfl, rfl⟩)
       refine (clone_any (h.sb.front hk) (by omega)).mono ?_
       rintro e w1 ⟨v, rfl, A1, n1, c1, rfl, hm1⟩
       have hr1 := h.below hm1.below
       have hd0 := hr1.cell0
       have hf := hr1.free 0
       have HM := Lib.hid hm1
       clear hm1 hc0
       have HP : TakePost base w r (take1 zs 0 k) (.returned (.slice A1 n1 c1)) (w1.setCell ⟨r, 0, none⟩ (.slice (if c = k then A else A.map (·.add k)) (m - k) (c - k))) := by
        unfold take1; rw [if_neg (by simp), if_neg (by omega), hl.out, if_neg (by omega)]
        exact ⟨_, rfl, ⟨A1, n1, c1, rfl, HM.out.fresh.setCell h.lt _⟩, ⟨_, _, _, hr1.setRest hk⟩, grownBy_trans (grownBy_below HM.out.below) (grownBy_set _ _ _)⟩
       by_cases hck : c = k
       · rw [if_pos hck] at HP
         subst hck
         obtain rfl : m = c := by omega
         simp only [Nat.sub_self] at HP
         go_wp2
         all_goals first | (exfalso; omega) | (go_ret; exact HP)
       · rw [if_neg hck] at HP
         go_wp2
         all_goals first | (exfalso; omega) | (go_ret; exact HP)
 · have HP : TakePost base w r (take1 zs e n) (.returned (.slice none 0 0)) w := by
    unfold take1; rw [if_pos h0]; exact ⟨_, rfl, Fresh.nil _ _ _, RdTo.refl h⟩
   have H : (e == 0) = false := by simpa using h0
   clear h0
   go_enter Tryz.func36, Tryz.ntmps36
   go_wp2_with (go_at_call 58; refine (reads_any h).mono ?_; rintro e w' ⟨rfl, rfl⟩)
   go_ret
   exact HP
open Go.RowKit
theorem pow256_le {i j : Nat} (h : i ≤ j) : (256 : Int) ^ i ≤ 256 ^ j := by
 have h1 : (256 : Nat) ^ i ≤ 256 ^ j := Nat.pow_le_pow_right (by omega) h
 have h2 : ((256 ^ i : Nat) : Int) ≤ ((256 ^ j : Nat) : Int) := Int.ofNat_le.2 h1
 simpa using h2
theorem shl_step {acc d : Int} (h0 : 0 ≤ acc) (h1 : acc < 72057594037927936) (h2 : 0 ≤ d) (h3 : d ≤ 255) : bits .or .u64 (acc * 256) d = acc * 256 + d := by
 rw [u64_or _ _ (by omega) (by omega) h2 (by omega), nat_join 8]
 · omega
 · omega
 · omega
def NumPost (base : Nat) (w : World) (r : Nat) (q : Int × List Int × Int) (e' : Ending) (w' : World) : Prop :=
 e' = .returned (.int .u64 q.1) ∧ RdTo 72 base w r q.2.1 q.2.2 w'
theorem rnum_any {base : Nat} {w : World} {r : Nat} {A : Option Addr} {m c : Nat} {zs : List Int} {e : Int} (h : Rd 72 base w r A m c zs e) (hu : U8s zs) (hm : m ≤ 140737488355328) (n : Int) (hn : n ≤ 9223372036854775807) :
  Calls Tryz.prog 33 #[.pointer (some ⟨r, 0, none⟩), .int .i64 n] w (NumPost base w r (num1 zs e n)) := by
 by_cases h0 : e = 0
 · subst h0
   by_cases h1 : 1 ≤ n ∧ n ≤ 8
   · have hb : decide (1 ≤ n ∧ n ≤ 8) = true := by simpa using h1
     have hq := Lib.hid (num1_of_take (zs := zs) (n := n) (by omega))
     go_enter Tryz.func33, Tryz.ntmps33
     go_wp2_with (first
      | (go_at_call 58; refine (reads_any h).mono ?_; rintro e w' ⟨rfl, rfl⟩)
      | (go_at_call 59; refine (sizeMay_any _ _).mono ?_; rintro e w' ⟨rfl, rfl⟩))
     refine (take_any h hm n hn).mono ?_
     rintro e w1 ⟨v, rfl, ⟨A1, n1, c1, rfl, hf⟩, hto⟩
     have HP : NumPost base w r (num1 zs 0 n) (.returned (.int .u64 (valL 0 (take1 zs 0 n).1))) w1 := by
      rw [hq.out]; exact ⟨rfl, hto⟩
     have hl := Lib.hid hf.len
     have hlen := take1_len zs (n := n) (by omega)
     have hu1 : U8s (take1 zs 0 n).1 := fun z hz => hu z (take1_mem hz)
     obtain ⟨ys, hys⟩ : ∃ ys, ys = (take1 zs 0 n).1 := ⟨_, rfl⟩
     rw [← hys] at hf hl HP hlen hu1
     have hsb := hf.sb
     have hn1 : n1 ≤ 8 := by have := hl.out; omega
     clear hys hto hf hlen hq hb h1 hn
     go_wp2
     go_loop [21, 5] (fun i x => ∃ k : Nat, k ≤ n1 ∧ i = .int .i64 k ∧ x = .int .u64 (valL 0 (ys.take k))) (fun i _ => n1 - (intOf i).toNat)
     case atStart => exact ⟨0, Nat.zero_le _, rfl, rfl⟩
     case round =>
      obtain ⟨k, hk, rfl, rfl⟩ := hrel
      by_cases hlt : k < n1
      · obtain ⟨ad, rfl⟩ := hsb.addr (by omega)
        have hc := hsb.cell hlt
        have hd := hu1.getD k
        have hstep := valL_step (zs := ys) (k := k) (by have := hl.out; omega)
        have hbd := valL_bound (zs := ys.take k) (fun z hz => hu1 z (List.mem_of_mem_take hz)) 0 (by omega)
        have hpow := pow256_le (i := (ys.take k).length) (j := 7) (by simp; omega)
        have e7 : (256 : Int) ^ 7 = 72057594037927936 := by decide
        rw [e7] at hpow
        obtain ⟨d, hd'⟩ : ∃ d, d = ys.getD k 0 := ⟨_, rfl⟩
        rw [← hd'] at hc hd hstep
        obtain ⟨acc, ha⟩ : ∃ acc, acc = valL 0 (ys.take k) := ⟨_, rfl⟩
        rw [← ha] at hbd hstep ⊢
        obtain ⟨hb1, hb2⟩ := hbd
        have hb3 : acc < 72057594037927936 := by omega
        obtain ⟨hd1, hd2⟩ := hd
        have HS := Lib.hid (hstep.trans (shl_step hb1 hb3 hd1 hd2).symm)
        clear hstep hpow hb2 hd' ha e7
        go_wp2
        go_round
        case rel => exact ⟨k + 1, by omega, by go_num, by rw [HS.out]⟩
        case measure => simp [intOf]; omega
      · have hz : ys.take k = ys := List.take_of_length_le (by have := hl.out; omega)
        rw [hz]
        clear hz
        go_wp2
        go_ret
        exact HP
   · have hb : decide (1 ≤ n ∧ n ≤ 8) = false := by simpa using h1
     have HP : NumPost base w r (num1 zs 0 n) (.returned (.int .u64 0)) (w.setCell ⟨r, 1, none⟩ (.int .i64 1)) := by
      unfold num1; rw [if_neg (by simp), if_pos (by omega)]; exact ⟨rfl, RdTo.err h 1⟩
     have hc1 := h.cell1
     have hf := h.free 1
     go_enter Tryz.func33, Tryz.ntmps33
     go_wp2_with (first
      | (go_at_call 58; refine (reads_any h).mono ?_; rintro e w' ⟨rfl, rfl⟩)
      | (go_at_call 59; refine (sizeMay_any _ _).mono ?_; rintro e w' ⟨rfl, rfl⟩))
     go_ret
     exact HP
 · have HP : NumPost base w r (num1 zs e n) (.returned (.int .u64 0)) w := by
    unfold num1; rw [if_pos h0]; exact ⟨rfl, RdTo.refl h⟩
   have H : (e == 0) = false := by simpa using h0
   clear h0
   go_enter Tryz.func33, Tryz.ntmps33
   go_wp2_with (go_at_call 58; refine (reads_any h).mono ?_; rintro e w' ⟨rfl, rfl⟩)
   go_ret
   exact HP
end Go.Proofs.YtikhknnhmnopbaaGreatDoor
