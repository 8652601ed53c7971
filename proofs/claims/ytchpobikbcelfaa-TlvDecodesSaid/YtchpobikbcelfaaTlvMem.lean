/-
  Items in memory: a slice of items reads as a list of items, all the way down, within blocks of a kind; how that is kept while other memory is made or written.
-/
import Derived.Test.YtchpobikbcelfaaWireMem
import Derived.Test.YtchpobikbcelfaaTlvSpec
namespace Go.Proofs.Ytchpobikbcelfaa
open Go.RowKit

/-- The five cells of an item whose bytes and items lie there. -/
def It.cs (x : It) (B : Option Addr) (bn bc : Nat) (C : Option Addr) (cn cc : Nat) : List Value :=
  [.int .i64 x.kind, .bool x.crit, .bool x.lst, .slice B bn bc, .slice C cn cc]

/-- The bytes of an item: a slice in blocks of the kind S. -/
structure Bs (w : World) (S : Nat → Prop) (B : Option Addr) (bn bc : Nat) (zs : List Int) : Prop where
  sb : Sb w B bn zs
  u8 : U8s zs
  le : bn ≤ bc
  max : bc ≤ maxLen
  lt : bn ≤ 140737488351232
  at_ : ∀ ad, B = some ad → 0 < bn → S ad.block

/-- Cells that read as items; R: what a slice of items within must be. -/
def RowP (R : Option Addr → Nat → Nat → List It → Prop) (w : World) (S : Nat → Prop) : List It → List Value → Prop
  | [], xs => xs = []
  | x :: l, xs => ∃ B bn bc C cn cc ys, xs = x.cs B bn bc C cn cc ++ ys ∧ Bs w S B bn bc x.bytes ∧ R C cn cc x.items ∧ RowP R w S l ys

/-- A slice of n items at A reads as l, no deeper than d lists. -/
def Its (w : World) (S : Nat → Prop) : Nat → Option Addr → Nat → Nat → List It → Prop
  | 0, _, n, c, l => n = 0 ∧ l = [] ∧ c ≤ maxLen
  | d + 1, A, n, c, l => l.length = n ∧ n ≤ c ∧ c ≤ maxLen ∧ (0 < n → ∃ ad xs, A = some ad ∧ S ad.block ∧ ad.block < w.heap.size ∧ RowP (Its w S d) w S l xs ∧
      ∀ j v, xs[j]? = some v → w.cell? (ad.add j) = some v)

theorem item_free {w : World} {bx : Nat} {cs : Array Value} {t : TypeId} (h : w.heap[bx]? = some (.cells cs t (0, 0))) : ∀ k, w.frozen? ⟨bx, k, none⟩ = false := by
  intro k; simp [World.frozen?, h]
theorem item_cells {w : World} {bx : Nat} {v0 v1 v2 v3 v4 : Value} {t : TypeId} (h : w.heap[bx]? = some (.cells #[v0, v1, v2, v3, v4] t (0, 0))) :
    w.cell? ⟨bx, 0, none⟩ = some v0 ∧ w.cell? ⟨bx, 1, none⟩ = some v1 ∧ w.cell? ⟨bx, 2, none⟩ = some v2 ∧ w.cell? ⟨bx, 3, none⟩ = some v3 ∧ w.cell? ⟨bx, 4, none⟩ = some v4 := by
  refine ⟨?_, ?_, ?_, ?_, ?_⟩ <;> simp [World.cell?, h]

section
variable {w w' : World} {S S' : Nat → Prop}

theorem Bs.stay {B : Option Addr} {bn bc : Nat} {zs : List Int} (h : Bs w S B bn bc zs) (hs : w.heap.size ≤ w'.heap.size) (hk : ∀ b, S b → b < w.heap.size → w'.heap[b]? = w.heap[b]?) : Bs w' S B bn bc zs :=
  ⟨h.sb.keep hs fun p hn hA hp => World.cell?_of_block (by
    cases hB : B with
    | none => rw [hB] at hA; cases hA
    | some ad =>
      rw [hB] at hA
      have e : ad.block = p.block := by simpa using hA
      exact hk _ (e ▸ h.at_ ad hB hn) hp), h.u8, h.le, h.max, h.lt, h.at_⟩
theorem Bs.mono {B : Option Addr} {bn bc : Nat} {zs : List Int} (h : Bs w S B bn bc zs) (hk : ∀ b, S b → b < w.heap.size → S' b) : Bs w S' B bn bc zs :=
  ⟨h.sb, h.u8, h.le, h.max, h.lt, fun ad e hn => by
    obtain ⟨ad', e', hlt, _⟩ := h.sb.at_ hn
    rw [e] at e'
    injection e' with e'
    subst e'
    exact hk _ (h.at_ ad e hn) hlt⟩

theorem RowP.imp {R R' : Option Addr → Nat → Nat → List It → Prop} {l : List It} {xs : List Value} (h : RowP R w S l xs) (hb : ∀ B bn bc zs, Bs w S B bn bc zs → Bs w' S' B bn bc zs) (hR : ∀ C cn cc i, R C cn cc i → R' C cn cc i) : RowP R' w' S' l xs := by
  induction l generalizing xs with
  | nil => exact h
  | cons x l ih =>
    obtain ⟨B, bn, bc, C, cn, cc, ys, e, h1, h2, h3⟩ := h
    exact ⟨B, bn, bc, C, cn, cc, ys, e, hb _ _ _ _ h1, hR _ _ _ _ h2, ih h3⟩
theorem RowP.len {R : Option Addr → Nat → Nat → List It → Prop} {l : List It} {xs : List Value} (h : RowP R w S l xs) : xs.length = l.length * 5 := by
  induction l generalizing xs with
  | nil => rw [show xs = [] from h]; rfl
  | cons x l ih =>
    obtain ⟨B, bn, bc, C, cn, cc, ys, e, _, _, h3⟩ := h
    have := ih h3
    rw [e]
    simp [It.cs, this]
    omega
theorem RowP.snoc {R : Option Addr → Nat → Nat → List It → Prop} {l : List It} {xs : List Value} (h : RowP R w S l xs) {x : It} {B : Option Addr} {bn bc : Nat} {C : Option Addr} {cn cc : Nat} (h1 : Bs w S B bn bc x.bytes) (h2 : R C cn cc x.items) :
    RowP R w S (l ++ [x]) (xs ++ x.cs B bn bc C cn cc) := by
  induction l generalizing xs with
  | nil =>
    rw [show xs = [] from h]
    exact ⟨B, bn, bc, C, cn, cc, [], by simp, h1, h2, rfl⟩
  | cons y l ih =>
    obtain ⟨B', bn', bc', C', cn', cc', ys, e, h3, h4, h5⟩ := h
    exact ⟨B', bn', bc', C', cn', cc', _, by rw [e, List.append_assoc], h3, h4, ih h5⟩
theorem RowP.get {R : Option Addr → Nat → Nat → List It → Prop} {l : List It} {xs : List Value} (h : RowP R w S l xs) {k : Nat} {x : It} (hk : l[k]? = some x) :
    ∃ B bn bc C cn cc, Bs w S B bn bc x.bytes ∧ R C cn cc x.items ∧ ∀ j v, (x.cs B bn bc C cn cc)[j]? = some v → xs[k * 5 + j]? = some v := by
  induction l generalizing xs k with
  | nil => simp at hk
  | cons y l ih =>
    obtain ⟨B, bn, bc, C, cn, cc, ys, e, h1, h2, h3⟩ := h
    cases k with
    | zero =>
      simp at hk
      subst hk
      refine ⟨B, bn, bc, C, cn, cc, h1, h2, fun j v hj => ?_⟩
      have hlt : j < (y.cs B bn bc C cn cc).length := by
        rcases Nat.lt_or_ge j (y.cs B bn bc C cn cc).length with h0 | h0
        · exact h0
        · rw [List.getElem?_eq_none h0] at hj; cases hj
      rw [e, Nat.zero_mul, Nat.zero_add, List.getElem?_append_left hlt, hj]
    | succ k =>
      obtain ⟨B', bn', bc', C', cn', cc', h4, h5, h6⟩ := ih h3 (k := k) (by simpa using hk)
      refine ⟨B', bn', bc', C', cn', cc', h4, h5, fun j v hj => ?_⟩
      have h7 : (y.cs B bn bc C cn cc).length = 5 := rfl
      rw [e, List.getElem?_append_right (by omega), h7, ← h6 j v hj]
      congr 1
      omega

theorem Its.stay {d : Nat} {A : Option Addr} {n c : Nat} {l : List It} (h : Its w S d A n c l) (hs : w.heap.size ≤ w'.heap.size) (hk : ∀ b, S b → b < w.heap.size → w'.heap[b]? = w.heap[b]?) : Its w' S d A n c l := by
  induction d generalizing A n c l with
  | zero => exact h
  | succ d ih =>
    obtain ⟨h1, h2, h3, h4⟩ := h
    refine ⟨h1, h2, h3, fun hn => ?_⟩
    obtain ⟨ad, xs, e, h5, h6, h7, h8⟩ := h4 hn
    exact ⟨ad, xs, e, h5, Nat.lt_of_lt_of_le h6 hs, h7.imp (fun _ _ _ _ hb => hb.stay hs hk) (fun _ _ _ _ hi => ih hi), fun j v hj => (World.cell?_of_block (by rw [addBlock]; exact hk _ h5 h6)).trans (h8 j v hj)⟩
theorem Its.mono {d : Nat} {A : Option Addr} {n c : Nat} {l : List It} (h : Its w S d A n c l) (hk : ∀ b, S b → b < w.heap.size → S' b) : Its w S' d A n c l := by
  induction d generalizing A n c l with
  | zero => exact h
  | succ d ih =>
    obtain ⟨h1, h2, h3, h4⟩ := h
    refine ⟨h1, h2, h3, fun hn => ?_⟩
    obtain ⟨ad, xs, e, h5, h6, h7, h8⟩ := h4 hn
    exact ⟨ad, xs, e, hk _ h5 h6, h6, h7.imp (fun _ _ _ _ hb => hb.mono hk) (fun _ _ _ _ hi => ih hi), h8⟩
/-- One list deeper. -/
theorem Its.up {d : Nat} {A : Option Addr} {n c : Nat} {l : List It} (h : Its w S d A n c l) : Its w S (d + 1) A n c l := by
  induction d generalizing A n c l with
  | zero =>
    obtain ⟨rfl, rfl, hc⟩ := h
    exact ⟨rfl, Nat.zero_le _, hc, fun h0 => absurd h0 (by omega)⟩
  | succ d ih =>
    obtain ⟨h1, h2, h3, h4⟩ := h
    refine ⟨h1, h2, h3, fun hn => ?_⟩
    obtain ⟨ad, xs, e, h5, h6, h7, h8⟩ := h4 hn
    exact ⟨ad, xs, e, h5, h6, h7.imp (fun _ _ _ _ hb => hb) (fun _ _ _ _ hi => ih hi), h8⟩

theorem Its.len {d : Nat} {A : Option Addr} {n c : Nat} {l : List It} (h : Its w S d A n c l) : l.length = n := by
  cases d with
  | zero => obtain ⟨rfl, rfl, _⟩ := h; rfl
  | succ d => exact h.1
theorem Its.below {d : Nat} {A : Option Addr} {n c : Nat} {l : List It} (h : Its w S d A n c l) (hb : Below w.heap.size w w') : Its w' S d A n c l :=
  h.stay hb.size fun b _ hlt => hb.block b hlt
theorem Its.alloc {d : Nat} {A : Option Addr} {n c : Nat} {l : List It} (h : Its w S d A n c l) (o : Obj) : Its (w.alloc o) S d A n c l :=
  h.below ((Below.refl _ _).alloc (Nat.le_refl _) _)
theorem Its.drewN {d : Nat} {A : Option Addr} {n c : Nat} {l : List It} (h : Its w S d A n c l) (q : Nat) : Its (w.drewN q) S d A n c l :=
  h.stay (Nat.le_refl _) fun _ _ _ => rfl
theorem Its.grown {d : Nat} {A : Option Addr} {n c : Nat} {l : List It} (h : Its w S d A n c l) {row : Option Nat} (hg : w.grownBy w' row) (hr : ∀ b, S b → row ≠ some b) : Its w' S d A n c l :=
  h.stay hg.size fun b hb hlt => hg.block b hlt fun e => hr b hb e.symm
theorem Its.setCell {d : Nat} {A : Option Addr} {n c : Nat} {l : List It} (h : Its w S d A n c l) {a : Addr} (ha : ¬ S a.block) (u : Value) : Its (w.setCell a u) S d A n c l :=
  h.stay (by simp) fun b hb _ => heap_setCell_other w a b u fun e => ha (e ▸ hb)

theorem addOut (ad : Addr) (k j : Nat) : (⟨(ad.add k).block, (ad.add k).off + (j + 1), none⟩ : Addr) = ad.add (k + (j + 1)) := by
  rw [← addAdd]; rfl
/-- The item at a place of a slice: its five cells, its bytes, its items. -/
structure At (w : World) (S : Nat → Prop) (d : Nat) (ad : Addr) (k : Nat) (x : It) (B : Option Addr) (bn bc : Nat) (C : Option Addr) (cn cc : Nat) : Prop where
  c0 : w.cell? (ad.add (k * 5)) = some (.int .i64 x.kind)
  c1 : w.cell? ⟨(ad.add (k * 5)).block, (ad.add (k * 5)).off + 1, none⟩ = some (.bool x.crit)
  c2 : w.cell? ⟨(ad.add (k * 5)).block, (ad.add (k * 5)).off + 2, none⟩ = some (.bool x.lst)
  c3 : w.cell? ⟨(ad.add (k * 5)).block, (ad.add (k * 5)).off + 3, none⟩ = some (.slice B bn bc)
  c4 : w.cell? ⟨(ad.add (k * 5)).block, (ad.add (k * 5)).off + 4, none⟩ = some (.slice C cn cc)
  b : Bs w S B bn bc x.bytes
  i : Its w S d C cn cc x.items
theorem Its.get {d : Nat} {A : Option Addr} {n c : Nat} {l : List It} (h : Its w S (d + 1) A n c l) {k : Nat} {x : It} (hk : l[k]? = some x) :
    ∃ ad B bn bc C cn cc, A = some ad ∧ S ad.block ∧ ad.block < w.heap.size ∧ At w S d ad k x B bn bc C cn cc := by
  have hlt : k < l.length := by
    rcases Nat.lt_or_ge k l.length with h0 | h0
    · exact h0
    · rw [List.getElem?_eq_none h0] at hk; cases hk
  obtain ⟨h1, _, _, h4⟩ := h
  obtain ⟨ad, xs, e, h5, h6, h7, h8⟩ := h4 (by omega)
  obtain ⟨B, bn, bc, C, cn, cc, g1, g2, g3⟩ := h7.get hk
  refine ⟨ad, B, bn, bc, C, cn, cc, e, h5, h6, ?_, ?_, ?_, ?_, ?_, g1, g2⟩
  · exact h8 _ _ (g3 0 _ rfl)
  · rw [addOut]; exact h8 _ _ (g3 1 _ rfl)
  · rw [addOut]; exact h8 _ _ (g3 2 _ rfl)
  · rw [addOut]; exact h8 _ _ (g3 3 _ rfl)
  · rw [addOut]; exact h8 _ _ (g3 4 _ rfl)
end

theorem oneItem (x : It) (B : Option Addr) (bn bc : Nat) (C : Option Addr) (cn cc : Nat) : ∀ u ∈ x.cs B bn bc C cn cc, u.oneCell' = true := by
  intro u hu
  unfold It.cs at hu
  simp only [List.mem_cons, List.not_mem_nil, or_false] at hu
  rcases hu with rfl | rfl | rfl | rfl | rfl <;> rfl
/-- The one item that is laid for an append. -/
theorem oneCellsAt (w : World) (vs : List Value) (t : TypeId) : ∀ j u, vs[j]? = some u → (w.alloc (.cells vs.toArray t)).cell? ((⟨w.heap.size, 0, none⟩ : Addr).add j) = some u := by
  intro j u hu
  rw [addHead, cell_of_row _ _ j _ _ _ (heap_alloc_new w (.cells vs.toArray t))]
  simpa using hu

theorem drop_cons {l : List It} {k : Nat} {x : It} (h : l[k]? = some x) : l.drop k = x :: l.drop (k + 1) := by
  obtain ⟨h1, h2⟩ := List.getElem?_eq_some_iff.1 h
  rw [List.drop_eq_getElem_cons h1, h2]

/-- What has been laid, one item more. -/
theorem itsB_take {l : List It} {k : Nat} {x : It} {ys : List Int} (hx : l[k]? = some x) (hy : ys = x.inner) : itsB (l.take (k + 1)) = (itsB (l.take k) ++ varL (fnum x.kind x.crit x.lst)) ++ (varL (ys.length : Int) ++ ys) := by
  have e : l.take (k + 1) = l.take k ++ [x] := by rw [List.take_add_one, hx]; rfl
  rw [e, itsB_snoc, itB_eq, hy, List.append_assoc]

theorem own_below {w w' : World} {base : Nat} {e : TypeId} {size : Nat} {v : Value} {n : Nat} {xs : List Value} (h : w.ownsRow base e size v n xs) (hb : Below w.heap.size w w') : w'.ownsRow base e size v n xs :=
  h.kept (grownBy_below (row := none) hb) (by cases v.ownBlock <;> simp)
theorem fnum_bounds {k : Int} (c s : Bool) (h0 : 0 ≤ k) (h1 : k ≤ 1000) : 0 ≤ fnum k c s ∧ fnum k c s ≤ 4003 := by
  unfold fnum; cases c <;> cases s <;> simp <;> omega

end Go.Proofs.Ytchpobikbcelfaa
