/-
  Part 3 of what the laws of emul want: Recs, CellMem.
-/
import Derived.Deep.MidRow
import Derived.Laws.MakeOwn
import Derived.Test.YtikhknnhmnopbaaDoorPj01
import Derived.Test.YtikhknnhmnopbaaDoorPj02
namespace Go.Proofs.YtikhknnhmnopbaaDoor
open Go.RowKit
section
variable {α : Type} {f : α → List Value} {d : Nat} {w w' : World} {A : Option Addr} {n : Nat} {L : List α}
def rowV (f : α → List Value) : List α → List Value
 | [] => []
 | a :: L => f a ++ rowV f L
theorem rowV_append (f : α → List Value) (L M : List α) : rowV f (L ++ M) = rowV f L ++ rowV f M := by
 induction L with
 | nil => rfl
 | cons a L ih => simp [rowV, ih]
theorem rowV_len (hf : ∀ a, (f a).length = d) (L : List α) : (rowV f L).length = L.length * d := by
 induction L with
 | nil => simp [rowV]
 | cons a L ih => simp [rowV, ih, hf, Nat.succ_mul]; omega
theorem rowV_get (hf : ∀ a, (f a).length = d) {k : Nat} {a : α} (hk : L[k]? = some a) {j : Nat} {v : Value} (hj : (f a)[j]? = some v) : (rowV f L)[k * d + j]? = some v := by
 have hlt : j < (f a).length := (List.getElem?_eq_some_iff.1 hj).1
 induction L generalizing k with
 | nil => simp at hk
 | cons b L ih =>
  cases k with
  | zero =>
   simp at hk
   subst hk
   rw [rowV, Nat.zero_mul, Nat.zero_add, List.getElem?_append_left hlt, hj]
  | succ k =>
   have := ih (k := k) (by simpa using hk)
   rw [rowV, List.getElem?_append_right (by rw [hf, Nat.succ_mul]; omega), hf, ← this]
   congr 1
   rw [Nat.succ_mul]
   omega
theorem rowV_take (hf : ∀ a, (f a).length = d) (L : List α) (k : Nat) : (rowV f L).take (k * d) = rowV f (L.take k) := by
 induction L generalizing k with
 | nil => simp [rowV]
 | cons a L ih =>
  cases k with
  | zero => simp [rowV]
  | succ k =>
   rw [rowV, List.take_append, hf, List.take_of_length_le (by rw [hf, Nat.succ_mul]; omega), show (k + 1) * d - d = k * d by rw [Nat.succ_mul]; omega, ih]
   simp [rowV]
theorem rowV_drop (hf : ∀ a, (f a).length = d) (L : List α) (k : Nat) : (rowV f L).drop (k * d) = rowV f (L.drop k) := by
 induction L generalizing k with
 | nil => simp [rowV]
 | cons a L ih =>
  cases k with
  | zero => simp [rowV]
  | succ k =>
   rw [rowV, List.drop_append, hf, List.drop_eq_nil_of_le (by rw [hf, Nat.succ_mul]; omega), show (k + 1) * d - d = k * d by rw [Nat.succ_mul]; omega, ih]
   simp
structure Vs (f : α → List Value) (w : World) (A : Option Addr) (n : Nat) (L : List α) : Prop where
 len : L.length = n
 at_ : 0 < n → ∃ ad, A = some ad ∧ ad.block < w.heap.size ∧ ∀ j v, (rowV f L)[j]? = some v → w.cell? (ad.add j) = some v
theorem Vs.nil (w : World) (A : Option Addr) : Vs f w A 0 [] := ⟨rfl, fun h => absurd h (by omega)⟩
theorem Vs.keep (h : Vs f w A n L) (hs : w.heap.size ≤ w'.heap.size) (hk : ∀ p : Addr, 0 < n → A.map (·.block) = some p.block → p.block < w.heap.size → w'.cell? p = w.cell? p) : Vs f w' A n L :=
 ⟨h.len, fun hn => by
  obtain ⟨ad, rfl, hb, hc⟩ := h.at_ hn
  exact ⟨ad, rfl, by omega, fun j v hj => (hk (ad.add j) hn (by simp [addBlock]) (by rw [addBlock]; exact hb)).trans (hc j v hj)⟩⟩
theorem Vs.below (h : Vs f w A n L) (hb : Below w.heap.size w w') : Vs f w' A n L := h.keep hb.size fun _ _ _ hp => hb.cell hp
theorem Vs.drewN (h : Vs f w A n L) (q : Nat) : Vs f (w.drewN q) A n L := ⟨h.len, h.at_⟩
theorem Vs.alloc (h : Vs f w A n L) (o : Obj) : Vs f (w.alloc o) A n L := h.below ((Below.refl _ _).alloc (Nat.le_refl _) o)
theorem Vs.grown (h : Vs f w A n L) {row : Option Nat} (hg : w.grownBy w' row) (hne : ∀ ad, A = some ad → 0 < n → row ≠ some ad.block) : Vs f w' A n L :=
 h.keep hg.size fun p hn hA hp => World.cell?_of_block (hg.block p.block hp (fun e => by
  cases A with
  | none => simp at hA
  | some ad => simp at hA; exact hne ad rfl hn (by rw [← e, hA])))
theorem Vs.addr (h : Vs f w A n L) (hn : 0 < n) : ∃ ad, A = some ad := by obtain ⟨ad, e, _⟩ := h.at_ hn; exact ⟨ad, e⟩
theorem Vs.lt {ad : Addr} (h : Vs f w (some ad) n L) (hn : 0 < n) : ad.block < w.heap.size := by
 obtain ⟨ad', e, hb, _⟩ := h.at_ hn
 injection e with e
 subst e
 exact hb
theorem Vs.news {ad : Addr} (h : Vs f w (some ad) n L) : ∀ j v, (rowV f L)[j]? = some v → w.cell? (ad.add j) = some v := by
 intro j v hj
 by_cases hn : 0 < n
 · obtain ⟨ad', e, _, hc⟩ := h.at_ hn
   injection e with e
   subst e
   exact hc j v hj
 · obtain rfl : L = [] := List.eq_nil_of_length_eq_zero (by rw [h.len]; omega)
   simp [rowV] at hj
theorem Vs.get (hf : ∀ a, (f a).length = d) {ad : Addr} (h : Vs f w (some ad) n L) {k : Nat} {a : α} (hk : L[k]? = some a) : ∀ j v, (f a)[j]? = some v → w.cell? ((ad.add (k * d)).add j) = some v := fun j v hj => by
 rw [addAdd]
 exact h.news _ _ (rowV_get hf hk hj)
theorem Vs.front (hf : ∀ a, (f a).length = d) (h : Vs f w A n L) {k : Nat} (hk : k ≤ n) : Vs f w A k (L.take k) := by
 refine ⟨by rw [List.length_take, h.len]; omega, fun hn => ?_⟩
 obtain ⟨ad, rfl, hb, hc⟩ := h.at_ (by omega)
 refine ⟨ad, rfl, hb, fun j v hj => hc j v ?_⟩
 rw [← rowV_take hf, List.getElem?_take] at hj
 split at hj
 · exact hj
 · cases hj
theorem Vs.cut (hf : ∀ a, (f a).length = d) (h : Vs f w A n L) {k c : Nat} (hk : k ≤ n) (hc : n ≤ c) : Vs f w (if c = k then A else A.map (·.add (k * d))) (n - k) (L.drop k) := by
 refine ⟨by rw [List.length_drop, h.len], fun hn => ?_⟩
 obtain ⟨ad, rfl, hb, hcell⟩ := h.at_ (by omega)
 rw [if_neg (by omega)]
 refine ⟨ad.add (k * d), rfl, by rw [addBlock]; exact hb, fun j v hj => ?_⟩
 rw [addAdd]
 rw [← rowV_drop hf, List.getElem?_drop] at hj
 exact hcell _ _ hj
def Rw (f : α → List Value) (t : TypeId) (w : World) (g : Nat) (L : List α) : Prop := ∃ rest : List Value, w.heap[g]? = some (.cells (rowV f L ++ rest).toArray t (0, 0))
theorem Rw.lt {t : TypeId} {g : Nat} (h : Rw f t w g L) : g < w.heap.size := by obtain ⟨r, h⟩ := h; exact (Array.getElem?_eq_some_iff.1 h).1
theorem Rw.kept {t : TypeId} {g : Nat} (h : Rw f t w g L) (hb : w'.heap[g]? = w.heap[g]?) : Rw f t w' g L := by obtain ⟨r, h⟩ := h; exact ⟨r, hb.trans h⟩
theorem Rw.below {t : TypeId} {g : Nat} (h : Rw f t w g L) (hb : Below w.heap.size w w') : Rw f t w' g L := h.kept (hb.block _ h.lt)
theorem Rw.grown {t : TypeId} {g : Nat} (h : Rw f t w g L) {row : Option Nat} (hg : w.grownBy w' row) (hne : row ≠ some g) : Rw f t w' g L := h.kept (hg.block _ h.lt fun e => hne e.symm)
theorem Rw.cell {t : TypeId} {g : Nat} (h : Rw f t w g L) {j : Nat} {v : Value} (hj : (rowV f L)[j]? = some v) : w.cell? ⟨g, j, none⟩ = some v := by
 obtain ⟨r, h⟩ := h
 rw [cell_of_row w g j _ t (0, 0) h]
 have hlt : j < (rowV f L).length := (List.getElem?_eq_some_iff.1 hj).1
 rw [List.getElem?_toArray, List.getElem?_append_left hlt, hj]
theorem Rw.vs {t : TypeId} {g : Nat} (h : Rw f t w g L) : Vs f w (some ⟨g, 0, none⟩) L.length L := ⟨rfl, fun _ => ⟨_, rfl, h.lt, fun j v hj => by rw [addHead]; exact h.cell hj⟩⟩
theorem Rw.get (hf : ∀ a, (f a).length = d) {t : TypeId} {g : Nat} (h : Rw f t w g L) {k : Nat} {a : α} (hk : L[k]? = some a) : w.rangeAt g (k * d) (f a) := fun _ _ hj => h.cell (rowV_get hf hk hj)
theorem Rw.free {t : TypeId} {g : Nat} (h : Rw f t w g L) (j : Nat) : w.frozen? ⟨g, j, none⟩ = false := by obtain ⟨r, h⟩ := h; simp [World.frozen?, h]
theorem Rw.there (hf : ∀ a, (f a).length = d) {t : TypeId} {g : Nat} (h : Rw f t w g L) {k m : Nat} (hk : k + m ≤ L.length) : w.there g (k * d) (m * d) := fun j hj => by
 refine ⟨?_, h.free _⟩
 have hl := rowV_len hf L
 have h2 : (k + m) * d ≤ L.length * d := Nat.mul_le_mul_right _ hk
 have h3 : k * d + j < (rowV f L).length := by rw [hl]; rw [Nat.add_mul] at h2; omega
 rw [h.cell (List.getElem?_eq_getElem h3)]
 rfl
theorem own_rw {base : Nat} {e : TypeId} {g c : Nat} (h : w.ownsRow base e d (.slice (some ⟨g, 0, none⟩) n c) n (rowV f L)) : Rw f e w g L := by
 rcases h.2 with ⟨h3, h4⟩ | ⟨g', cap, cur, hv, hb, hg, hle, hm, hs, ht⟩
 · cases h3
 · injection hv with hA _ hc
   injection hA with hA
   injection hA with hA
   subst hA
   refine ⟨cur.toList.drop (n * d), ?_⟩
   rw [← ht, List.take_append_drop, Array.toArray_toList]
   exact hg
theorem setCells_row (g : Nat) (t : TypeId) : ∀ (vs : List Value) (o : Nat) (cur : List Value) (w : World), w.heap[g]? = some (.cells cur.toArray t (0, 0)) → o + vs.length ≤ cur.length →
  (w.setCells g o vs).heap[g]? = some (.cells (cur.take o ++ (vs ++ cur.drop (o + vs.length))).toArray t (0, 0)) ∧ (∀ k, k ≠ g → (w.setCells g o vs).heap[k]? = w.heap[k]?) ∧ (w.setCells g o vs).heap.size = w.heap.size ∧
   (w.setCells g o vs).os = w.os ∧ (w.setCells g o vs).tape = w.tape ∧ (w.setCells g o vs).output = w.output := by
 intro vs
 induction vs with
 | nil => intro o cur w h _; exact ⟨by simpa [World.setCells] using h, fun _ _ => rfl, rfl, rfl, rfl, rfl⟩
 | cons v vs ih =>
  intro o cur w h hl
  simp only [List.length_cons] at hl
  have h1 : (w.setCell ⟨g, o, none⟩ v).heap[g]? = some (.cells (cur.set o v).toArray t (0, 0)) := by
   rw [heap_setCell_same w _ _ _ _ _ h]
   simp
  obtain ⟨e1, e2, e3, e4, e5, e6⟩ := ih (o + 1) (cur.set o v) (w.setCell ⟨g, o, none⟩ v) h1 (by simp; omega)
  have e0 : w.setCells g o (v :: vs) = (w.setCell ⟨g, o, none⟩ v).setCells g (o + 1) vs := rfl
  rw [e0]
  refine ⟨?_, fun k hk => (e2 k hk).trans (heap_setCell_other w _ k v hk), by rw [e3]; simp, e4, e5, e6⟩
  rw [e1]
  congr 3
  have := list_seg_step cur o v vs (by simpa using hl)
  simpa [Nat.add_assoc] using this
theorem Rw.stored (hf : ∀ a, (f a).length = d) {t : TypeId} {g : Nat} (h : Rw f t w g L) {k : Nat} {M : List α} (hk : k + M.length ≤ L.length) :
  Rw f t (w.setCells g (k * d) (rowV f M)) g (L.take k ++ (M ++ L.drop (k + M.length))) ∧ w.grownBy (w.setCells g (k * d) (rowV f M)) (some g) := by
 obtain ⟨r, h⟩ := h
 have hl := rowV_len hf L
 have hm := rowV_len hf M
 have h2 : (k + M.length) * d ≤ L.length * d := Nat.mul_le_mul_right _ hk
 rw [Nat.add_mul] at h2
 obtain ⟨e1, e2, e3, e4, e5, e6⟩ := setCells_row g t (rowV f M) (k * d) _ w h (by rw [List.length_append]; omega)
 refine ⟨⟨r, ?_⟩, e4, e5, e6, by omega, fun i _ hne => e2 i fun e => hne (by rw [e])⟩
 rw [e1]
 congr 2
 rw [List.take_append_of_le_length (by omega), List.drop_append_of_le_length (by omega), hm, ← Nat.add_mul, rowV_take hf, rowV_drop hf, rowV_append, rowV_append]
 simp only [List.append_assoc]
end
open Go.RowKit
def ceV (c : Ce) : List Value := [.int .i32 c.r, .int .u8 c.wd, .int .u32 c.p.fg, .int .u32 c.p.bg, .int .u8 c.p.st, .int .u16 c.p.lk]
def ceA (c : Ce) : Array Value := #[.int .i32 c.r, .int .u8 c.wd, .int .u32 c.p.fg, .int .u32 c.p.bg, .int .u8 c.p.st, .int .u16 c.p.lk]
def pnA (p : Pn) : Array Value := #[.int .u32 p.fg, .int .u32 p.bg, .int .u8 p.st, .int .u16 p.lk]
theorem ceV_len (c : Ce) : (ceV c).length = 6 := rfl
theorem getElem?_cAt {L : List Ce} {k : Nat} (h : k < L.length) : L[k]? = some (cAt L k) := by rw [cAt_lt h, List.getElem?_eq_getElem h]
theorem one_ce (L : List Ce) : ∀ v ∈ rowV ceV L, v.oneCell' = true := by
 induction L with
 | nil => intro v hv; cases hv
 | cons c L ih =>
  intro v hv
  rcases List.mem_append.1 hv with hv | hv
  · simp only [ceV, List.mem_cons, List.not_mem_nil, or_false] at hv
    rcases hv with rfl | rfl | rfl | rfl | rfl | rfl <;> rfl
  · exact ih v hv
end Go.Proofs.YtikhknnhmnopbaaDoor
