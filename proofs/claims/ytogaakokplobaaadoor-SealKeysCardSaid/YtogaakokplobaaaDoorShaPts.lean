/-
  Slices of slices of bytes and slices of ints: what the laws of layer 3 are handed, and what they make of it.
-/
import Derived.Test.YtogaakokplobaaaDoorShaTab
import Derived.Deep.DeepCutAuto
import Derived.Deep.Cut
namespace Go.Proofs.YtogaakokplobaaaDoor
open Go.ChangeShapes Go.WideShapes Go.ChangeAt Go.RowKit

theorem infoS : (Tryd.prog.info? 22).map (fun i => (i.zero, i.size, i.bytes)) = some (some (.slice none 0 0), 1, 24) := by kernel_rfl
theorem sizeSl (w : World) : (sizeOf 22).run Tryd.prog w = .ok 1 w := by kernel_rfl

/-- Values that are slices of bytes that lie in old memory. -/
def Pv (w : World) (xs : List Value) (L : List (List Int)) : Prop :=
  xs.length = L.length ∧ ∀ j, j < L.length → ∃ A' m c', xs[j]? = some (.slice A' m c') ∧ Sb w A' m (L.getD j []) ∧ m ≤ c' ∧ c' ≤ 9223372036854775807 ∧ B8s (L.getD j [])
theorem Pv.nil (w : World) : Pv w [] [] := ⟨rfl, fun j hj => by cases hj⟩
theorem Pv.snoc {w : World} {xs : List Value} {L : List (List Int)} (h : Pv w xs L) {A' : Option Addr} {m c' : Nat} {z : List Int} (hs : Sb w A' m z) (h1 : m ≤ c') (h2 : c' ≤ 9223372036854775807) (h3 : B8s z) : Pv w (xs ++ [.slice A' m c']) (L ++ [z]) := by
  refine ⟨by simp [h.1], fun j hj => ?_⟩
  by_cases hlt : j < L.length
  · obtain ⟨A2, m2, c2, e1, e2⟩ := h.2 j hlt
    refine ⟨A2, m2, c2, by rw [List.getElem?_append_left (by rw [h.1]; exact hlt)]; exact e1, ?_⟩
    have e3 : (L ++ [z]).getD j [] = L.getD j [] := by simp only [List.getD, List.getElem?_append_left hlt]
    rw [e3]; exact e2
  · have hj2 : j = L.length := by simp at hj; omega
    subst hj2
    refine ⟨A', m, c', by rw [List.getElem?_append_right (by rw [h.1]; omega), h.1, Nat.sub_self]; rfl, ?_⟩
    have e3 : (L ++ [z]).getD L.length [] = z := by simp [List.getD]
    rw [e3]; exact ⟨hs, h1, h2, h3⟩
theorem Pv.below {w w' : World} {xs : List Value} {L : List (List Int)} (h : Pv w xs L) (hb : Below w.heap.size w w') : Pv w' xs L :=
  ⟨h.1, fun j hj => by
    obtain ⟨A', m, c', e1, e2, e3⟩ := h.2 j hj
    exact ⟨A', m, c', e1, e2.below hb, e3⟩⟩
/-- A row of the call's own of such values. -/
theorem Ps.own {w w' : World} {base : Nat} {xs : List Value} {L : List (List Int)} {A : Option Addr} {n c : Nat} (h : w'.ownsRow base 22 1 (.slice A n c) n xs) (hp : Pv w xs L) (hb : Below w.heap.size w w') : Ps w' A n L := by
  have hl : xs.length = n := by have := h.1; simpa using this
  refine ⟨hp.1.symm.trans hl, fun hn => ?_⟩
  obtain ⟨_, h2⟩ := h
  rcases h2 with ⟨h3, h4⟩ | ⟨g, cap, cur, hv, hb', hg, hle, hm, hs, ht⟩
  · subst h4
    simp at hl
    omega
  · injection hv with hA _ hc
    subst hA
    refine ⟨_, rfl, (Array.getElem?_eq_some_iff.1 hg).1, fun k hk => ?_⟩
    have hlL := hp.1
    obtain ⟨A', m, c', e1, e2, e3⟩ := hp.2 k (by omega)
    refine ⟨A', m, c', ?_, e2.below hb, e3⟩
    rw [addHead, cell_of_row w' g k cur 22 (0, 0) hg]
    have h5 := e1
    rw [← ht, List.getElem?_take, if_pos (by omega)] at h5
    simpa using h5

/-- The front of a slice. -/
theorem run_slice_high {P : Program} (w : World) (t e : TypeId) (A : Option Addr) (n c k : Nat) (ht : P.underlying t = some (.slice e)) (hsz : ∀ w, (sizeOf e).run P w = .ok 1 w) (hk : k ≤ c) :
    (Instr.sliceAt t (.slice A n c) none (some (.int .i64 (k : Int))) none).run P w = .ok (.slice A k c) w := by
  have e0 : ∀ a : Addr, a.add 0 = a := fun a => by simp [Addr.add]
  cases A <;> simp [Instr.sliceAt, Instr.slice, run_underlying ht, Instr.sliceBounds, Instr.sliceBound, asIntOf, hsz, hk, e0]

/-- A slice of ints that reads as a list. -/
structure Si (w : World) (A : Option Addr) (n : Nat) (ks : List Int) : Prop where
  len : ks.length = n
  at_ : 0 < n → ∃ ad, A = some ad ∧ ad.block < w.heap.size ∧ ∀ k, k < n → w.cell? (ad.add k) = some (.int .i64 (ks.getD k 0)) ∧ (Lit.int .i64 (ks.getD k 0)).wf = true
theorem cellsInt : Tryd.prog.cellsOf 3 = 1 := by kernel_rfl
/-- An operation whose guard says yes is walked as one without a guard. -/
theorem wpList_unguard {P : Program} {ops : Array Oper} {rest : List Oper} {o : Oper} {a : Act} {w : World} {Q : Exit → Act → World → Prop} (hw : Region.wanted o (yielded ops a.tmps) = true)
    (h : wpList P ops Q ({ o with guard := none } :: rest) a w) : wpList P ops Q (o :: rest) a w := by
  simp only [wpList, hw, if_true]
  simp only [wpList, Region.wanted, if_true] at h
  exact h

theorem own_belowS {w w' : World} {base : Nat} {e : TypeId} {size : Nat} {v : Value} {n : Nat} {xs : List Value} (h : w.ownsRow base e size v n xs) (hb : Below w.heap.size w w') : w'.ownsRow base e size v n xs := by
  obtain ⟨h1, h2⟩ := h
  refine ⟨h1, ?_⟩
  rcases h2 with h2 | ⟨g, cap, cur, hv, hg, hh, r⟩
  · exact .inl h2
  · exact .inr ⟨g, cap, cur, hv, hg, (hb.block g (Array.getElem?_eq_some_iff.1 hh).1).trans hh, r⟩

/-- append of one slice of bytes onto a row of the call's own. -/
theorem wpList_app1 {ops : Array Oper} {rest : List Oper} {o : Oper} {a : Act} {Q : Exit → Act → World → Prop} (hgd : o.guard = none) (s x : Operand)
    (ho : o.op = .call { callee := .builtin .append, args := #[s, x], argTypes := #[59, 59] })
    (w wr : World) (A : Option Addr) (n c : Nat) (xs : List Value) (hown : wr.ownsRow w.heap.size 22 1 (.slice A n c) n xs) (hbel : Below w.heap.size w wr) (A2 : Option Addr) (m c2 : Nat) (hn : n ≤ 1000000)
    (hs : a.eval s = .slice A n c) (hx : a.eval x = .slice (some ⟨wr.heap.size, 0, none⟩) 1 1)
    (h : ∀ A' c' w', w'.ownsRow w.heap.size 22 1 (.slice A' (n + 1) c') (n + 1) (xs ++ [.slice A2 m c2]) → Below w.heap.size w w' → wpList Tryd.prog ops Q rest (a.put o.dst (.slice A' (n + 1) c')) w') :
    wpList Tryd.prog ops Q (o :: rest) a (wr.alloc (.cells #[.slice A2 m c2] 22)) := by
  obtain ⟨i0, hi, hz0, hz1, hz2⟩ := info_parts infoS
  refine wpList_append_own _ hgd s x 59 ho w.heap.size 22 i0 (.slice none 0 0) 1 24 Tryd.underlying59 hi hz0 hz1 hz2 rfl (by decide) (.slice A n c) n xs hs (hown.alloc _) ⟨wr.heap.size, 0, none⟩ 1 1 [.slice A2 m c2] hx rfl ?_ ?_ (by unfold maxLen; omega) (by omega) (by have := hbel.size; simp; omega) ?_
  · intro j u hu
    have hj : j = 0 := by
      rcases j with _ | j
      · rfl
      · simp at hu
    subst hj
    rw [addHead, cell_of_row _ _ 0 _ _ _ (heap_alloc_new wr _)]
    simpa using hu
  · intro u hu
    simp at hu
    subst hu
    rfl
  · intro v' w1 hown1 hg _
    obtain ⟨A', c', rfl, _⟩ := own_shape hown1
    exact h A' c' w1 hown1 (below_app hown hbel hbel.size _ hg)

end Go.Proofs.YtogaakokplobaaaDoor
