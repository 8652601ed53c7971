/-
  How a row of records of any width that came in is opened.
-/
import Derived.Test.YtappnfifhpmekaaDoorOpen
import Derived.Test.YtappnfifhpmekaaDoorRecs
import Derived.Deep.Fields
import Derived.Deep.Slices
import Derived.OpenShut
namespace Go.Proofs.YtappnfifhpmekaaDoor
open Go.ChangeShapes Go.WideShapes Go.ChangeAt Go.RowKit Go.Deep

/-- Records that lie one behind the other. -/
theorem vs_of {α : Type} {f : α → List Value} {d : Nat} (hf : ∀ a, (f a).length = d) {w : World} {ad : Addr} {Q : α → Prop} : ∀ (n : Nat), (∀ k, k < n → ∃ a, Q a ∧ ∀ j v, (f a)[j]? = some v → w.cell? (ad.add (k * d + j)) = some v) →
    ∃ L : List α, L.length = n ∧ (∀ a ∈ L, Q a) ∧ ∀ j v, (rowV f L)[j]? = some v → w.cell? (ad.add j) = some v := by
  intro n
  induction n with
  | zero => intro _; exact ⟨[], rfl, (fun a h => by cases h), fun j v hj => by simp [rowV] at hj⟩
  | succ n ih =>
    intro h
    obtain ⟨L, h1, h2, h3⟩ := ih fun k hk => h k (by omega)
    obtain ⟨a, hq, ha⟩ := h n (by omega)
    refine ⟨L ++ [a], by simp [h1], fun b hb => ?_, fun j v hj => ?_⟩
    · rcases List.mem_append.1 hb with hb | hb
      · exact h2 b hb
      · rw [List.mem_singleton.1 hb]; exact hq
    · rw [rowV_append] at hj
      have hl := rowV_len hf L
      rw [h1] at hl
      rcases Nat.lt_or_ge j (n * d) with hlt | hge
      · rw [List.getElem?_append_left (by omega)] at hj
        exact h3 j v hj
      · rw [List.getElem?_append_right (by omega), hl] at hj
        have e : rowV f [a] = f a := by simp [rowV]
        rw [e] at hj
        have := ha _ _ hj
        rwa [show n * d + (j - n * d) = j by omega] at this
theorem open_rows {α : Type} {f : α → List Value} {d0 : Nat} (hf : ∀ a, (f a).length = d0) (hd : 0 < d0) {Q : α → Prop} {H : Type} {enc : TypeId × Value → H} {W : World} {base : Nat} {v : Value} {d : DataW H} {p : List MemPlace} (t e : TypeId) (ht : Tryd.prog.underlying t = some (.slice e)) (he : Tryd.prog.cellsOf e = d0)
    (htrod : ∀ (fuel : Nat) (cs : List Value) (x : DataW H × List MemPlace), DataW.trod enc Tryd.prog W 0 (fun _ => true) true fuel e cs = some x → ∃ a : α, cs = f a ∧ Q a)
    (hv : Value.okWide Tryd.prog W .any base t v) (h : DataW.Trod enc Tryd.prog W 0 (fun _ => true) true t v d p) :
    ∃ A n c L, v = .slice A n c ∧ Vs f W A n L ∧ (∀ a ∈ L, Q a) ∧ n ≤ c ∧ c ≤ maxLen := by
  obtain ⟨A, n, c, rfl⟩ := okWide_slice ht hv
  obtain ⟨fuel, hx⟩ := h
  rcases open_slice ht hx with ⟨hcs, _⟩ | ⟨a, len, cap, m, n1, D, Pl, hcs, hb, hl, hm, hmm, _, hi⟩
  · simp [Value.cells] at hcs
    obtain ⟨rfl, rfl, rfl⟩ := hcs
    exact ⟨none, 0, 0, [], rfl, Vs.nil _ _, (fun _ h => by cases h), Nat.le_refl _, by unfold maxLen; omega⟩
  · simp [Value.cells] at hcs
    obtain ⟨rfl, rfl, rfl⟩ := hcs
    simp only [if_true] at hmm
    subst hmm
    obtain ⟨L, h1, h2, h3⟩ := vs_of hf (w := W) (ad := a) (Q := Q) n fun k hk => by
      obtain ⟨cs', hc, ht'⟩ := hi k (by omega)
      rw [he] at hc
      obtain ⟨_, hcl, hat⟩ := World.cells?_some hc
      obtain ⟨q, e1, hq⟩ := htrod _ _ _ ht'
      refine ⟨q, hq, fun j v hj => ?_⟩
      have hjl : j < d0 := by
        have := (List.getElem?_eq_some_iff.1 hj).1
        rwa [hf] at this
      rw [← Go.Deep.add_add, hat j hjl, e1]
      exact hj
    refine ⟨some a, n, _, L, rfl, ⟨h1, fun hn => ⟨a, rfl, ?_, h3⟩⟩, h2, hl, hm⟩
    have hr : 0 < (rowV f L).length := by rw [rowV_len hf, h1]; exact Nat.mul_pos hn hd
    have h0 := h3 0 _ (List.getElem?_eq_getElem hr)
    have := World.block_lt_of_cell? W _ h0
    rwa [addBlock] at this
end Go.Proofs.YtappnfifhpmekaaDoor
