/-
  Slices of numbers of any kind that the call makes: read, and appended to.
-/
import Derived.Test.YtappnfifhpmekaaDoorInts
import Derived.Laws.AppendOwnNone
namespace Go.Proofs.YtappnfifhpmekaaDoor
open Go.RowKit

theorem Ik.own {q : IntKind} {w : World} {A : Option Addr} {n : Nat} {zs : List Int} {base : Nat} {e : TypeId} {c : Nat} (h : w.ownsRow base e 1 (.slice A n c) n (zs.map (Value.int q))) : Ik q w A n zs := by
  have hl : zs.length = n := by have := h.1; simpa using this
  refine ⟨hl, fun hn => ?_⟩
  obtain ⟨_, h2⟩ := h
  rcases h2 with ⟨h3, h4⟩ | ⟨g, cap, cur, hv, hb, hg, hle, hm, hs, ht⟩
  · omega
  · injection hv with hA _ hc
    subst hA
    refine ⟨_, rfl, (Array.getElem?_eq_some_iff.1 hg).1, fun k hk => ?_⟩
    rw [addHead, cell_of_row w g k cur e (0, 0) hg]
    have h5 : (zs.map (Value.int q))[k]? = some (Value.int q (zs.getD k 0)) := by
      rw [List.getElem?_map, List.getElem?_eq_getElem (by omega), getD_lt (by omega)]; rfl
    rw [← ht, List.getElem?_take, if_pos (by omega)] at h5
    simpa using h5
theorem Ik.cell {q : IntKind} {w : World} {n : Nat} {zs : List Int} {ad : Addr} (h : Ik q w (some ad) n zs) {k : Nat} (hk : k < n) : w.cell? (ad.add k) = some (.int q (zs.getD k 0)) := by
  obtain ⟨ad', e, _, hc⟩ := h.at_ (by omega)
  injection e with e
  subst e
  exact hc k hk
theorem Ik.news {q : IntKind} {w : World} {ad : Addr} {n : Nat} {zs : List Int} (h : Ik q w (some ad) n zs) : ∀ (j : Nat) (u : Value), (zs.map (Value.int q))[j]? = some u → w.cell? (ad.add j) = some u := by
  intro j u hu
  have hj : j < zs.length := by
    rcases Nat.lt_or_ge j zs.length with hlt | hge
    · exact hlt
    · rw [List.getElem?_eq_none (by simpa using hge)] at hu; cases hu
  have hl := h.len
  rw [h.cell (k := j) (by omega), getD_lt hj]
  rw [List.getElem?_map, List.getElem?_eq_getElem hj] at hu
  simpa using hu
theorem oneCellsI (q : IntKind) (zs : List Int) : ∀ u ∈ zs.map (Value.int q), u.oneCell' = true := by
  intro u hu
  obtain ⟨z, _, rfl⟩ := List.mem_map.1 hu
  rfl
theorem Ik.one (q : IntKind) (w : World) (e : TypeId) (z : Int) : Ik q (w.alloc (.cells #[.int q z] e)) (some ⟨w.heap.size, 0, none⟩) 1 [z] := by
  refine ⟨rfl, fun _ => ⟨_, rfl, by simp, fun k hk => ?_⟩⟩
  obtain rfl : k = 0 := by omega
  rw [addHead, cell_of_row _ _ 0 _ _ _ (heap_alloc_new w (.cells #[.int q z] e))]
  rfl

/-- append onto a row of the call's own, whatever slice of numbers stands behind: nil, empty or not. -/
theorem wpList_appI {P : Program} (w : World) {ops : Array Oper} {rest : List Oper} {o : Oper} {a : Act} {Q : Exit → Act → World → Prop} (hgd : o.guard = none) (s x : Operand) (t : TypeId)
    (ho : o.op = .call { callee := .builtin .append, args := #[s, x], argTypes := #[t, t] })
    (base : Nat) (e : TypeId) (q : IntKind) (b8 : Nat) (hb8 : b8 ≤ 8) (ht : P.underlying t = some (.slice e)) (hi : (P.info? e).map (fun i => (i.zero, i.size, i.bytes)) = some (some (.int q 0), 1, b8))
    (v : Value) (n : Nat) (xs : List Value) (hs : a.eval s = v) (hown : w.ownsRow base e 1 v n xs)
    (A : Option Addr) (m c k : Nat) (hk : n + m = k) (news : List Int) (hx : a.eval x = .slice A m c) (hr : Ik q w A m news) (h63 : k ≤ 1000000) (hbase : base ≤ w.heap.size)
    (h : ∀ A' c' w', w'.ownsRow base e 1 (.slice A' k c') k (xs ++ news.map (Value.int q)) → w.grownBy w' v.ownBlock → wpList P ops Q rest (a.put o.dst (.slice A' k c')) w') : wpList P ops Q (o :: rest) a w := by
  subst hk
  obtain ⟨i0, hi, hz0, hz1, hz2⟩ := info_parts hi
  have hk : ∀ v' w', w'.ownsRow base e 1 v' (n + m) (xs ++ news.map (Value.int q)) → w.grownBy w' v.ownBlock → wpList P ops Q rest (a.put o.dst v') w' := by
    intro v' w' h1 h2
    obtain ⟨A', c', rfl, _⟩ := own_shape h1
    exact h A' c' w' h1 h2
  have h8 : (n + m) * b8 ≤ 1000000 * 8 := Nat.mul_le_mul h63 hb8
  cases A with
  | none =>
    have hm : m = 0 := by
      rcases Nat.eq_zero_or_pos m with h0 | h0
      · exact h0
      · obtain ⟨ad, e1, _⟩ := hr.at_ h0
        cases e1
    subst hm
    have hn : news = [] := List.eq_nil_of_length_eq_zero hr.len
    subst hn
    refine wpList_plain hgd fun K hK => ?_
    have hrun := run_app_nil (P := P) w base t o.type e i0 1 ht hi v n xs hown c
    unfold Oper.wp
    simp [execOp, ho, resolve, invoke, builtin, hs, hx, hrun, Result.andThen]
    exact hK _ _ (hk v w (by simpa using hown) (World.grownBy.refl w _))
  | some ad =>
    exact wpList_append_own w hgd s x t ho base e i0 (.int q 0) 1 b8 ht hi hz0 hz1 hz2 rfl (by decide) v n xs hs hown ad m c (news.map (Value.int q)) hx (by simp [hr.len]) hr.news (oneCellsI q _)
      (by unfold maxLen; omega) (by omega) hbase fun v' w' h1 h2 _ => hk v' w' h1 h2

end Go.Proofs.YtappnfifhpmekaaDoor
