/-
  append of slices of bytes, however many, onto a row of the call's own.
-/
import Derived.Test.YtogaakokplobaaaDoorShaPts
import Derived.Test.YtogaakokplobaaaDoorShaSize
namespace Go.Proofs.YtogaakokplobaaaDoor
open Go.ChangeShapes Go.WideShapes Go.ChangeAt Go.RowKit

theorem getD_append_left {L L' : List (List Int)} {j : Nat} (h : j < L.length) : (L ++ L').getD j [] = L.getD j [] := by simp only [List.getD, List.getElem?_append_left h]
theorem getD_append_right {L L' : List (List Int)} {j : Nat} (h : L.length ≤ j) : (L ++ L').getD j [] = L'.getD (j - L.length) [] := by simp only [List.getD, List.getElem?_append_right h]
theorem Pv.append {w : World} {xs ys : List Value} {L L' : List (List Int)} (h : Pv w xs L) (h' : Pv w ys L') : Pv w (xs ++ ys) (L ++ L') := by
  refine ⟨by simp [h.1, h'.1], fun j hj => ?_⟩
  by_cases hlt : j < L.length
  · obtain ⟨A', m, c', e1, e2⟩ := h.2 j hlt
    refine ⟨A', m, c', by rw [List.getElem?_append_left (by rw [h.1]; exact hlt)]; exact e1, ?_⟩
    rw [getD_append_left hlt]; exact e2
  · have hj2 : j - L.length < L'.length := by simp at hj; omega
    obtain ⟨A', m, c', e1, e2⟩ := h'.2 _ hj2
    refine ⟨A', m, c', by rw [List.getElem?_append_right (by rw [h.1]; omega), h.1]; exact e1, ?_⟩
    rw [getD_append_right (by omega)]; exact e2
/-- The values that lie in parts. -/
theorem Ps.vals {w : World} {ad : Addr} {m : Nat} {L : List (List Int)} (h : Ps w (some ad) m L) :
    ∃ news : List Value, news.length = m ∧ (∀ j u, news[j]? = some u → w.cell? (ad.add j) = some u) ∧ (∀ u ∈ news, u.oneCell' = true) ∧ Pv w news L ∧ (0 < m → ad.block < w.heap.size) := by
  rcases Nat.eq_zero_or_pos m with h0 | h0
  · subst h0
    obtain rfl : L = [] := List.eq_nil_of_length_eq_zero h.len
    exact ⟨[], rfl, fun j u hu => (by simp at hu), fun u hu => (by cases hu), Pv.nil w, fun h => absurd h (by omega)⟩
  obtain ⟨ad', e, hb, hel⟩ := h.at_ h0
  injection e with e
  subst e
  have hval : ∀ k, k < m → w.cell? (ad.add k) = some ((w.cell? (ad.add k)).getD undef) := fun k hk => by
    obtain ⟨A', m', c', e1, _⟩ := hel k hk
    rw [e1]; rfl
  refine ⟨(List.range m).map fun k => (w.cell? (ad.add k)).getD undef, by simp, fun j u hu => ?_, fun u hu => ?_, ⟨by simp [h.len], fun j hj => ?_⟩, fun _ => hb⟩
  · have hj : j < m := by
      rcases Nat.lt_or_ge j m with hlt | hge
      · exact hlt
      · rw [List.getElem?_eq_none (by simpa using hge)] at hu; cases hu
    rw [List.getElem?_map, List.getElem?_range hj] at hu
    rw [hval j hj]
    simpa using hu
  · obtain ⟨k, hk, rfl⟩ := List.mem_map.1 hu
    obtain ⟨A', m', c', e1, _⟩ := hel k (List.mem_range.1 hk)
    rw [e1]; rfl
  · have hjm : j < m := by rw [← h.len]; exact hj
    obtain ⟨A', m', c', e1, e2⟩ := hel j hjm
    refine ⟨A', m', c', ?_, e2⟩
    rw [List.getElem?_map, List.getElem?_range hjm]
    simp [e1]

theorem run_app_nilS {P : Program} (w : World) (base : Nat) (t ty e : TypeId) (i : TypeInfo) (size : Nat) (ht : P.underlying t = some (.slice e)) (hi : P.info? e = some i)
    (v : Value) (n : Nat) (xs : List Value) (hown : w.ownsRow base e size v n xs) (c : Nat) : (Builtin.append_ #[t, t] ty #[v, .slice none 0 c]).run P w = .ok v w := run_app_nil w base t ty e i size ht hi v n xs hown c

/-- append of parts. w: the world of which the parts are told; the row has been made since. -/
theorem wpList_appS {ops : Array Oper} {rest : List Oper} {o : Oper} {a : Act} {Q : Exit → Act → World → Prop} (hgd : o.guard = none) (s x : Operand)
    (ho : o.op = .call { callee := .builtin .append, args := #[s, x], argTypes := #[59, 59] })
    (w wr : World) (v : Value) (n : Nat) (xs : List Value) (hown : wr.ownsRow w.heap.size 22 1 v n xs) (hbel : Below w.heap.size w wr) (B : Option Addr) (m d : Nat) (L : List (List Int)) (hp : Ps w B m L) (hnm : n + m ≤ 1000000)
    (hs : a.eval s = v) (hx : a.eval x = .slice B m d)
    (h : ∀ A' c' w' news, w'.ownsRow w.heap.size 22 1 (.slice A' (n + m) c') (n + m) (xs ++ news) → Pv w news L → Below w.heap.size w w' → wpList Tryd.prog ops Q rest (a.put o.dst (.slice A' (n + m) c')) w') :
    wpList Tryd.prog ops Q (o :: rest) a wr := by
  obtain ⟨i0, hi, hz0, hz1, hz2⟩ := info_parts infoS
  cases B with
  | none =>
    have hm : m = 0 := by
      rcases Nat.eq_zero_or_pos m with h0 | h0
      · exact h0
      · obtain ⟨ad, h1, _⟩ := hp.at_ h0
        cases h1
    subst hm
    obtain rfl : L = [] := List.eq_nil_of_length_eq_zero hp.len
    refine wpList_plain hgd fun K hK => ?_
    have hrun := run_app_nil (P := Tryd.prog) wr w.heap.size 59 o.type 22 i0 1 Tryd.underlying59 hi v n xs hown d
    obtain ⟨A', c', rfl, _⟩ := own_shape hown
    unfold Oper.wp
    simp [execOp, ho, resolve, invoke, builtin, hs, hx, hrun, Result.andThen]
    exact hK _ _ (h A' c' wr [] (by simpa using hown) (Pv.nil w) hbel)
  | some ad =>
    obtain ⟨news, h1, h2, h3, h4, h5⟩ := hp.vals
    refine wpList_append_own _ hgd s x 59 ho w.heap.size 22 i0 (.slice none 0 0) 1 24 Tryd.underlying59 hi hz0 hz1 hz2 rfl (by decide) v n xs hs hown ad m d news hx (by omega) ?_ h3 (by unfold maxLen; omega) (by omega) hbel.size ?_
    · intro j u hu
      have h6 := h2 j u hu
      have h7 := World.block_lt_of_cell? w _ h6
      rw [hbel.cell h7, h6]
    · intro v' w1 hown1 hg _
      obtain ⟨A', c', rfl, _⟩ := own_shape hown1
      exact h A' c' w1 news hown1 h4 (below_app0 hown hbel hbel.size hg)

end Go.Proofs.YtogaakokplobaaaDoor
