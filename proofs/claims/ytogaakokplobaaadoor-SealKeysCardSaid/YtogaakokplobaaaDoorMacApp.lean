/-
  append onto a row of the call's own, and where the row lies behind it; two such rows side by side.
-/
import Derived.Test.YtogaakokplobaaaDoorWireMem
import Derived.Test.YtogaakokplobaaaDoorWireLeaf
import Derived.Test.YtogaakokplobaaaDoorShaMem
namespace Go.Proofs.YtogaakokplobaaaDoor
open Go.RowKit

theorem mapp_where {P : Program} (w : World) (base : Nat) (t ty e : TypeId) (i : TypeInfo) (z : Value) (ht : P.underlying t = some (.slice e)) (hi : P.info? e = some i) (hz : i.zero = some z)
    (hzs : z.cells.size = i.size) (hsz : 0 < i.size) (v : Value) (n : Nat) (xs : List Value) (hown : w.ownsRow base e i.size v n xs)
    (a : Addr) (m c : Nat) (news : List Value) (hl : news.length = m * i.size) (hnews : ∀ j u, news[j]? = some u → w.cell? (a.add j) = some u) (h1 : ∀ u ∈ news, u.oneCell' = true)
    (h63 : n + m ≤ maxLen) (hbytes : (n + m) * i.bytes ≤ 140737488355328) (hbase : base ≤ w.heap.size) :
    ∃ A' c' w', (Builtin.append_ #[t, t] ty #[v, .slice (some a) m c]).run P w = .ok (.slice A' (n + m) c') w' ∧ w'.ownsRow base e i.size (.slice A' (n + m) c') (n + m) (xs ++ news) ∧ w.grownBy w' v.ownBlock ∧
      (A'.map (·.block) = v.ownBlock ∨ A'.map (·.block) = some w.heap.size) := by
  obtain ⟨v', w', hr, h2, h3, _⟩ := run_append_own (P := P) w base t ty e i z i.size i.bytes ht hi hz rfl rfl hzs hsz v n xs hown a m c news hl hnews h1 h63 hbytes hbase
  obtain ⟨A', c', rfl, _⟩ := own_shape h2
  refine ⟨A', c', w', hr, h2, h3, ?_⟩
  have hsmall : n + m ≤ 9223372036854775807 := by simp only [maxLen] at h63; omega
  rcases hown.2 with ⟨rfl, rfl⟩ | ⟨g, cap, cur, rfl, hbg, hg, hnc, hcm, hcs, htake⟩
  · by_cases hm : m = 0
    · subst hm
      have hn : A' = none := by
        rcases h2.2 with ⟨e1, _⟩ | ⟨g', cap', cur', e1, e2, e3, e4, e5, e6, e7⟩
        · injection e1
        · have hx := List.eq_nil_of_length_eq_zero (by simpa using hl)
          subst hx
          simp [Builtin.append_, run_underlying ht, sizeOf, typeInfo, hi, Builtin.lenOf, Builtin.firstCells, loadCells, loadCellsFrom] at hr
          exact hr.1.1.symm
      subst hn
      exact .inl rfl
    · have hr2 := run_append_nil (P := P) w t ty e i z ht hi hz a m c news hl hnews (by omega) (by omega) (by have hb := hbytes; simp only [Nat.zero_add] at hb; omega)
      rw [hr2] at hr
      injection hr with e1
      injection e1 with e1
      right
      rw [← e1]
      rfl
  · by_cases hroom : n + m ≤ cap
    · have hfit : n * i.size + news.length ≤ cur.size := by rw [hl, hcs, ← Nat.add_mul]; exact Nat.mul_le_mul_right _ hroom
      have hr2 := run_append_room (P := P) w t ty e i ht hi g n cap cur hg a m c news hl hnews h1 hroom hfit
      rw [hr2] at hr
      injection hr with e1
      injection e1 with e1
      left
      rw [← e1]
      rfl
    · have holds : ∀ j u, xs[j]? = some u → w.cell? ((⟨g, 0, none⟩ : Addr).add j) = some u := hown.cells (g := g) rfl
      have hr2 := run_append_grow (P := P) w t ty e i z ht hi hz ⟨g, 0, none⟩ n cap xs hown.1 holds a m c news hl hnews (by omega) (by omega) (growslice_fits (by omega) hbytes)
      rw [hr2] at hr
      injection hr with e1
      injection e1 with e1
      right
      rw [← e1]
      rfl

theorem wpList_mappw {P : Program} (w : World) {ops : Array Oper} {rest : List Oper} {o : Oper} {a : Act} {Q : Exit → Act → World → Prop} (hgd : o.guard = none) (s x : Operand) (t : TypeId)
    (ho : o.op = .call { callee := .builtin .append, args := #[s, x], argTypes := #[t, t] })
    (base : Nat) (e : TypeId) (z : Value) (size bytes : Nat) (ht : P.underlying t = some (.slice e)) (hi : (P.info? e).map (fun i => (i.zero, i.size, i.bytes)) = some (some z, size, bytes)) (hzs : z.cells.size = size) (hsz : 0 < size)
    (v : Value) (n : Nat) (xs : List Value) (hs : a.eval s = v) (hown : w.ownsRow base e size v n xs)
    (ad : Addr) (m c : Nat) (news : List Value) (hx : a.eval x = .slice (some ad) m c) (hl : news.length = m * size) (hnews : ∀ j u, news[j]? = some u → w.cell? (ad.add j) = some u) (h1 : ∀ u ∈ news, u.oneCell' = true)
    (h63 : n + m ≤ maxLen) (hbytes : (n + m) * bytes ≤ 140737488355328) (hbase : base ≤ w.heap.size)
    (h : ∀ A' c' w', w'.ownsRow base e size (.slice A' (n + m) c') (n + m) (xs ++ news) → w.grownBy w' v.ownBlock → (A'.map (·.block) = v.ownBlock ∨ A'.map (·.block) = some w.heap.size) → wpList P ops Q rest (a.put o.dst (.slice A' (n + m) c')) w') : wpList P ops Q (o :: rest) a w := by
  obtain ⟨i0, hi', hz0, hz1, hz2⟩ := info_parts hi
  subst hz1
  subst hz2
  obtain ⟨A', c', w', hrun, h2, h3, h4⟩ := mapp_where (P := P) w base t o.type e i0 z ht hi' hz0 hzs hsz v n xs hown ad m c news hl hnews h1 h63 hbytes hbase
  refine wpList_plain hgd fun K hK => ?_
  unfold Oper.wp
  simp [execOp, ho, resolve, invoke, builtin, hs, hx, hrun, Result.andThen]
  exact hK _ _ (h A' c' w' h2 h3 h4)

/-- append of a slice of bytes, whatever it is, and where the row lies behind it. -/
theorem wpList_mappv {P : Program} (w : World) {ops : Array Oper} {rest : List Oper} {o : Oper} {a : Act} {Q : Exit → Act → World → Prop} (hgd : o.guard = none) (s x : Operand) (t : TypeId)
    (ho : o.op = .call { callee := .builtin .append, args := #[s, x], argTypes := #[t, t] })
    (base : Nat) (e : TypeId) (ht : P.underlying t = some (.slice e)) (hi : (P.info? e).map (fun i => (i.zero, i.size, i.bytes)) = some (some (.int .u8 0), 1, 1))
    (v : Value) (n : Nat) (xs : List Value) (hs : a.eval s = v) (hown : w.ownsRow base e 1 v n xs)
    (A : Option Addr) (m c : Nat) (news : List Int) (hx : a.eval x = .slice A m c) (hr : Sb w A m news) (h63 : n + m ≤ 140737488355328) (hbase : base ≤ w.heap.size)
    (h : ∀ A' c' w', w'.ownsRow base e 1 (.slice A' (n + m) c') (n + m) (xs ++ news.map (Value.int .u8)) → w.grownBy w' v.ownBlock → (A'.map (·.block) = v.ownBlock ∨ A'.map (·.block) = some w.heap.size) → wpList P ops Q rest (a.put o.dst (.slice A' (n + m) c')) w') : wpList P ops Q (o :: rest) a w := by
  cases A with
  | none =>
    have hm : m = 0 := by
      rcases Nat.eq_zero_or_pos m with h0 | h0
      · exact h0
      · obtain ⟨ad, h1⟩ := hr.addr h0
        cases h1
    subst hm
    have hn : news = [] := List.eq_nil_of_length_eq_zero hr.len
    subst hn
    obtain ⟨i0, hi', hz0, hz1, hz2⟩ := info_parts hi
    refine wpList_plain hgd fun K hK => ?_
    have hrun := run_app_nil (P := P) w base t o.type e i0 1 ht hi' v n xs hown c
    obtain ⟨A', c', rfl, _⟩ := own_shape hown
    unfold Oper.wp
    simp [execOp, ho, resolve, invoke, builtin, hs, hx, hrun, Result.andThen]
    exact hK _ _ (h A' c' w (by simpa using hown) (World.grownBy.refl w _) (.inl (by cases A' <;> rfl)))
  | some ad =>
    exact wpList_mappw w hgd s x t ho base e (.int .u8 0) 1 1 ht hi rfl (by decide) v n xs hs hown ad m c (news.map (Value.int .u8)) hx (by simp [hr.len]) hr.news (oneCells _) (by unfold maxLen; omega) (by omega) hbase h

theorem mownBlock_map (A : Option Addr) (m c : Nat) : (Value.slice A m c).ownBlock = A.map (·.block) := by cases A <;> rfl
/-- A row is kept while another block is written. -/
theorem own_grown {w w' : World} {base : Nat} {e : TypeId} {size n m c : Nat} {A : Option Addr} {xs : List Value} {row : Option Nat} (h : w.ownsRow base e size (.slice A m c) n xs) (hg : w.grownBy w' row) (hne : ∀ b, A.map (·.block) = some b → row ≠ some b) : w'.ownsRow base e size (.slice A m c) n xs := by
  obtain ⟨h1, h2⟩ := h
  refine ⟨h1, ?_⟩
  rcases h2 with h2 | ⟨g, cap, cur, hv, hb, hh, r⟩
  · exact .inl h2
  · refine .inr ⟨g, cap, cur, hv, hb, (hg.block g (Array.getElem?_eq_some_iff.1 hh).1 fun e => ?_).trans hh, r⟩
    injection hv with hA
    exact hne g (by rw [hA]; rfl) e.symm

/-- Two rows of the call's own side by side, and two arrays ahead of them. -/
structure RS (w wr : World) (t0 t1 : TypeId) (r0 r1 : Array Value) (A : Option Addr) (n c : Nat) (xs : List Int) (A' : Option Addr) (n' c' : Nat) (xs' : List Int) : Prop where
  o : wr.ownsRow (w.heap.size + 2) 5 1 (.slice A n c) n (xs.map (Value.int .u8))
  o' : wr.ownsRow (w.heap.size + 2) 5 1 (.slice A' n' c') n' (xs'.map (Value.int .u8))
  ne : ∀ b, A.map (·.block) = some b → A'.map (·.block) ≠ some b
  b0 : Blk wr w.heap.size t0 r0
  b1 : Blk wr (w.heap.size + 1) t1 r1
  bel : Below w.heap.size w wr
section
variable {w wr w' : World} {t0 t1 : TypeId} {r0 r1 : Array Value} {A A' : Option Addr} {n c n' c' : Nat} {xs xs' : List Int}

theorem RS.swap (h : RS w wr t0 t1 r0 r1 A n c xs A' n' c' xs') : RS w wr t0 t1 r0 r1 A' n' c' xs' A n c xs := ⟨h.o', h.o, fun b e e' => h.ne b e' e, h.b0, h.b1, h.bel⟩
theorem RS.size (h : RS w wr t0 t1 r0 r1 A n c xs A' n' c' xs') : w.heap.size + 2 ≤ wr.heap.size := h.b1.lt
theorem RS.below (h : RS w wr t0 t1 r0 r1 A n c xs A' n' c' xs') (hb : Below wr.heap.size wr w') : RS w w' t0 t1 r0 r1 A n c xs A' n' c' xs' := by
  have hg : wr.grownBy w' none := ⟨hb.os, hb.tape, hb.output, hb.size, fun k hk _ => hb.block k hk⟩
  exact ⟨own_grown h.o hg (fun b _ e => by cases e), own_grown h.o' hg (fun b _ e => by cases e), h.ne, h.b0.below hb h.b0.lt, h.b1.below hb h.b1.lt, h.bel.trans (hb.mono h.bel.size)⟩
/-- The first row has been appended to. -/
theorem RS.app {B : Option Addr} {m d : Nat} {ys : List Int} (h : RS w wr t0 t1 r0 r1 A n c xs A' n' c' xs') (ho : w'.ownsRow (w.heap.size + 2) 5 1 (.slice B m d) m (ys.map (Value.int .u8))) (hg : wr.grownBy w' (Value.slice A n c).ownBlock)
    (hw : B.map (·.block) = (Value.slice A n c).ownBlock ∨ B.map (·.block) = some wr.heap.size) : RS w w' t0 t1 r0 r1 B m d ys A' n' c' xs' := by
  have hlo : ∀ b, (Value.slice A n c).ownBlock = some b → w.heap.size + 2 ≤ b := fun b e => (h.o.lt b e).1
  have hA' : ∀ b, A'.map (·.block) = some b → b < wr.heap.size := fun b e => (h.o'.lt b (by rw [mownBlock_map]; exact e)).2
  rw [mownBlock_map] at hg hw hlo
  refine ⟨ho, own_grown h.o' hg (fun b e e' => h.ne b e' e), fun b e e' => ?_, ?_, ?_, h.bel.grown hg h.bel.size (fun k hk => by have := hlo k hk; omega)⟩
  · rcases hw with hw | hw
    · exact h.ne b (hw ▸ e) e'
    · have h1 := hA' b e'
      rw [hw] at e
      injection e with e
      omega
  · exact (hg.block _ h.b0.lt fun e => by have := hlo _ e.symm; omega).trans h.b0
  · exact (hg.block _ h.b1.lt fun e => by have := hlo _ e.symm; omega).trans h.b1
end

end Go.Proofs.YtogaakokplobaaaDoor
