/-
  What is picked where one more item stands; and append of a slice of items, whatever it is, as one step of a region that draws.
-/
import Derived.Test.YthmlcdmlpmbkcaaTlvCopiedAny
import Derived.Test.YthmlcdmlpmbkcaaTlvSmall
import Derived.Test.YthmlcdmlpmbkcaaTlvOpen2
import Derived.Deep.DeepCutAuto
import Derived.Deep.RegionHeld3
import Derived.Deep.AppendLies
namespace Go.Proofs.Ythmlcdmlpmbkcaa
open Go.RowKit

theorem pick_ins {ks : List Int} {x : It} (h : ks.contains x.kind = false) (a b : List It) : pickS ks (a ++ x :: b) = if x.crit then none else pickS ks (a ++ b) := by
  induction a with
  | nil =>
    cases hc : x.crit with
    | true => rw [List.nil_append, pick_crit h hc]; rfl
    | false => rw [List.nil_append, pick_out h hc]; rfl
  | cons y a ih =>
    rw [List.cons_append, List.cons_append]
    cases hk : ks.contains y.kind with
    | true =>
      rw [pick_in hk, pick_in hk, ih]
      cases x.crit <;> rfl
    | false =>
      cases hc : y.crit with
      | true => rw [pick_crit hk hc, pick_crit hk hc]; cases x.crit <;> rfl
      | false => rw [pick_out hk hc, pick_out hk hc, ih]

/-- append of items, whatever slice they are. -/
theorem app_items {P : Program} (w : World) (base : Nat) (t ty e : TypeId) (i : TypeInfo) (z : Value) (ht : P.underlying t = some (.slice e)) (hi : P.info? e = some i) (hz : i.zero = some z)
    (hzs : z.cells.size = i.size) (hsz : 0 < i.size) (v : Value) (n : Nat) (xs : List Value) (hown : w.ownsRow base e i.size v n xs)
    (A : Option Addr) (m c : Nat) (news : List Value) (hA : A = none → m = 0) (hl : news.length = m * i.size) (hnews : ∀ ad, A = some ad → ∀ j u, news[j]? = some u → w.cell? (ad.add j) = some u) (h1 : ∀ u ∈ news, u.oneCell' = true)
    (h63 : n + m ≤ maxLen) (hbytes : (n + m) * i.bytes ≤ 140737488355328) (hbase : base ≤ w.heap.size) :
    ∃ A' c' w', (Builtin.append_ #[t, t] ty #[v, .slice A m c]).run P w = .ok (.slice A' (n + m) c') w' ∧ w'.ownsRow base e i.size (.slice A' (n + m) c') (n + m) (xs ++ news) ∧ w.grownBy w' v.ownBlock := by
  cases A with
  | none =>
    obtain rfl := hA rfl
    obtain rfl : news = [] := List.eq_nil_of_length_eq_zero (by simpa using hl)
    have hrun := run_app_nil (P := P) w base t ty e i i.size ht hi v n xs hown c
    obtain ⟨A', c', rfl, _⟩ := own_shape hown
    exact ⟨A', c', w, hrun, by simpa using hown, World.grownBy.refl w _⟩
  | some ad =>
    obtain ⟨A', c', w', h1, h2, h3, _⟩ := app_where (P := P) w base t ty e i z ht hi hz hzs hsz v n xs hown ad m c news hl (hnews ad rfl) h1 h63 hbytes hbase
    exact ⟨A', c', w', h1, h2, h3⟩

theorem step_items {P : Program} {ops : Array Oper} {o : Oper} {a : Act} {w : World} {K : Act → World → Prop} {Q : Exit → Act → World → Prop} {E : Prop}
    (hg : o.guard = none) (s x : Operand) (t : TypeId) (hop : o.op = Op.call { callee := Callee.builtin Builtin.append, args := #[s, x], argTypes := #[t, t] })
    (base : Nat) (e : TypeId) (z : Value) (size bytes : Nat) (ht : P.underlying t = some (.slice e)) (hi : (P.info? e).map (fun i => (i.zero, i.size, i.bytes)) = some (some z, size, bytes)) (hzs : z.cells.size = size) (hsz : 0 < size)
    (v : Value) (n : Nat) (xs : List Value) (hs : a.eval s = v) (hown : w.ownsRow base e size v n xs)
    (A : Option Addr) (m c : Nat) (news : List Value) (hx : a.eval x = .slice A m c) (hA : A = none → m = 0) (hl : news.length = m * size) (hnews : ∀ ad, A = some ad → ∀ j u, news[j]? = some u → w.cell? (ad.add j) = some u) (h1 : ∀ u ∈ news, u.oneCell' = true)
    (h63 : n + m ≤ maxLen) (hbytes : (n + m) * bytes ≤ 140737488355328) (hbase : base ≤ w.heap.size)
    (hK : ∀ A' c' w', w'.ownsRow base e size (.slice A' (n + m) c') (n + m) (xs ++ news) → w.grownBy w' v.ownBlock → K (a.put o.dst (.slice A' (n + m) c')) w') :
    if Region.wanted o (yielded ops a.tmps) = true then Oper.wp P o a w K Q else E := by
  have hw : Region.wanted o (yielded ops a.tmps) = true := by simp [Region.wanted, hg]
  rw [if_pos hw]
  obtain ⟨i0, hi', hz0, hz1, hz2⟩ := info_parts hi
  subst hz1
  subst hz2
  obtain ⟨A', c', w', hrun, h2, h3⟩ := app_items (P := P) w base t o.type e i0 z ht hi' hz0 hzs hsz v n xs hown A m c news hA hl hnews h1 h63 hbytes hbase
  unfold Oper.wp
  simp [execOp, hop, resolve, invoke, builtin, hs, hx, hrun, Result.andThen]
  exact hK A' c' w' h2 h3

/-- The cells of a slice of items, and the rest of it. -/
theorem Its.cellsAt {w : World} {S : Nat → Prop} {d : Nat} {A : Option Addr} {n c : Nat} {l : List It} (h : Its w S (d + 1) A n c l) :
    ∃ xs, RowP (Its w S d) w S l xs ∧ xs.length = n * 5 ∧ (A = none → n = 0) ∧ ∀ ad, A = some ad → ∀ j v, xs[j]? = some v → ad.block < w.heap.size ∧ w.cell? (ad.add j) = some v := by
  rcases Nat.eq_zero_or_pos n with h0 | h0
  · obtain rfl : l = [] := List.eq_nil_of_length_eq_zero (by rw [h.len]; exact h0)
    exact ⟨[], rfl, by rw [h0]; rfl, fun _ => h0, fun ad _ j v hj => by simp at hj⟩
  · obtain ⟨ad', xs, e, hS, hlt, hr, hc⟩ := h.2.2.2 h0
    refine ⟨xs, hr, by rw [hr.len, h.len], (fun e' => by rw [e] at e'; cases e'), fun ad e' j v hj => ?_⟩
    rw [e] at e'
    injection e' with e'
    subst e'
    exact ⟨hlt, hc j v hj⟩
/-- A row parts where its list does. -/
theorem RowP.part {R : Option Addr → Nat → Nat → List It → Prop} {w : World} {S : Nat → Prop} {l : List It} {xs : List Value} (h : RowP R w S l xs) (p : Nat) (hp : p ≤ l.length) :
    RowP R w S (l.take p) (xs.take (p * 5)) ∧ RowP R w S (l.drop p) (xs.drop (p * 5)) := by
  induction l generalizing xs p with
  | nil =>
    have h0 : p = 0 := by simpa using hp
    subst h0
    rw [show xs = [] from h]
    exact ⟨rfl, rfl⟩
  | cons x l ih =>
    cases p with
    | zero => exact ⟨by simp [RowP], by simpa using h⟩
    | succ p =>
      obtain ⟨B, bn, bc, C, cn, cc, ys, rfl, h1, h2, h3⟩ := h
      obtain ⟨g1, g2⟩ := ih h3 p (by simpa using hp)
      have e : (p + 1) * 5 = (x.cs B bn bc C cn cc).length + p * 5 := by show _ = 5 + _; omega
      refine ⟨⟨B, bn, bc, C, cn, cc, ys.take (p * 5), ?_, h1, h2, g1⟩, ?_⟩
      · rw [e, List.take_length_add_append]
      · rw [e, List.drop_length_add_append]
        exact g2
theorem RowP.app {R : Option Addr → Nat → Nat → List It → Prop} {w : World} {S : Nat → Prop} {l l2 : List It} {xs ys : List Value} (h : RowP R w S l xs) (h2 : RowP R w S l2 ys) : RowP R w S (l ++ l2) (xs ++ ys) := by
  induction l generalizing xs with
  | nil => rw [show xs = [] from h]; exact h2
  | cons x l ih =>
    obtain ⟨B, bn, bc, C, cn, cc, zs, rfl, g1, g2, g3⟩ := h
    exact ⟨B, bn, bc, C, cn, cc, zs ++ ys, by simp, g1, g2, ih g3⟩

/-- A slice of one item. -/
theorem one_its {w : World} {S : Nat → Prop} {d : Nat} {x : It} {B : Option Addr} {bn bc : Nat} {C : Option Addr} {cn cc : Nat} (hb : Bs w S B bn bc x.bytes) (hi : Its w S d C cn cc x.items) (h0 : S w.heap.size) :
    Its (w.alloc (.cells #[.int .i64 x.kind, .bool x.crit, .bool x.lst, .slice B bn bc, .slice C cn cc] 47)) S (d + 1) (some ⟨w.heap.size, 0, none⟩) 1 1 [x] := by
  have bb : Below w.heap.size w (w.alloc (.cells #[.int .i64 x.kind, .bool x.crit, .bool x.lst, .slice B bn bc, .slice C cn cc] 47)) := (Below.refl _ _).alloc (Nat.le_refl _) _
  exact ⟨rfl, Nat.le_refl _, by unfold maxLen; omega, fun _ => ⟨⟨w.heap.size, 0, none⟩, _, rfl, h0, by simp, ⟨B, bn, bc, C, cn, cc, [], rfl, hb.stay bb.size fun b _ hlt => bb.block b hlt, hi.below bb, rfl⟩, fun j v hj => oneCellsAt w (x.cs B bn bc C cn cc) _ j v (by rw [List.append_nil] at hj; exact hj)⟩⟩
theorem box_at (w : World) (x : It) (B : Option Addr) (bn bc : Nat) (C : Option Addr) (cn cc : Nat) {w' : World} (h : Below (w.heap.size + 1) (w.alloc (.cells #[.int .i64 x.kind, .bool x.crit, .bool x.lst, .slice B bn bc, .slice C cn cc] 47)) w') :
    w'.heap[w.heap.size]? = some (.cells #[.int .i64 x.kind, .bool x.crit, .bool x.lst, .slice B bn bc, .slice C cn cc] 47 (0, 0)) := by
  rw [h.block _ (by omega)]
  exact heap_alloc_new w _
theorem Si.drewN {w : World} {A : Option Addr} {n : Nat} {ks : List Int} (h : Si w A n ks) (q : Nat) : Si (w.drewN q) A n ks := h.below (below_drewN' (Below.refl _ _) q)
theorem contains_none {ks : List Int} {k : Int} (h : ∀ j, j < ks.length → ks.getD j 0 ≠ k) : ks.contains k = false := by
  rw [Bool.eq_false_iff]
  intro hc
  rw [List.contains_iff_mem] at hc
  obtain ⟨j, hj, e⟩ := List.getElem_of_mem hc
  exact h j hj (by rw [getD_lt hj, e])
theorem lenI_of {x : It} (h : sml 4 [x]) : lenI x := lenL_mem (sml_lenL 4 [x] h) (List.mem_singleton.2 rfl)

theorem step_items0 {P : Program} {ops : Array Oper} {o : Oper} {a : Act} {w : World} {K : Act → World → Prop} {Q : Exit → Act → World → Prop} {E : Prop}
    (hg : o.guard = none) (s x : Operand) (t : TypeId) (hop : o.op = Op.call { callee := Callee.builtin Builtin.append, args := #[s, x], argTypes := #[t, t] })
    (base : Nat) (e : TypeId) (z : Value) (size bytes : Nat) (ht : P.underlying t = some (.slice e)) (hi : (P.info? e).map (fun i => (i.zero, i.size, i.bytes)) = some (some z, size, bytes)) (hzs : z.cells.size = size) (hsz : 0 < size)
    (g : Nat) (hs : a.eval s = .slice (some ⟨g, 0, none⟩) 0 0) (hown : w.ownsRow base e size (.slice (some ⟨g, 0, none⟩) 0 0) 0 [])
    (A : Option Addr) (m c : Nat) (news : List Value) (hx : a.eval x = .slice A m c) (hA : A = none → m = 0) (hl : news.length = m * size) (hnews : ∀ ad, A = some ad → ∀ j u, news[j]? = some u → w.cell? (ad.add j) = some u) (h1 : ∀ u ∈ news, u.oneCell' = true)
    (h63 : m ≤ maxLen) (hbytes : m * bytes ≤ 140737488355328) (hbase : base ≤ w.heap.size)
    (hK : ∀ A' c' w', w'.ownsRow base e size (.slice A' m c') m news → w.grownBy w' (some g) → K (a.put o.dst (.slice A' m c')) w') :
    if Region.wanted o (yielded ops a.tmps) = true then Oper.wp P o a w K Q else E := by
  refine step_items hg s x t hop base e z size bytes ht hi hzs hsz _ 0 [] hs hown A m c news hx hA hl hnews h1 (by rwa [Nat.zero_add]) (by rwa [Nat.zero_add]) hbase ?_
  rw [Nat.zero_add, List.nil_append]
  exact hK

/-- A row without items, just made. -/
theorem own_empty {w : World} {base g : Nat} (h : w.heap[g]? = some (.cells #[] 47 (0, 0))) (hb : base ≤ g) : w.ownsRow base 47 5 (.slice (some ⟨g, 0, none⟩) 0 0) 0 [] :=
  ⟨rfl, .inr ⟨g, 0, #[], rfl, hb, h, Nat.le_refl _, Nat.zero_le _, rfl, rfl⟩⟩
/-- The cells of the one item that is laid. -/
theorem one_news {w : World} {g : Nat} {x : It} {B : Option Addr} {bn bc : Nat} {C : Option Addr} {cn cc : Nat} (h : w.heap[g]? = some (.cells #[.int .i64 x.kind, .bool x.crit, .bool x.lst, .slice B bn bc, .slice C cn cc] 47 (0, 0))) :
    ∀ ad, some (⟨g, 0, none⟩ : Addr) = some ad → ∀ j u, (x.cs B bn bc C cn cc)[j]? = some u → w.cell? (ad.add j) = some u := fun ad e j u hj => by
  injection e with e
  subst e
  rw [addHead, cell_of_row _ _ j _ _ _ h, ← hj]
  unfold It.cs
  simp
theorem Its.upTo {w : World} {S : Nat → Prop} {d : Nat} (k : Nat) {A : Option Addr} {n c : Nat} {l : List It} (h : Its w S d A n c l) : Its w S (d + k) A n c l := by
  induction k with
  | zero => exact h
  | succ k ih => exact ih.up
theorem lenL_ins {l : List It} {x : It} (h : lenL l) (hx : lenI x) (p : Nat) : lenL (l.take p ++ x :: l.drop p) := lenL_mk fun y hy => by
  rcases List.mem_append.1 hy with hy | hy
  · exact lenL_mem h (List.mem_of_mem_take hy)
  · rcases List.mem_cons.1 hy with rfl | hy
    · exact hx
    · exact lenL_mem h (List.mem_of_mem_drop hy)
theorem wfK_ins {l : List It} {x : It} (h : wfK l) (hx : (Lit.int .i64 x.kind).wf = true) (p : Nat) : wfK (l.take p ++ x :: l.drop p) := fun y hy => by
  rcases List.mem_append.1 hy with hy | hy
  · exact h y (List.mem_of_mem_take hy)
  · rcases List.mem_cons.1 hy with rfl | hy
    · exact hx
    · exact h y (List.mem_of_mem_drop hy)
/-- The row that was put together. -/
theorem ins_its {w : World} {base D : Nat} {A : Option Addr} {m c : Nat} {l2 : List It} {xs : List Value} (ho : w.ownsRow base 47 5 (.slice A m c) m xs) (hm : 0 < m) (hr : RowP (Its w (fun _ => True) D) w (fun _ => True) l2 xs) : Its w (fun _ => True) (D + 1) A m c l2 := by
  obtain ⟨_, c2, e, hle, hmax⟩ := own_shape ho
  injection e with _ _ e
  subst e
  have hl := hr.len
  have h2 := ho.1
  refine ⟨by omega, hle, hmax, fun hn => ?_⟩
  rcases ho.2 with ⟨h1, h2⟩ | ⟨g, cap, cur, hv, hb, hg, _⟩
  · omega
  · injection hv with hA _ hc
    subst hA
    exact ⟨⟨g, 0, none⟩, xs, rfl, trivial, lt_of_block hg, hr, ho.cells (g := g) rfl⟩

/-- What one must know of the two parts of a slice of items, to lay an item between them. -/
structure InsF (w2 : World) (D : Nat) (A : Option Addr) (n c p : Nat) (l : List It) (x : It) (B : Option Addr) (bn bc : Nat) (C : Option Addr) (cn cc : Nat) (xs ys : List Value) : Prop where
  row : RowP (Its w2 (fun _ => True) D) w2 (fun _ => True) (l.take p ++ x :: l.drop p) (xs ++ x.cs B bn bc C cn cc ++ ys)
  n1 : ∀ w' : World, Below w2.heap.size w2 w' → ∀ ad, A = some ad → ∀ j u, xs[j]? = some u → w'.cell? (ad.add j) = some u
  n3 : ∀ w' : World, Below w2.heap.size w2 w' → ∀ ad, (if c = p then A else A.map (·.add (p * 5))) = some ad → ∀ j u, ys[j]? = some u → w'.cell? (ad.add j) = some u
  o1 : ∀ u ∈ xs, u.oneCell' = true
  o3 : ∀ u ∈ ys, u.oneCell' = true
  l1 : xs.length = p * 5
  l3 : ys.length = (n - p) * 5
  z1 : A = none → p = 0
  z3 : (if c = p then A else A.map (·.add (p * 5))) = none → n - p = 0
theorem ins_facts {w2 : World} {D : Nat} {A : Option Addr} {n c p : Nat} {l : List It} {x : It} {B : Option Addr} {bn bc : Nat} {C : Option Addr} {cn cc : Nat} (hi : Its w2 (fun _ => True) (D + 1) A n c l) (hp : p ≤ n) (hb : Bs w2 (fun _ => True) B bn bc x.bytes) (hx : Its w2 (fun _ => True) D C cn cc x.items) :
    ∃ xs ys, InsF w2 D A n c p l x B bn bc C cn cc xs ys := by
  have HL := hi.len
  have hnc := hi.2.1
  obtain ⟨xs, hrow, hxl, hnone, hcells⟩ := hi.cellsAt
  have hone := hrow.one
  obtain ⟨hr1, hr3⟩ := hrow.part p (by rw [HL]; exact hp)
  refine ⟨xs.take (p * 5), xs.drop (p * 5), ?_, fun w' hb ad e j u hj => ?_, fun w' hb ad e j u hj => ?_, fun u hu => hone u (List.mem_of_mem_take hu), fun u hu => hone u (List.mem_of_mem_drop hu), by rw [List.length_take]; omega, by rw [List.length_drop, hxl]; omega, fun e => by have := hnone e; omega, fun e => ?_⟩
  · have h3 := hr1.app (RowP.app (l := [x]) ⟨B, bn, bc, C, cn, cc, [], (List.append_nil _).symm, hb, hx, rfl⟩ hr3)
    rw [List.append_assoc]
    exact h3
  · rw [List.getElem?_take] at hj
    split at hj
    · obtain ⟨h1, h2⟩ := hcells ad e j u hj
      exact (hb.cell (by rw [addBlock]; exact h1)).trans h2
    · exact absurd hj (by simp)
  · rw [List.getElem?_drop] at hj
    have hjl : p * 5 + j < xs.length := (List.getElem?_eq_some_iff.1 hj).1
    rw [if_neg (by omega)] at e
    cases hA : A with
    | none => rw [hA] at e; cases e
    | some a0 =>
      rw [hA] at e
      injection e with e
      subst e
      obtain ⟨h1, h2⟩ := hcells a0 hA _ u hj
      rw [addAdd]
      exact (hb.cell (by rw [addBlock]; exact h1)).trans h2
  · by_cases hcp : c = p
    · omega
    · rw [if_neg hcp] at e
      cases hA : A with
      | none => have := hnone hA; omega
      | some a0 => rw [hA] at e; cases e

theorem below_sz {B : Nat} {a b : World} (h : Below B a b) : a.heap.size ≤ b.heap.size := h.size

theorem heap_at_new {w : World} {o : Obj} {g : Nat} (h : g = w.heap.size) : (w.alloc o).heap[g]? = some o := by rw [h]; exact heap_alloc_new w o
theorem heap_at_old {w : World} {o p : Obj} {g : Nat} (h : w.heap[g]? = some p) : (w.alloc o).heap[g]? = some p := by
  have hl : g < w.heap.size := lt_of_block h
  have bb : Below w.heap.size w (w.alloc o) := (Below.refl _ _).alloc (Nat.le_refl _) _
  rw [bb.block g hl]
  exact h

/-- A way through a statement has come to its end. -/
theorem meet_end {J K' : Act → World → Prop} {R : Act → World → Prop} {Q' : Exit → Act → World → Prop} {a : Act} {w : World} (h2 : ∀ a' w', Met J a' w' → K' a' w') (h1 : ∀ a' w', R a' w' → J a' w') (h : R a w) : Exit.then K' Q' .normal a w := h2 _ _ (h1 _ _ h)

/-- What Pick leaves, in one form. -/
theorem PickPost.form {w w' : World} {d : Nat} {q : Option (List It)} {e : Ending} (h : PickPost w d q e w') :
    Below w.heap.size w w' ∧ ∃ (A : Option Addr) (n c : Nat) (E : Int), e = .returned (.tuple #[.slice A n c, .int .i64 E]) ∧ E = (if q.isSome then 0 else 7) ∧ Its w' (fun b => w.heap.size ≤ b ∧ Free w' b) d A n c (q.getD []) := by
  refine ⟨h.1, ?_⟩
  cases q with
  | none =>
    refine ⟨none, 0, 0, 7, h.2, rfl, ?_⟩
    cases d with
    | zero => exact ⟨rfl, rfl, by unfold maxLen; omega⟩
    | succ d => exact ⟨rfl, Nat.le_refl _, by unfold maxLen; omega, fun h => absurd h (by omega)⟩
  | some l =>
    obtain ⟨A, n, c, rfl, hi⟩ := h.2
    exact ⟨A, n, c, 0, rfl, rfl, hi⟩

end Go.Proofs.Ythmlcdmlpmbkcaa
