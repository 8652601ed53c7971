/-
  A row of items of the call's own that is filled item by item with copies.
-/
import Derived.Test.YtchpobikbcelfaaTlvApp
namespace Go.Proofs.Ytchpobikbcelfaa
open Go.RowKit

mutual
/-- No list within has more than 400 items. -/
def lenI : It → Prop
  | .mk _ _ _ _ i => i.length ≤ 400 ∧ lenL i
def lenL : List It → Prop
  | [] => True
  | x :: l => lenI x ∧ lenL l
end

theorem lenI_eq (x : It) : lenI x ↔ x.items.length ≤ 400 ∧ lenL x.items := by cases x; rw [lenI]; rfl
theorem lenL_mk {l : List It} (h : ∀ x ∈ l, lenI x) : lenL l := by
  induction l with
  | nil => rw [lenL]; trivial
  | cons x l ih => rw [lenL]; exact ⟨h x (List.mem_cons_self ..), ih fun y hy => h y (List.mem_cons_of_mem _ hy)⟩
theorem lenL_mem {l : List It} (h : lenL l) {x : It} (hx : x ∈ l) : lenI x := by
  induction l with
  | nil => cases hx
  | cons y l ih =>
    rw [lenL] at h
    rcases List.mem_cons.1 hx with rfl | hx
    · exact h.1
    · exact ih h.2 hx

theorem own_set {w : World} {base : Nat} {e : TypeId} {size g n cp : Nat} {xs : List Value} (h : w.ownsRow base e size (.slice (some ⟨g, 0, none⟩) n cp) n xs) (j : Nat) (u : Value) :
    (w.setCell ⟨g, j, none⟩ u).ownsRow base e size (.slice (some ⟨g, 0, none⟩) n cp) n (xs.set j u) := by
  refine ⟨by rw [List.length_set]; exact h.1, ?_⟩
  rcases h.2 with ⟨h1, _⟩ | ⟨g', cap, cur, hv, hb, hg, hn, hm, hcs, ht⟩
  · cases h1
  · injection hv with hA _ hc
    injection hA with hA
    injection hA with hA
    subst hA
    subst hc
    refine .inr ⟨g, cp, cur.setIfInBounds j u, rfl, hb, heap_setCell_same w g j cur e u hg, hn, hm, by simpa using hcs, ?_⟩
    rw [Array.toList_setIfInBounds, List.take_set, ht]

/-- The row: k items have their copies, xs; ys are the cells of the others. -/
structure CRow (w : World) (base g d n cp k : Nat) (l : List It) (xs ys : List Value) : Prop where
  own : w.ownsRow base 47 5 (.slice (some ⟨g, 0, none⟩) n cp) n (xs ++ ys)
  row : RowP (Its w (fun b => base ≤ b ∧ b ≠ g) d) w (fun b => base ≤ b ∧ b ≠ g) (l.take k) xs
  len : l.length = n
  le : k ≤ n

section
variable {w w' : World} {base g d n cp k : Nat} {l : List It} {xs ys : List Value}

theorem CRow.block (h : CRow w base g d n cp k l xs ys) : base ≤ g ∧ g < w.heap.size := h.own.lt g rfl
theorem CRow.xlen (h : CRow w base g d n cp k l xs ys) : xs.length = k * 5 := by
  have h1 := h.row.len
  have h2 := h.le
  have h3 := h.len
  rw [List.length_take, Nat.min_eq_left (by omega)] at h1
  exact h1
theorem CRow.ylen (h : CRow w base g d n cp k l xs ys) : ys.length = (n - k) * 5 := by
  have h1 := h.xlen
  have h2 := h.own.1
  have h3 := h.le
  rw [List.length_append] at h2
  rw [Nat.sub_mul]
  omega
theorem CRow.below (h : CRow w base g d n cp k l xs ys) (hb : Below w.heap.size w w') : CRow w' base g d n cp k l xs ys :=
  ⟨own_below h.own hb, h.row.imp (fun _ _ _ _ hb' => hb'.stay hb.size fun b _ hlt => hb.block b hlt) (fun _ _ _ _ hi => hi.below hb), h.len, h.le⟩
theorem CRow.set (h : CRow w base g d n cp k l xs ys) (i : Nat) (u : Value) : CRow (w.setCell ⟨g, k * 5 + i, none⟩ u) base g d n cp k l xs (ys.set i u) := by
  have h1 := h.xlen
  refine ⟨?_, h.row.imp (fun _ _ _ _ hb' => hb'.stay (by simp) fun b hb _ => heap_setCell_other w _ b u hb.2) (fun _ _ _ _ hi' => hi'.stay (by simp) fun b hb _ => heap_setCell_other w _ b u hb.2), h.len, h.le⟩
  have h3 := own_set h.own (k * 5 + i) u
  rw [List.set_append_right _ _ (by omega), h1] at h3
  rw [Nat.add_sub_cancel_left] at h3
  exact h3
theorem CRow.cell (h : CRow w base g d n cp k l xs ys) {i : Nat} {u : Value} (hi : ys[i]? = some u) : w.cell? ⟨g, k * 5 + i, none⟩ = some u := by
  have h1 := h.own.cells (g := g) rfl (k * 5 + i) u (by rw [List.getElem?_append_right (by rw [h.xlen]; omega), h.xlen, Nat.add_sub_cancel_left]; exact hi)
  rwa [addHead] at h1
theorem CRow.free (h : CRow w base g d n cp k l xs ys) (j : Nat) : w.frozen? ⟨g, j, none⟩ = false := by
  rcases h.own.2 with ⟨h1, _⟩ | ⟨g', cap, cur, hv, hb, hg, _⟩
  · cases h1
  · injection hv with hA _ hc
    injection hA with hA
    injection hA with hA
    subst hA
    exact item_free hg j
theorem CRow.next {x : It} {B : Option Addr} {bn bc : Nat} {C : Option Addr} {cn cc : Nat} (h : CRow w base g d n cp k l xs (x.cs B bn bc C cn cc ++ ys)) (hx : l[k]? = some x)
    (hb : Bs w (fun b => base ≤ b ∧ b ≠ g) B bn bc x.bytes) (hi : Its w (fun b => base ≤ b ∧ b ≠ g) d C cn cc x.items) : CRow w base g d n cp (k + 1) l (xs ++ x.cs B bn bc C cn cc) ys := by
  have hlt : k < l.length := (List.getElem?_eq_some_iff.1 hx).1
  refine ⟨by rw [List.append_assoc]; exact h.own, ?_, h.len, by have := h.len; omega⟩
  have e : l.take (k + 1) = l.take k ++ [x] := by rw [List.take_add_one, hx]; rfl
  rw [e]
  exact h.row.snoc hb hi
theorem CRow.done (h : CRow w base g d n cp n l xs ys) : Its w (fun b => base ≤ b) (d + 1) (some ⟨g, 0, none⟩) n cp l := by
  have hy : ys = [] := List.eq_nil_of_length_eq_zero (by rw [h.ylen, Nat.sub_self, Nat.zero_mul])
  have hr := h.row
  rw [List.take_of_length_le (by rw [h.len]; exact Nat.le_refl _)] at hr
  have ho := h.own
  rw [hy, List.append_nil] at ho
  obtain ⟨_, c2, e, hle, hmax⟩ := own_shape ho
  injection e with _ _ e
  subst e
  exact ⟨h.len, hle, hmax, fun _ => ⟨⟨g, 0, none⟩, xs, rfl, h.block.1, h.block.2, hr.imp (fun _ _ _ _ hb => hb.mono fun b h _ => h.1) (fun _ _ _ _ hi => hi.mono fun b h _ => h.1), ho.cells (g := g) rfl⟩⟩
end

/-- The next five cells of a row. -/
theorem five {ys : List Value} (h : 5 ≤ ys.length) : ∃ u0 u1 u2 u3 u4 zs, ys = u0 :: u1 :: u2 :: u3 :: u4 :: zs := by
  match ys, h with
  | u0 :: u1 :: u2 :: u3 :: u4 :: zs, _ => exact ⟨u0, u1, u2, u3, u4, zs, rfl⟩

/-- Bytes that were copied, in new memory. -/
theorem bs_made {t : TypeId} {zs : List Int} {w w' : World} {A : Option Addr} {n c base g : Nat} (h : w'.ownsRow w.heap.size t 1 (.slice A n c) n (zs.map (Value.int .u8))) (hu : U8s zs) (hn : n ≤ 140737488351232) (hb : base ≤ w.heap.size) (hg : g < w.heap.size) :
    Bs w' (fun b => base ≤ b ∧ b ≠ g) A n c zs := by
  obtain ⟨_, c2, e, hle, hmax⟩ := own_shape h
  injection e with _ _ e
  subst e
  exact ⟨Sb.own h, hu, hle, hmax, hn, fun ad e _ => by
    have h1 := (own_block (ad := ad) (by rw [← e]; exact h)).1
    exact ⟨by omega, by omega⟩⟩

end Go.Proofs.Ytchpobikbcelfaa
