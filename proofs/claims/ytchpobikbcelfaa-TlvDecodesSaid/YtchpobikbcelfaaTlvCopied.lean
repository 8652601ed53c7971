/-
  The contract of what copies items, all the way down.
-/
import Derived.Test.YtchpobikbcelfaaTlvCopy
import Derived.Test.YtchpobikbcelfaaTlvPick
namespace Go.Proofs.Ytchpobikbcelfaa
open Go.RowKit

/-- Cells that read as items are one cell each. -/
theorem RowP.one {R : Option Addr → Nat → Nat → List It → Prop} {w : World} {S : Nat → Prop} {l : List It} {xs : List Value} (h : RowP R w S l xs) : ∀ u ∈ xs, u.oneCell' = true := by
  induction l generalizing xs with
  | nil => rw [show xs = [] from h]; intro u hu; cases hu
  | cons x l ih =>
    obtain ⟨B, bn, bc, C, cn, cc, ys, rfl, _, _, h3⟩ := h
    intro u hu
    rcases List.mem_append.1 hu with hu | hu
    · exact oneItem x B bn bc C cn cc u hu
    · exact ih h3 u hu

/-- What slices.Clone leaves: the row in memory of its own; what lies within is what it was. -/
def ClonePost (w : World) (d n : Nat) (l : List It) (e : Ending) (w' : World) : Prop :=
  ∃ A c xs, e = .returned (.slice A n c) ∧ Below w.heap.size w w' ∧ w'.ownsRow w.heap.size 47 5 (.slice A n c) n xs ∧ RowP (Its w (· < w.heap.size) d) w (· < w.heap.size) l xs

theorem cloneI_any {w : World} {S : Nat → Prop} {d : Nat} {A : Option Addr} {n c : Nat} {l : List It} (h : Its w S (d + 1) A n c l) (hn : n ≤ 1000000) :
    Calls Try.prog 50 #[.slice A n c] w (ClonePost w d n l) := by
  have hrun := fun (w : World) => Lib.run_eql_slice_nil (P := Try.prog) w 22 47 A n c 0 0 Try.underlying22
  cases A with
  | none =>
    have hz : n = 0 := by
      rcases Nat.eq_zero_or_pos n with h0 | h0
      · exact h0
      · obtain ⟨ad, xs, h1, _⟩ := h.2.2.2 h0
        cases h1
    subst hz
    obtain rfl : l = [] := List.eq_nil_of_length_eq_zero h.len
    go_enter Try.func50, Try.ntmps50
    go_wp2
    go_ret
    exact ⟨_, _, [], rfl, Below.refl _ _, World.ownsRow_nil _ _ _ _, rfl⟩
  | some ad =>
    obtain ⟨xs, hrow, hcs⟩ : ∃ xs, RowP (Its w (· < w.heap.size) d) w (· < w.heap.size) l xs ∧ ∀ j v, xs[j]? = some v → w.cell? (ad.add j) = some v ∧ ad.block < w.heap.size := by
      rcases Nat.eq_zero_or_pos n with h0 | h0
      · obtain rfl : l = [] := List.eq_nil_of_length_eq_zero (by rw [h.len]; exact h0)
        exact ⟨[], rfl, fun j v hj => by simp at hj⟩
      · obtain ⟨ad', xs, e, hS, hlt, hr, hc⟩ := h.2.2.2 h0
        injection e with e
        subst e
        exact ⟨xs, hr.imp (fun _ _ _ _ hb => hb.mono fun b _ hb => hb) (fun _ _ _ _ hi => hi.mono fun b _ hb => hb), fun j v hj => ⟨hc j v hj, hlt⟩⟩
    have hlen : xs.length = n * 5 := by rw [hrow.len, h.len]
    have hone := hrow.one
    have hnews : ∀ j u, xs[j]? = some u → (w.alloc (.cells #[] 47)).cell? (ad.add j) = some u := fun j u hj => by
      have := hcs j u hj
      rw [World.cell?_alloc_lt _ _ _ (by rw [addBlock]; exact this.2)]
      exact this.1
    have HR := Lib.hid hrow
    clear hrow hcs h
    go_enter Try.func50, Try.ntmps50
    go_wp2_with (at_builtin; refine wpList_appw _ rfl _ _ 22 rfl w.heap.size 47 _ 5 64 Try.underlying22 info47 rfl (by omega) (.slice (some ⟨w.heap.size, 0, none⟩) 0 0) 0 [] rfl (World.ownsRow_lit w #[] 0 (Nat.le_refl _) (by unfold maxLen; omega) rfl) ad n c xs rfl hlen hnews hone (by unfold maxLen; omega) (by omega) (by simp) ?_; intro A' c' w1 hown hg _; simp only [Nat.zero_add, List.nil_append] at hown)
    have H : ClonePost w d n l (.returned (.slice A' n c')) w1 := ⟨A', c', xs, rfl, ((Below.refl _ _).alloc (Nat.le_refl _) _).grown hg (by simp) (by intro k hk; have : w.heap.size = k := (by simpa [Value.ownBlock] using hk); omega), hown, HR.out⟩
    clear hown hg
    go_ret
    exact H

/-- A block of new memory, not the row's, that can be written. -/
def Nw (w : World) (base g : Nat) (b : Nat) : Prop := base ≤ b ∧ b ≠ g ∧ Free w b
theorem Nw.stay {w w' : World} {base g b : Nat} (h : Nw w base g b) (hb : w'.heap[b]? = w.heap[b]?) : Nw w' base g b := ⟨h.1, h.2.1, free_block h.2.2 hb⟩

/-- The row: k items have their copies, xs; ys are the cells of the others. -/
structure DRow (w : World) (base g d n cp k : Nat) (l : List It) (xs ys : List Value) : Prop where
  own : w.ownsRow base 47 5 (.slice (some ⟨g, 0, none⟩) n cp) n (xs ++ ys)
  row : RowP (Its w (Nw w base g) d) w (Nw w base g) (l.take k) xs
  len : l.length = n
  le : k ≤ n

section
variable {w w' : World} {base g d n cp k : Nat} {l : List It} {xs ys : List Value}

theorem DRow.block (h : DRow w base g d n cp k l xs ys) : base ≤ g ∧ g < w.heap.size := h.own.lt g rfl
theorem DRow.xlen (h : DRow w base g d n cp k l xs ys) : xs.length = k * 5 := by
  have h1 := h.row.len
  have h2 := h.le
  have h3 := h.len
  rw [List.length_take, Nat.min_eq_left (by omega)] at h1
  exact h1
theorem DRow.below (h : DRow w base g d n cp k l xs ys) (hb : Below w.heap.size w w') : DRow w' base g d n cp k l xs ys :=
  ⟨own_below h.own hb, h.row.imp (fun _ _ _ _ hb' => hb'.move hb.size fun b h hlt => ⟨hb.block b hlt, h.stay (hb.block b hlt)⟩) (fun _ _ _ _ hi => hi.move hb.size fun b h hlt => ⟨hb.block b hlt, h.stay (hb.block b hlt)⟩), h.len, h.le⟩
theorem DRow.set (h : DRow w base g d n cp k l xs ys) (i : Nat) (u : Value) : DRow (w.setCell ⟨g, k * 5 + i, none⟩ u) base g d n cp k l xs (ys.set i u) := by
  have h1 := h.xlen
  have hk : ∀ b, Nw w base g b → b < w.heap.size → (w.setCell ⟨g, k * 5 + i, none⟩ u).heap[b]? = w.heap[b]? ∧ Nw (w.setCell ⟨g, k * 5 + i, none⟩ u) base g b := fun b hb _ => ⟨heap_setCell_other w _ b u hb.2.1, hb.stay (heap_setCell_other w _ b u hb.2.1)⟩
  refine ⟨?_, h.row.imp (fun _ _ _ _ hb' => hb'.move (by simp) hk) (fun _ _ _ _ hi' => hi'.move (by simp) hk), h.len, h.le⟩
  have h3 := own_set h.own (k * 5 + i) u
  rw [List.set_append_right _ _ (by omega), h1] at h3
  rw [Nat.add_sub_cancel_left] at h3
  exact h3
theorem DRow.cell (h : DRow w base g d n cp k l xs ys) {i : Nat} {u : Value} (hi : ys[i]? = some u) : w.cell? ⟨g, k * 5 + i, none⟩ = some u := by
  have h1 := h.own.cells (g := g) rfl (k * 5 + i) u (by rw [List.getElem?_append_right (by rw [h.xlen]; omega), h.xlen, Nat.add_sub_cancel_left]; exact hi)
  rwa [addHead] at h1
theorem DRow.free (h : DRow w base g d n cp k l xs ys) (j : Nat) : w.frozen? ⟨g, j, none⟩ = false := free_own h.own j
theorem DRow.next {x : It} {B : Option Addr} {bn bc : Nat} {C : Option Addr} {cn cc : Nat} (h : DRow w base g d n cp k l xs (x.cs B bn bc C cn cc ++ ys)) (hx : l[k]? = some x)
    (hb : Bs w (Nw w base g) B bn bc x.bytes) (hi : Its w (Nw w base g) d C cn cc x.items) : DRow w base g d n cp (k + 1) l (xs ++ x.cs B bn bc C cn cc) ys := by
  have hlt : k < l.length := (List.getElem?_eq_some_iff.1 hx).1
  refine ⟨by rw [List.append_assoc]; exact h.own, ?_, h.len, by have := h.len; omega⟩
  have e : l.take (k + 1) = l.take k ++ [x] := by rw [List.take_add_one, hx]; rfl
  rw [e]
  exact h.row.snoc hb hi
theorem DRow.done (h : DRow w base g d n cp n l xs ys) : Its w (fun b => base ≤ b ∧ Free w b) (d + 1) (some ⟨g, 0, none⟩) n cp l := by
  have hr := h.row
  have h2 := h.own.1
  have hx := h.xlen
  rw [List.length_append] at h2
  have hy : ys = [] := List.eq_nil_of_length_eq_zero (by omega)
  rw [List.take_of_length_le (by rw [h.len]; exact Nat.le_refl _)] at hr
  have ho := h.own
  rw [hy, List.append_nil] at ho
  obtain ⟨_, c2, e, hle, hmax⟩ := own_shape ho
  injection e with _ _ e
  subst e
  exact ⟨h.len, hle, hmax, fun _ => ⟨⟨g, 0, none⟩, xs, rfl, ⟨h.block.1, free_own ho⟩, h.block.2, hr.imp (fun _ _ _ _ hb => hb.mono fun b h _ => ⟨h.1, h.2.2⟩) (fun _ _ _ _ hi => hi.mono fun b h _ => ⟨h.1, h.2.2⟩), ho.cells (g := g) rfl⟩⟩
end

/-- Bytes that were cloned, in new memory that can be written. -/
theorem bs_cloned {zs : List Int} {w w' : World} {A : Option Addr} {n c base g : Nat} (h : MadeAt 5 zs w A n c w') (hu : U8s zs) (hn : zs.length ≤ 140737488351232) (hb : base ≤ w.heap.size) (hg : g < w.heap.size) :
    Bs w' (Nw w' base g) A n c zs :=
  ⟨Sb.own h.own, hu, h.le, h.max, by have := h.len; omega, fun ad e _ => by
    have h0 := h.own
    rw [e] at h0
    have h1 := (own_block h0).1
    exact ⟨by omega, by omega, free_own' h0⟩⟩

end Go.Proofs.Ytchpobikbcelfaa
