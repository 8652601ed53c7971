/-
  Contract of the reference's Take.
-/
import Derived.Test.YtkmobiggcehpbaaGuardRefCheck
namespace Go.Proofs.Ytkmobiggcehpbaa
open Go.RowKit

theorem Ik.own {q : IntKind} {w : World} {A : Option Addr} {n : Nat} {zs : List Int} {base : Nat} {e : TypeId} {c : Nat} (h : w.ownsRow base e 1 (.slice A n c) n (zs.map (Value.int q))) : Ik q w A n zs := by
  have hl : zs.length = n := by have := h.1; simpa using this
  refine ⟨hl, fun hn => ?_⟩
  obtain ⟨_, h2⟩ := h
  rcases h2 with ⟨h3, h4⟩ | ⟨g, cap, cur, hv, hb, hg, hle, hm, hs, ht⟩
  · omega
  · injection hv with hA _ hc
    subst hA
    refine ⟨_, rfl, (Array.getElem?_eq_some_iff.1 hg).1, fun k hk => ?_⟩
    rw [addHead, cell_of_row w g k cur e (0, 0) hg]
    have h5 : (zs.map (Value.int q))[k]? = some (Value.int q (zs.getD k 0)) := by
      rw [List.getElem?_map, List.getElem?_eq_getElem (by omega), getD_lt (by omega)]; rfl
    rw [← ht, List.getElem?_take, if_pos (by omega)] at h5
    simpa using h5
theorem Ik.cell {q : IntKind} {w : World} {n : Nat} {zs : List Int} {ad : Addr} (h : Ik q w (some ad) n zs) {k : Nat} (hk : k < n) : w.cell? (ad.add k) = some (.int q (zs.getD k 0)) := by
  obtain ⟨ad', e, _, hc⟩ := h.at_ (by omega)
  injection e with e
  subst e
  exact hc k hk
theorem Ik.news {q : IntKind} {w : World} {ad : Addr} {n : Nat} {zs : List Int} (h : Ik q w (some ad) n zs) : ∀ (j : Nat) (u : Value), (zs.map (Value.int q))[j]? = some u → w.cell? (ad.add j) = some u := by
  intro j u hu
  have hj : j < zs.length := by
    rcases Nat.lt_or_ge j zs.length with hlt | hge
    · exact hlt
    · rw [List.getElem?_eq_none (by simpa using hge)] at hu; cases hu
  have hl := h.len
  rw [h.cell (k := j) (by omega), getD_lt hj]
  rw [List.getElem?_map, List.getElem?_eq_getElem hj] at hu
  simpa using hu
theorem oneCellsI (q : IntKind) (zs : List Int) : ∀ u ∈ zs.map (Value.int q), u.oneCell' = true := by
  intro u hu
  obtain ⟨z, _, rfl⟩ := List.mem_map.1 hu
  rfl
theorem Ik.one (q : IntKind) (w : World) (e : TypeId) (z : Int) : Ik q (w.alloc (.cells #[.int q z] e)) (some ⟨w.heap.size, 0, none⟩) 1 [z] := by
  refine ⟨rfl, fun _ => ⟨_, rfl, by simp, fun k hk => ?_⟩⟩
  obtain rfl : k = 0 := by omega
  rw [addHead, cell_of_row _ _ 0 _ _ _ (heap_alloc_new w (.cells #[.int q z] e))]
  rfl

/-- append onto a row of the call's own, whatever slice of numbers stands behind: nil, empty or not. -/
theorem wpList_appI {P : Program} (w : World) {ops : Array Oper} {rest : List Oper} {o : Oper} {a : Act} {Q : Exit → Act → World → Prop} (hgd : o.guard = none) (s x : Operand) (t : TypeId)
    (ho : o.op = .call { callee := .builtin .append, args := #[s, x], argTypes := #[t, t] })
    (base : Nat) (e : TypeId) (q : IntKind) (b8 : Nat) (hb8 : b8 ≤ 8) (ht : P.underlying t = some (.slice e)) (hi : (P.info? e).map (fun i => (i.zero, i.size, i.bytes)) = some (some (.int q 0), 1, b8))
    (v : Value) (n : Nat) (xs : List Value) (hs : a.eval s = v) (hown : w.ownsRow base e 1 v n xs)
    (A : Option Addr) (m c k : Nat) (hk : n + m = k) (news : List Int) (hx : a.eval x = .slice A m c) (hr : Ik q w A m news) (h63 : k ≤ 1000000) (hbase : base ≤ w.heap.size)
    (h : ∀ A' c' w', w'.ownsRow base e 1 (.slice A' k c') k (xs ++ news.map (Value.int q)) → w.grownBy w' v.ownBlock → wpList P ops Q rest (a.put o.dst (.slice A' k c')) w') : wpList P ops Q (o :: rest) a w := by
  subst hk
  obtain ⟨i0, hi, hz0, hz1, hz2⟩ := info_parts hi
  have hk : ∀ v' w', w'.ownsRow base e 1 v' (n + m) (xs ++ news.map (Value.int q)) → w.grownBy w' v.ownBlock → wpList P ops Q rest (a.put o.dst v') w' := by
    intro v' w' h1 h2
    obtain ⟨A', c', rfl, _⟩ := own_shape h1
    exact h A' c' w' h1 h2
  have h8 : (n + m) * b8 ≤ 1000000 * 8 := Nat.mul_le_mul h63 hb8
  cases A with
  | none =>
    have hm : m = 0 := by
      rcases Nat.eq_zero_or_pos m with h0 | h0
      · exact h0
      · obtain ⟨ad, e1, _⟩ := hr.at_ h0
        cases e1
    subst hm
    have hn : news = [] := List.eq_nil_of_length_eq_zero hr.len
    subst hn
    refine wpList_plain hgd fun K hK => ?_
    have hrun := run_app_nil (P := P) w base t o.type e i0 1 ht hi v n xs hown c
    unfold Oper.wp
    simp [execOp, ho, resolve, invoke, builtin, hs, hx, hrun, Result.andThen]
    exact hK _ _ (hk v w (by simpa using hown) (World.grownBy.refl w _))
  | some ad =>
    exact wpList_append_own w hgd s x t ho base e i0 (.int q 0) 1 b8 ht hi hz0 hz1 hz2 rfl (by decide) v n xs hs hown ad m c (news.map (Value.int q)) hx (by simp [hr.len]) hr.news (oneCellsI q _)
      (by unfold maxLen; omega) (by omega) hbase fun v' w' h1 h2 _ => hk v' w' h1 h2

theorem info64 : (Try.prog.info? 29).map (fun i => (i.zero, i.size, i.bytes)) = some (some (.int .u64 0), 1, 8) := by kernel_rfl

/-- What the reference's Take answers. -/
def RefTakePost (w : World) (A : Option Addr) (n : Nat) (m : Int) (L : List Int) (e : Ending) (w' : World) : Prop :=
  ∃ A' n' c', e = .returned (.tuple #[.int .i64 (chk m L), .agg #[.slice A' n' c']]) ∧ Ik .u64 w' A' n' (tk m L) ∧ Below w.heap.size w w' ∧ (∀ ad, A' = some ad → 0 < n' → A = some ad ∧ 0 < n ∨ w.heap.size ≤ ad.block)

/-- The call's two cells: what it was called with, and its second result. -/
structure Two2 (w0 w : World) (r : Nat) (A : Option Addr) (n c : Nat) (L : List Int) : Prop where
  c0 : w.cell? ⟨r, 0, none⟩ = some (.slice A n c)
  blk : w.heap[r + 1]? = some (.cells #[.slice none 0 0] 27 (0, 0))
  ik : Ik .u64 w A n L
  bel : Below r w0 w
section
variable {w0 w w' : World} {r : Nat} {A : Option Addr} {n c : Nat} {L : List Int}

theorem Two2.lt (h : Two2 w0 w r A n c L) : r + 1 < w.heap.size := lt_of_block h.blk
theorem Two2.below (h : Two2 w0 w r A n c L) (hb : Below w.heap.size w w') : Two2 w0 w' r A n c L := by
  have := h.lt
  exact ⟨(hb.cell (by show r < _; omega)).trans h.c0, (hb.block _ h.lt).trans h.blk, h.ik.below hb, h.bel.trans (hb.mono (by omega))⟩
theorem Two2.c1 (h : Two2 w0 w r A n c L) : w.cell? ⟨r + 1, 0, none⟩ = some (.slice none 0 0) := by rw [cell_of_row _ _ 0 _ _ _ h.blk]; rfl
theorem Two2.f1 (h : Two2 w0 w r A n c L) : w.frozen? ⟨r + 1, 0, none⟩ = false := frozen_of_row _ _ 0 _ _ h.blk
end

set_option maxHeartbeats 1600000 in
theorem refGTake_any {w : World} {A : Option Addr} {n c : Nat} {L : List Int} (h : Ik .u64 w A n L) (hu : U64s L) (hn : n ≤ 100000) (m : Int) (h0 : 0 ≤ m) (h1 : m ≤ 18446744073709551615) :
    Calls Try.prog 12 #[.agg #[.slice A n c], .int .u64 m] w (RefTakePost w A n m L) := by
  obtain ⟨w2, hw2⟩ : ∃ w2, w2 = (w.alloc (.cells #[.slice A n c] 27)).alloc (.cells #[.slice none 0 0] 27) := ⟨_, rfl⟩
  obtain ⟨r, hr⟩ : ∃ r, r = w.heap.size := ⟨_, rfl⟩
  have Y := Lib.hid (show Two2 w w2 r A n c L from by
    rw [hw2, hr]
    have hb : Below w.heap.size w ((w.alloc (.cells #[.slice A n c] 27)).alloc (.cells #[.slice none 0 0] 27)) := ((Below.refl _ _).alloc (Nat.le_refl _) _).alloc (by simp) _
    refine ⟨?_, ?_, h.below hb, hb⟩
    · rw [cell_of_row _ _ 0 _ _ _ ((heap_alloc_old _ _ (by simp)).trans (heap_alloc_new w (.cells #[.slice A n c] 27)))]
      rfl
    · have := heap_alloc_new (w.alloc (.cells #[.slice A n c] 27)) (.cells #[.slice none 0 0] 27)
      simpa using this)
  have hchk := refGCheck_any (c := c) Y.out.ik hu (by omega) m h0 h1
  have HR := Lib.hid hr
  have HA : Hid (∀ p : Addr, 0 < n → A.map (·.block) = some p.block → p.block < w.heap.size) := fun p hp hA => by
    obtain ⟨ad, rfl, hb, _⟩ := h.at_ hp
    simp at hA
    rw [← hA]
    exact hb
  clear h hu
  obtain ⟨e0, he0⟩ : ∃ e0, e0 = chk m L := ⟨_, rfl⟩
  rw [← he0] at hchk
  have HE := Lib.hid he0
  by_cases hz : e0 = 0
  · subst hz
    have HT := Lib.hid (tk_ok he0.symm)
    clear he0
    go_enter Try.func12, Try.ntmps12
    go_wp2_with fail
    rw [← hw2]
    refine hchk.mono ?_
    rintro e w3 ⟨rfl, hb⟩
    have Y3 := Lib.hid (Y.out.below hb)
    have hc0 := Y3.out.c0
    rw [HR.out] at hc0
    clear hb Y hchk hw2 hr
    have own0 : (w3.alloc (.cells #[] 29)).ownsRow w3.heap.size 29 1 (.slice (some ⟨w3.heap.size, 0, none⟩) 0 0) 0 [] := World.ownsRow_lit w3 #[] 0 (Nat.le_refl _) (by unfold maxLen; omega) rfl
    have X0 := Lib.hid (And.intro own0 ((Below.refl w3.heap.size w3).alloc (Nat.le_refl _) (.cells #[] 29)))
    clear own0
    have hlt : w.heap.size < w3.heap.size := by have := Y3.out.lt; have := HR.out; omega
    have hnk : 0 + n = n := Nat.zero_add n
    go_wp2_with (first
      | (at_builtin; refine wpList_appI _ rfl (.tmp 14) (.tmp 16) 25 rfl w3.heap.size 29 .u64 8 (Nat.le_refl _) Try.underlying25 info64 (.slice (some ⟨w3.heap.size, 0, none⟩) 0 0) 0 [] rfl X0.out.1 A n c n hnk L rfl (Y3.out.ik.below X0.out.2) (by omega) (by simp) ?_; intro A5 c5 w5 own5 g5; have X5 := Lib.hid (And.intro own5 (below_app0 X0.out.1 X0.out.2 (by simp) g5)); clear own5 g5)
      | (at_builtin; refine wpList_appI _ rfl (.tmp 17) (.tmp 19) 25 rfl w3.heap.size 29 .u64 8 (Nat.le_refl _) Try.underlying25 info64 (.slice A5 n c5) n _ rfl (X5.out.1.alloc _) (some ⟨w5.heap.size, 0, none⟩) 1 1 (n + 1) rfl [m] rfl (Ik.one .u64 w5 29 m) (by omega) (by have := X5.out.2.size; simp; omega) ?_; intro A6 c6 w6 own6 g6; have X6 := Lib.hid (And.intro own6 (below_app X5.out.1 X5.out.2 X5.out.2.size _ g6)); have Y6 := Lib.hid (Y3.out.below X6.out.2); have y0 := Y6.out.c1; have yf := Y6.out.f1; rw [HR.out] at y0 yf; clear own6 g6))
    have HF : Hid (RefTakePost w A n m L (.returned (.tuple #[.int .i64 0, .agg #[.slice A6 (n + 1) c6]])) (w6.setCell ⟨w.heap.size + 1, 0, none⟩ (.slice A6 (n + 1) c6))) := by
      have hown := ownsRow_setCell_below X6.out.1 (a := ⟨w.heap.size + 1, 0, none⟩) (by have := Y3.out.lt; have := HR.out; show w.heap.size + 1 < _; omega) (.slice A6 (n + 1) c6)
      have hbel := Y6.out.bel
      rw [HR.out] at hbel
      refine ⟨A6, n + 1, c6, by rw [← HE.out], ?_, hbel.setCell (by simp) _, fun ad e _ => .inr ?_⟩
      rotate_left
      · subst e
        have h5 := own_block X6.out.1
        omega
      rw [HT.out]
      exact Ik.own (zs := L ++ [m]) (by simpa using hown)
    have yr : (w6.setCell ⟨w.heap.size + 1, 0, none⟩ (.slice A6 (n + 1) c6)).cell? ⟨w.heap.size + 1, 0, none⟩ = some (.slice A6 (n + 1) c6) := by
      have hblk := Y6.out.blk
      rw [HR.out] at hblk
      rw [cell_of_row _ _ 0 _ _ _ (heap_setCell_same w6 (w.heap.size + 1) 0 _ _ _ hblk)]
      rfl
    exact bodyPost_ret (v := .tuple #[.int .i64 0, .agg #[.slice A6 (n + 1) c6]]) (by simp [results, Try.results12, go_sem, yr]) rfl HF.out
  · have HT := Lib.hid (tk_no (fun e => hz (he0.trans e)))
    have t1 : (e0 != 0) = true := by simpa using hz
    clear he0 hz
    go_enter Try.func12, Try.ntmps12
    go_wp2_with fail
    rw [← hw2]
    refine hchk.mono ?_
    rintro e w3 ⟨rfl, hb⟩
    have Y3 := Lib.hid (Y.out.below hb)
    have hc0 := Y3.out.c0
    have hc1 := Y3.out.c1
    have hf1 := Y3.out.f1
    rw [HR.out] at hc0 hc1 hf1
    clear hb Y hchk hw2 hr
    go_wp2_with fail
    go_still_tail 3, (by kernel_rfl)
    change wpList _ _ _ _ _ w3.drew
    have Y4 := Lib.hid (show Two2 w w3.drew r A n c L from ⟨Y3.out.c0, Y3.out.blk, ⟨Y3.out.ik.len, Y3.out.ik.at_⟩, Y3.out.bel.drew⟩)
    have hd0 := Y4.out.c0
    have hd1 := Y4.out.c1
    have hk1 := Y4.out.f1
    rw [HR.out] at hd0 hd1 hk1
    clear Y3 hc0 hc1 hf1
    generalize w3.drew = w4 at hd0 hd1 hk1 Y4 ⊢
    go_wp2_with fail
    have HF : Hid (RefTakePost w A n m L (.returned (.tuple #[.int .i64 e0, .agg #[.slice A n c]])) (w4.setCell ⟨w.heap.size + 1, 0, none⟩ (.slice A n c))) := by
      have hbel := Y4.out.bel
      rw [HR.out] at hbel
      refine ⟨A, n, c, by rw [← HE.out], ?_, hbel.setCell (by simp) _, fun ad e h => .inl ⟨e, h⟩⟩
      rw [HT.out]
      have hik := Y4.out.ik
      refine hik.keep (by simp) fun p hp hA hlt => World.cell?_of_block (heap_setCell_other w4 _ _ _ fun e => ?_)
      have hA2 := HA.out p hp hA
      rw [e] at hA2
      exact absurd hA2 (by simp)
    have yr : (w4.setCell ⟨w.heap.size + 1, 0, none⟩ (.slice A n c)).cell? ⟨w.heap.size + 1, 0, none⟩ = some (.slice A n c) := by
      have hblk := Y4.out.blk
      rw [HR.out] at hblk
      rw [cell_of_row _ _ 0 _ _ _ (heap_setCell_same w4 (w.heap.size + 1) 0 _ _ _ hblk)]
      rfl
    exact bodyPost_ret (v := .tuple #[.int .i64 e0, .agg #[.slice A n c]]) (by simp [results, Try.results12, go_sem, yr]) rfl HF.out
end Go.Proofs.Ytkmobiggcehpbaa
