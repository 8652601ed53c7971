/-
  The contract of Get.
-/
import Derived.Test.YthmlcdmlpmbkcaaTlvRefGet
import Derived.Test.YthmlcdmlpmbkcaaTlvCopiedAny
namespace Go.Proofs.Ythmlcdmlpmbkcaa
open Go.RowKit

theorem run_slice_it {P : Program} (w : World) (t e : TypeId) (ad : Addr) (n c lo : Nat) (hi : Int) (ht : P.underlying t = some (.slice e)) (hsz : ∀ w, (sizeOf e).run P w = .ok 5 w) (hh : hi = (lo : Int) + 1) (hk : lo + 1 ≤ c) :
    (Instr.sliceAt t (.slice (some ad) n c) (some (.int .i64 (lo : Int))) (some (.int .i64 hi)) none).run P w = .ok (.slice (some (ad.add (lo * 5))) 1 (c - lo)) w := by
  subst hh
  have e1 : lo + 1 - lo = 1 := by omega
  have a1 : (0 : Int) ≤ (lo : Int) + 1 := by omega
  have a2 : (lo : Int) + 1 ≤ (c : Int) := by omega
  have a3 : ((lo : Int) + 1).toNat = lo + 1 := by omega
  have a4 : c ≠ lo := by omega
  simp [Instr.sliceAt, Instr.slice, run_underlying ht, Instr.sliceBounds, Instr.sliceBound, asIntOf, hsz, a1, a2, a3, e1, a4]
theorem size47 (w : World) : (sizeOf 47).run Try.prog w = .ok 5 w := by kernel_rfl

theorem At.one {w : World} {S : Nat → Prop} {d : Nat} {ad : Addr} {k : Nat} {x : It} {B : Option Addr} {bn bc : Nat} {C : Option Addr} {cn cc : Nat} (h : At w S d ad k x B bn bc C cn cc) (hS : S ad.block) (hlt : ad.block < w.heap.size) {c : Nat} (h1 : 1 ≤ c) (h2 : c ≤ maxLen) :
    Its w S (d + 1) (some (ad.add (k * 5))) 1 c [x] :=
  ⟨rfl, h1, h2, fun _ => ⟨ad.add (k * 5), x.cs B bn bc C cn cc, rfl, by rw [addBlock]; exact hS, by rw [addBlock]; exact hlt, ⟨B, bn, bc, C, cn, cc, [], by simp, h.b, h.i, rfl⟩, fun j v hj => by
    have a1 := h.c1
    have a2 := h.c2
    have a3 := h.c3
    have a4 := h.c4
    rw [addOut] at a1 a2 a3 a4
    rw [addAdd]
    rcases j with _ | _ | _ | _ | _ | j
    · simp [It.cs] at hj; subst hj; exact h.c0
    · simp [It.cs] at hj; subst hj; exact a1
    · simp [It.cs] at hj; subst hj; exact a2
    · simp [It.cs] at hj; subst hj; exact a3
    · simp [It.cs] at hj; subst hj; exact a4
    · simp [It.cs] at hj⟩⟩

/-- The cell of the result, and where it lies. -/
structure Box (w w' : World) : Prop where
  blk : w'.heap[w.heap.size]? = some (.cells #[.int .i64 0, .bool false, .bool false, .slice none 0 0, .slice none 0 0] 47 (0, 0))
  bel : Below w.heap.size w w'
theorem Box.more {w w' w'' : World} (h : Box w w') (hb : Below w'.heap.size w' w'') : Box w w'' :=
  ⟨(hb.block _ (lt_of_block h.blk)).trans h.blk, h.bel.trans (hb.mono h.bel.size)⟩

/-- Five cells of a block written. -/
def put5 (w : World) (b : Nat) (v0 v1 v2 v3 v4 : Value) : World :=
  ((((w.setCell ⟨b, 0, none⟩ v0).setCell ⟨b, 1, none⟩ v1).setCell ⟨b, 2, none⟩ v2).setCell ⟨b, 3, none⟩ v3).setCell ⟨b, 4, none⟩ v4
section
variable {w : World} {b : Nat} {v0 v1 v2 v3 v4 : Value}

theorem put5_blk {u0 u1 u2 u3 u4 : Value} {t : TypeId} (h : w.heap[b]? = some (.cells #[u0, u1, u2, u3, u4] t (0, 0))) : (put5 w b v0 v1 v2 v3 v4).heap[b]? = some (.cells #[v0, v1, v2, v3, v4] t (0, 0)) := by
  have e0 := heap_setCell_same w b 0 _ t v0 h
  have e1 := heap_setCell_same _ b 1 _ t v1 e0
  have e2 := heap_setCell_same _ b 2 _ t v2 e1
  have e3 := heap_setCell_same _ b 3 _ t v3 e2
  have e4 := heap_setCell_same _ b 4 _ t v4 e3
  exact e4
theorem put5_other {k : Nat} (hk : k ≠ b) : (put5 w b v0 v1 v2 v3 v4).heap[k]? = w.heap[k]? := by
  unfold put5
  rw [heap_setCell_other _ _ _ _ hk, heap_setCell_other _ _ _ _ hk, heap_setCell_other _ _ _ _ hk, heap_setCell_other _ _ _ _ hk, heap_setCell_other _ _ _ _ hk]
theorem put5_size : (put5 w b v0 v1 v2 v3 v4).heap.size = w.heap.size := by unfold put5; simp
theorem put5_below {w0 : World} {N : Nat} (h : Below N w0 w) (hb : N ≤ b) : Below N w0 (put5 w b v0 v1 v2 v3 v4) :=
  ((((h.setCell hb _).setCell hb _).setCell hb _).setCell hb _).setCell hb _
end

set_option maxRecDepth 100000 in
set_option maxHeartbeats 1000000 in
theorem get_any {w : World} {d : Nat} {A : Option Addr} {n c : Nat} {l : List It} {kd : Int} (hi : Its w (· < w.heap.size) (d + 1) A n c l) (hlen : lenL l) (hn : n ≤ 1000000) :
    Calls Try.prog 24 #[.slice A n c, .int .i64 kd] w (GetPost w (fun w' b => w.heap.size ≤ b ∧ Free w' b) d (getS kd l)) := by
  have H := Lib.hid (And.intro hi hlen)
  have hl := Lib.hid hi.len
  clear hi hlen
  go_enter Try.func24, Try.ntmps24
  go_wp2_with fail
  go_loopw [10] (fun i wr => ∃ k : Nat, k ≤ n ∧ i = .int .i64 k ∧ getS kd l = getS kd (l.drop k) ∧ Box w wr) (fun i _ => n - (intOf i).toNat)
  case atStart => exact ⟨0, Nat.zero_le _, rfl, rfl, heap_alloc_new _ _, (Below.refl _ _).alloc (Nat.le_refl _) _⟩
  case round =>
    obtain ⟨k, hk, rfl, hg, hbox⟩ := hrel
    have HG := Lib.hid (And.intro hg hbox)
    clear hg hbox
    by_cases hlt : k < n
    · obtain ⟨x, hx⟩ : ∃ x, l[k]? = some x := ⟨_, List.getElem?_eq_getElem (by rw [hl.out]; exact hlt)⟩
      have hiw : Its wr (· < w.heap.size) (d + 1) A n c l := H.out.1.stay HG.out.2.bel.size fun b hb _ => HG.out.2.bel.block b hb
      obtain ⟨ad, B, bn, bc, C, cn, cc, rfl, hS, hblt, hat⟩ := hiw.get hx
      have h0 := hat.c0
      have h1 := hat.c1
      have h2 := hat.c2
      have h3 := hat.c3
      have h4 := hat.c4
      have hnc : n ≤ c ∧ c ≤ maxLen := ⟨hiw.2.1, hiw.2.2.1⟩
      have X := Lib.hid (show At wr (· < w.heap.size) d ad k x B bn bc C cn cc ∧ l.drop k = x :: l.drop (k + 1) ∧ Its wr (· < w.heap.size) (d + 1) (some (ad.add (k * 5))) 1 (c - k) [x] ∧ lenL [x] from
        ⟨hat, drop_cons hx, hat.one hS hblt (by omega) (by omega), lenL_mk fun y hy => by rw [List.mem_singleton.1 hy]; exact lenL_mem H.out.2 (List.mem_of_getElem? hx)⟩)
      have hsl := fun w' => run_slice_it (P := Try.prog) w' 22 47 ad n c k ((k : Int) + 1) Try.underlying22 size47 rfl (by omega)
      have hkl : (k : Int) < (n : Int) := by omega
      clear hiw hS hblt hat hnc hx
      by_cases hkd : x.kind = kd
      · have hd2 : (x.kind == kd) = true := by simpa using hkd
        have HP : Hid (getS kd l = some x) := by show _ = _; rw [HG.out.1, X.out.2.1, get_here hkd]
        clear hkd
        go_wp2_with fail
        have hb2 : Below wr.heap.size wr (wr.alloc (.cells #[.int .i64 x.kind, .bool x.crit, .bool x.lst, .slice B bn bc, .slice C cn cc] 47)) := (Below.refl _ _).alloc (Nat.le_refl _) _
        refine (copied_any (d + 1) _ _ _ _ _ _ (X.out.2.2.1.below hb2) X.out.2.2.2 (by omega)).mono ?_
        rintro e w3 ⟨hb3, A3, n3, c3, rfl, hits⟩
        have hbox3 := (HG.out.2.more hb2).more hb3
        obtain rfl : 1 = n3 := hits.len
        obtain ⟨ad3, B3, bn3, bc3, C3, cn3, cc3, rfl, hS3, hblt3, hat3⟩ := hits.get (k := 0) rfl
        have g0 : w3.cell? ad3 = some (.int .i64 x.kind) := hat3.c0
        have g1 : w3.cell? ⟨ad3.block, ad3.off + 1, none⟩ = some (.bool x.crit) := hat3.c1
        have g2 : w3.cell? ⟨ad3.block, ad3.off + 2, none⟩ = some (.bool x.lst) := hat3.c2
        have g3 : w3.cell? ⟨ad3.block, ad3.off + 3, none⟩ = some (.slice B3 bn3 bc3) := hat3.c3
        have g4 : w3.cell? ⟨ad3.block, ad3.off + 4, none⟩ = some (.slice C3 cn3 cc3) := hat3.c4
        obtain ⟨x0, x1, x2, x3, x4⟩ := item_cells hbox3.blk
        have hfr := item_free hbox3.blk
        have Y := Lib.hid (And.intro hbox3 (And.intro hat3 hb3.size))
        clear hbox3 hat3 hb3 hb2 hits hS3 hblt3 h0 h1 h2 h3 h4
        go_wp2_with fail
        obtain ⟨y0, y1, y2, y3, y4⟩ := item_cells (put5_blk (v0 := .int .i64 x.kind) (v1 := .bool x.crit) (v2 := .bool x.lst) (v3 := .slice B3 bn3 bc3) (v4 := .slice C3 cn3 cc3) Y.out.1.blk)
        unfold put5 at y0 y1 y2 y3 y4
        refine bodyPost_ret (v := .tuple #[.agg #[.int .i64 x.kind, .bool x.crit, .bool x.lst, .slice B3 bn3 bc3, .slice C3 cn3 cc3], .bool true]) (by simp [results, Try.results24, go_sem, y0, y1, y2, y3, y4]) rfl ?_
        show GetPost w _ d _ _ (put5 w3 w.heap.size _ _ _ _ _)
        rw [HP.out]
        have hk : ∀ b, ((wr.alloc (.cells #[.int .i64 x.kind, .bool x.crit, .bool x.lst, .slice B bn bc, .slice C cn cc] 47)).heap.size ≤ b ∧ Free w3 b) → b < w3.heap.size →
            (put5 w3 w.heap.size (.int .i64 x.kind) (.bool x.crit) (.bool x.lst) (.slice B3 bn3 bc3) (.slice C3 cn3 cc3)).heap[b]? = w3.heap[b]? ∧ w.heap.size ≤ b ∧ Free (put5 w3 w.heap.size (.int .i64 x.kind) (.bool x.crit) (.bool x.lst) (.slice B3 bn3 bc3) (.slice C3 cn3 cc3)) b := fun b hb _ => by
          have h1 := lt_of_block HG.out.2.blk
          have h2 := hb.1
          simp at h2
          have e := put5_other (w := w3) (b := w.heap.size) (v0 := .int .i64 x.kind) (v1 := .bool x.crit) (v2 := .bool x.lst) (v3 := .slice B3 bn3 bc3) (v4 := .slice C3 cn3 cc3) (k := b) (by omega)
          exact ⟨e, by omega, free_block hb.2 e⟩
        exact ⟨put5_below Y.out.1.bel (Nat.le_refl _), B3, bn3, bc3, C3, cn3, cc3, rfl, Y.out.2.1.b.move (Nat.le_of_eq put5_size.symm) hk, Y.out.2.1.i.move (Nat.le_of_eq put5_size.symm) hk⟩
      · have hd2 : (x.kind == kd) = false := by simpa using hkd
        have HP : Hid (getS kd l = getS kd (l.drop (k + 1))) := by show _ = _; rw [HG.out.1, X.out.2.1, get_next hkd]
        clear hkd
        go_wp2_with fail
        go_roundw
        case rel => exact ⟨k + 1, by omega, by go_num, HP.out, HG.out.2.more ((Below.refl _ _).alloc (Nat.le_refl _) _)⟩
        case measure => simp [intOf]; omega
    · have hz : l.drop k = [] := List.drop_eq_nil_of_le (by rw [hl.out]; omega)
      have HQ : Hid (getS kd l = none) := by show _ = _; rw [HG.out.1, hz]; rfl
      obtain ⟨x0, x1, x2, x3, x4⟩ := item_cells HG.out.2.blk
      have hfr := item_free HG.out.2.blk
      clear hz
      go_wp2_with fail
      obtain ⟨y0, y1, y2, y3, y4⟩ := item_cells (put5_blk (v0 := .int .i64 0) (v1 := .bool false) (v2 := .bool false) (v3 := .slice none 0 0) (v4 := .slice none 0 0) HG.out.2.blk)
      unfold put5 at y0 y1 y2 y3 y4
      refine bodyPost_ret (v := .tuple #[.agg #[.int .i64 0, .bool false, .bool false, .slice none 0 0, .slice none 0 0], .bool false]) (by simp [results, Try.results24, go_sem, y0, y1, y2, y3, y4]) rfl ?_
      show GetPost w _ d _ _ (put5 wr w.heap.size _ _ _ _ _)
      rw [HQ.out]
      exact ⟨put5_below HG.out.2.bel (Nat.le_refl _), rfl⟩

end Go.Proofs.Ythmlcdmlpmbkcaa
