/-
  The contract of the closure that reads a list and all lists within it.
-/
import Derived.Test.YtchpobikbcelfaaTlvReadMem
import Derived.Test.YtchpobikbcelfaaTlvDec
import Derived.Laws.EntriesVeiled
import Derived.Deep.LoopGhost
namespace Go.Proofs.Ytchpobikbcelfaa
open Go.RowKit

/-- The two variables that the closure captured. -/
structure RB (w : World) (cb kb : Nat) (c : Int) : Prop where
  cnt : w.heap[cb]? = some (.cells #[.int .i64 c] 3 (0, 0))
  fn : w.heap[kb]? = some (.cells #[.func (.func 40) #[] #[.pointer (some ⟨cb, 0, none⟩), .pointer (some ⟨kb, 0, none⟩)]] 57 (0, 0))
  ne : cb ≠ kb
theorem RB.stay {w w' : World} {cb kb : Nat} {c : Int} (h : RB w cb kb c) (h1 : w'.heap[cb]? = w.heap[cb]?) (h2 : w'.heap[kb]? = w.heap[kb]?) : RB w' cb kb c := ⟨h1.trans h.cnt, h2.trans h.fn, h.ne⟩
theorem RB.below {w w' : World} {cb kb : Nat} {c : Int} (h : RB w cb kb c) (hb : Below w.heap.size w w') : RB w' cb kb c := h.stay (hb.block _ (lt_of_block h.cnt)) (hb.block _ (lt_of_block h.fn))
theorem RB.grown {w w' : World} {cb kb r : Nat} {c : Int} (h : RB w cb kb c) (hg : w.grownBy w' (some r)) (h1 : cb ≠ r) (h2 : kb ≠ r) : RB w' cb kb c :=
  h.stay (hg.block _ (lt_of_block h.cnt) (fun e => h1 (by injection e))) (hg.block _ (lt_of_block h.fn) (fun e => h2 (by injection e)))
theorem RB.set {w : World} {cb kb : Nat} {c : Int} (h : RB w cb kb c) (c' : Int) : RB (w.setCell ⟨cb, 0, none⟩ (.int .i64 c')) cb kb c' :=
  ⟨one_setCell h.cnt, (heap_setCell_other w _ kb _ (Ne.symm h.ne)).trans h.fn, h.ne⟩

def ReadPost (w : World) (cb kb d : Nat) (q : DR) (e : Ending) (w' : World) : Prop :=
  match q with
  | .bad _ E => e = gaveUp E ∧ w.grownBy w' (some cb)
  | .ok c l => ∃ A n cap, e = .returned (.slice A n cap) ∧ RB w' cb kb c ∧ w.grownBy w' (some cb) ∧ Its w' (fun b => w.heap.size ≤ b ∧ Free w' b) (d + 1) A n cap l

/-- The world within the loop. -/
structure RInv (w : World) (cb kb r d : Nat) (c : Int) (ys : List Int) (A : Option Addr) (m cp : Nat) (acc : List It) (xs : List Value) (wr : World) : Prop where
  rb : RB wr cb kb c
  g : w.grownBy wr (some cb)
  rd : ∃ A1 n1 c1, Rd 84 w.heap.size wr r A1 n1 c1 ys 0
  row : IRow wr r d A m cp acc xs
  lc : cb < w.heap.size
  lk : kb < w.heap.size
  lr : w.heap.size ≤ r

section
variable {w wr w' : World} {cb kb r d : Nat} {c : Int} {ys : List Int} {A : Option Addr} {m cp : Nat} {acc : List It} {xs : List Value}

theorem RInv.below (h : RInv w cb kb r d c ys A m cp acc xs wr) (hb : Below wr.heap.size wr w') : RInv w cb kb r d c ys A m cp acc xs w' := by
  obtain ⟨A1, n1, c1, hr⟩ := h.rd
  exact ⟨h.rb.below hb, grownBy_trans h.g (grownBy_below hb), ⟨A1, n1, c1, hr.below hb⟩, h.row.below hb, h.lc, h.lk, h.lr⟩
theorem RInv.alloc (h : RInv w cb kb r d c ys A m cp acc xs wr) (o : Obj) : RInv w cb kb r d c ys A m cp acc xs (wr.alloc o) := h.below ((Below.refl _ _).alloc (Nat.le_refl _) _)
/-- The count is written. -/
theorem RInv.count (h : RInv w cb kb r d c ys A m cp acc xs wr) (c' : Int) : RInv w cb kb r d c' ys A m cp acc xs (wr.setCell ⟨cb, 0, none⟩ (.int .i64 c')) := by
  obtain ⟨A1, n1, c1, hr⟩ := h.rd
  have hl := h.lc
  have hr' := h.lr
  refine ⟨h.rb.set c', grownBy_trans h.g (grownBy_set _ _ _), ⟨A1, n1, c1, hr.stay (by simp) fun k h1 _ => heap_setCell_other wr _ k _ (by simp; omega)⟩, h.row.grown (grownBy_set _ _ _) (fun k hk => by injection hk with hk; left; simp at hk; omega), h.lc, h.lk, h.lr⟩
/-- The reader has been called. -/
theorem RInv.called (h : RInv w cb kb r d c ys A m cp acc xs wr) {ys' : List Int} (ht : RdTo 84 w.heap.size wr r ys' 0 w') : RInv w cb kb r d c ys' A m cp acc xs w' := by
  have h1 := h.lc
  have h2 := h.lk
  have h3 := h.lr
  refine ⟨h.rb.grown ht.2 (by omega) (by omega), ?_, ht.1, h.row.grown ht.2 (fun k hk => by injection hk with hk; omega), h.lc, h.lk, h.lr⟩
  refine ⟨ht.2.os.trans h.g.os, ht.2.tape.trans h.g.tape, ht.2.output.trans h.g.output, Nat.le_trans h.g.size ht.2.size, fun k hk hne => ?_⟩
  rw [ht.2.block k (Nat.lt_of_lt_of_le hk h.g.size) (fun e => by injection e with e; omega), h.g.block k hk hne]
theorem RInv.gone (h : RInv w cb kb r d c ys A m cp acc xs wr) (hg : wr.grownBy w' (some r)) : w.grownBy w' (some cb) := by
  have h3 := h.lr
  refine ⟨hg.os.trans h.g.os, hg.tape.trans h.g.tape, hg.output.trans h.g.output, Nat.le_trans h.g.size hg.size, fun k hk hne => ?_⟩
  rw [hg.block k (Nat.lt_of_lt_of_le hk h.g.size) (fun e => by injection e with e; omega), h.g.block k hk hne]
end


/-- Within a round: w2 is the world ahead of the round's own item, which lies in its first new block; of w2 the count and the reader alone have turned. -/
structure RMid (base : Nat) (w2 : World) (cb kb r : Nat) (c : Int) (ys : List Int) (e : Int) (cs : Array Value) (w' : World) : Prop where
  rb : RB w' cb kb c
  os : w'.os = w2.os
  tape : w'.tape = w2.tape
  output : w'.output = w2.output
  size : w2.heap.size ≤ w'.heap.size
  out : ∀ k, k < w2.heap.size → k ≠ cb → k ≠ r → w'.heap[k]? = w2.heap[k]?
  rd : ∃ A1 n1 c1, Rd 84 base w' r A1 n1 c1 ys e
  box : w'.heap[w2.heap.size]? = some (.cells cs 47 (0, 0))
  lc : cb < base
  lk : kb < base
  lr : base ≤ r
  ls : r < w2.heap.size

section
variable {base : Nat} {w w2 w' w'' : World} {cb kb r : Nat} {c : Int} {ys : List Int} {e : Int} {cs : Array Value}

theorem RMid.below (h : RMid base w2 cb kb r c ys e cs w') (hb : Below w'.heap.size w' w'') : RMid base w2 cb kb r c ys e cs w'' := by
  obtain ⟨A1, n1, c1, hr⟩ := h.rd
  exact ⟨h.rb.below hb, hb.os.trans h.os, hb.tape.trans h.tape, hb.output.trans h.output, Nat.le_trans h.size hb.size, fun k hk h1 h2 => (hb.block k (Nat.lt_of_lt_of_le hk h.size)).trans (h.out k hk h1 h2),
    ⟨A1, n1, c1, hr.below hb⟩, (hb.block _ (lt_of_block h.box)).trans h.box, h.lc, h.lk, h.lr, h.ls⟩
theorem RMid.called (h : RMid base w2 cb kb r c ys e cs w') {ys' : List Int} {e' : Int} (ht : RdTo 84 base w' r ys' e' w'') : RMid base w2 cb kb r c ys' e' cs w'' := by
  have h1 := h.lc
  have h2 := h.lk
  have h3 := h.lr
  have h4 := h.ls
  have hg := ht.2
  exact ⟨h.rb.grown hg (by omega) (by omega), hg.os.trans h.os, hg.tape.trans h.tape, hg.output.trans h.output, Nat.le_trans h.size hg.size,
    fun k hk h1 h2 => (hg.block k (Nat.lt_of_lt_of_le hk h.size) (fun e => h2 (by injection e))).trans (h.out k hk h1 h2), ht.1,
    (hg.block _ (lt_of_block h.box) (fun e => by injection e with e; omega)).trans h.box, h.lc, h.lk, h.lr, h.ls⟩
theorem RMid.inner (h : RMid base w2 cb kb r c ys e cs w') {c' : Int} (hb : RB w'' cb kb c') (hg : w'.grownBy w'' (some cb)) : RMid base w2 cb kb r c' ys e cs w'' := by
  have h1 := h.lc
  have h3 := h.lr
  have h4 := h.ls
  obtain ⟨A1, n1, c1, hr⟩ := h.rd
  have hlt := hr.lt
  exact ⟨hb, hg.os.trans h.os, hg.tape.trans h.tape, hg.output.trans h.output, Nat.le_trans h.size hg.size,
    fun k hk h1 h2 => (hg.block k (Nat.lt_of_lt_of_le hk h.size) (fun e => h1 (by injection e))).trans (h.out k hk h1 h2),
    ⟨A1, n1, c1, hr.stay hg.size fun k h5 h6 => hg.block k (by omega) (fun e => by injection e with e; omega)⟩,
    (hg.block _ (lt_of_block h.box) (fun e => by injection e with e; omega)).trans h.box, h.lc, h.lk, h.lr, h.ls⟩
/-- A cell of the round's own item is written. -/
theorem RMid.setBox {v0 v1 v2 v3 v4 : Value} (h : RMid base w2 cb kb r c ys e #[v0, v1, v2, v3, v4] w') (j : Nat) (u : Value) : RMid base w2 cb kb r c ys e (#[v0, v1, v2, v3, v4].setIfInBounds j u) (w'.setCell ⟨w2.heap.size, j, none⟩ u) := by
  have h1 := h.lc
  have h2 := h.lk
  have h3 := h.lr
  have h4 := h.ls
  obtain ⟨A1, n1, c1, hr⟩ := h.rd
  refine ⟨h.rb.stay (heap_setCell_other _ _ _ _ ?_) (heap_setCell_other _ _ _ _ ?_), h.os, h.tape, h.output, Nat.le_trans h.size (by simp), fun k hk g1 g2 => (heap_setCell_other _ _ _ _ ?_).trans (h.out k hk g1 g2),
    ⟨A1, n1, c1, hr.stay (by simp) fun k g1 g2 => heap_setCell_other _ _ _ _ ?_⟩, heap_setCell_same w' w2.heap.size j _ _ _ h.box, h.lc, h.lk, h.lr, h.ls⟩
  all_goals (simp; omega)
theorem RMid.gone (h : RMid base w2 cb kb r c ys e cs w') (hbase : base = w.heap.size) (hg : w.grownBy w2 (some cb)) : w.grownBy w' (some cb) := by
  have h3 := h.lr
  refine ⟨h.os.trans hg.os, h.tape.trans hg.tape, h.output.trans hg.output, Nat.le_trans hg.size h.size, fun k hk hne => ?_⟩
  rw [h.out k (Nat.lt_of_lt_of_le hk hg.size) (fun e => hne (by rw [e])) (by omega), hg.block k hk hne]
/-- What lies behind the round's own item is let be by all that is written in a round. -/
theorem RMid.row (h : RMid base w2 cb kb r c ys e cs w') {d : Nat} {A : Option Addr} {m cp : Nat} {acc : List It} {xs : List Value} (hr : IRow w2 r d A m cp acc xs) : IRow w' r d A m cp acc xs := by
  have h1 := h.lc
  have h3 := h.lr
  have hlt := hr.own.lt
  rw [ownBlock_map] at hlt
  have hk : ∀ b, (r < b ∧ A.map (·.block) ≠ some b ∧ Free w2 b) → b < w2.heap.size → w'.heap[b]? = w2.heap[b]? ∧ r < b ∧ A.map (·.block) ≠ some b ∧ Free w' b := fun b hb hlt => by
    have h5 := hb.1
    have e := h.out b hlt (by omega) (by omega)
    exact ⟨e, hb.1, hb.2.1, free_block hb.2.2 e⟩
  refine ⟨⟨hr.own.1, ?_⟩, hr.row.imp (fun _ _ _ _ hb => hb.move h.size hk) (fun _ _ _ _ hi => hi.move h.size hk)⟩
  rcases hr.own.2 with h5 | ⟨g, cap, cur, hv, hb, hg, h6⟩
  · exact .inl h5
  · exact .inr ⟨g, cap, cur, hv, hb, (h.out g (lt_of_block hg) (by omega) (by omega)).trans hg, h6⟩
end

/-- The contract, at a depth. -/
def ReadC (cb kb d : Nat) : Prop := ∀ (D : Int), D + d = 4 → 1 ≤ D → ∀ (w : World) (A : Option Addr) (n c : Nat) (zs : List Int) (cnt : Int), Sb w A n zs → U8s zs → n ≤ 4096 → RB w cb kb cnt → 0 ≤ cnt → cnt ≤ 64 →
    Calls Try.prog 40 #[.slice A n c, .int .i64 D, .pointer (some ⟨cb, 0, none⟩), .pointer (some ⟨kb, 0, none⟩)] w (ReadPost w cb kb d (decL D cnt 0 zs))

theorem RInv.mid {w wr : World} {cb kb r d : Nat} {c : Int} {ys : List Int} {A : Option Addr} {m cp : Nat} {acc : List It} {xs : List Value} (h : RInv w cb kb r d c ys A m cp acc xs wr) (c' : Int) (cs : Array Value) :
    RMid w.heap.size wr cb kb r c' ys 0 cs ((wr.setCell ⟨cb, 0, none⟩ (.int .i64 c')).alloc (.cells cs 47)) := by
  obtain ⟨A1, n1, c1, hr⟩ := (h.count c').rd
  have hb : heap_alloc_new (wr.setCell ⟨cb, 0, none⟩ (.int .i64 c')) (.cells cs 47) = heap_alloc_new _ _ := rfl
  have h1 := heap_alloc_new (wr.setCell ⟨cb, 0, none⟩ (.int .i64 c')) (.cells cs 47)
  have e : (wr.setCell ⟨cb, 0, none⟩ (.int .i64 c')).heap.size = wr.heap.size := by simp
  rw [e] at h1
  refine ⟨(h.count c').rb.below ((Below.refl _ _).alloc (Nat.le_refl _) _), rfl, rfl, rfl, by simp, fun k hk g1 _ => ?_, ⟨A1, n1, c1, hr.alloc _⟩, h1, h.lc, h.lk, h.lr, by have := hr.lt; omega⟩
  rw [heap_alloc_old _ _ (by rw [e]; exact hk)]
  exact heap_setCell_other wr _ k _ g1

theorem RMid.append {w w2 w5 w6 : World} {cb kb r d : Nat} {c : Int} {ys : List Int} {cs : Array Value} (h : RMid w.heap.size w2 cb kb r c ys 0 cs w5) (hg0 : w.grownBy w2 (some cb)) {A A' : Option Addr} {m cp c' : Nat} {acc : List It} {xs : List Value}
    (hr2 : IRow w2 r d A m cp acc xs) {x : It} {B : Option Addr} {bn bc : Nat} {C : Option Addr} {cn cc : Nat} (hb : Bs w5 (fun b => w2.heap.size < b ∧ Free w5 b) B bn bc x.bytes) (hi : Its w5 (fun b => w2.heap.size < b ∧ Free w5 b) d C cn cc x.items)
    (ho : w6.ownsRow (r + 1) 47 5 (.slice A' (m + 1) c') (m + 1) (xs ++ x.cs B bn bc C cn cc)) (hg : w5.grownBy w6 (Value.slice A m cp).ownBlock)
    (hw : A'.map (·.block) = (Value.slice A m cp).ownBlock ∨ A'.map (·.block) = some w5.heap.size) :
    RInv w cb kb r d c ys A' (m + 1) c' (acc ++ [x]) (xs ++ x.cs B bn bc C cn cc) w6 ∧ w6.heap[w2.heap.size]? = some (.cells cs 47 (0, 0)) := by
  have h1 := h.lc
  have h2 := h.lk
  have h3 := h.lr
  have h4 := h.ls
  have hlt := hr2.own.lt
  have hS : ∀ b, (w2.heap.size < b ∧ Free w5 b) → b < w5.heap.size → r < b ∧ A.map (·.block) ≠ some b ∧ Free w5 b := fun b hb _ => ⟨by have := hb.1; omega, fun e => by
    rw [← ownBlock_map A m cp] at e
    have := hlt b e
    have := hb.1
    omega, hb.2⟩
  have hrow := (h.row hr2).snoc (hb.mono hS) (hi.mono hS) ho hg hw
  have hk : ∀ b, b ≤ r ∨ b = w2.heap.size → b < w5.heap.size → w6.heap[b]? = w5.heap[b]? := fun b hb hb5 => hg.block b hb5 fun e => by
    have := hlt b e.symm
    omega
  obtain ⟨A1, n1, c1, hr⟩ := h.rd
  refine ⟨⟨h.rb.stay (hk _ (by omega) (lt_of_block h.rb.cnt)) (hk _ (by omega) (lt_of_block h.rb.fn)), ?_, ⟨A1, n1, c1, hr.stay hg.size fun k _ h6 => hk k (.inl h6) (by have := hr.lt; omega)⟩, hrow, h.lc, h.lk, h.lr⟩, (hk _ (.inr rfl) (lt_of_block h.box)).trans h.box⟩
  have hg5 := h.gone rfl hg0
  refine ⟨hg.os.trans hg5.os, hg.tape.trans hg5.tape, hg.output.trans hg5.output, Nat.le_trans hg5.size hg.size, fun k hk' hne => ?_⟩
  rw [hk k (by omega) (Nat.lt_of_lt_of_le hk' hg5.size), hg5.block k hk' hne]

theorem bs_fresh {t : TypeId} {zs : List Int} {w w' : World} {A : Option Addr} {n c b0 : Nat} (h : FreshAt t zs w A n c w') (hu : U8s zs) (hz : zs.length ≤ 4096) (hb : b0 < w.heap.size) : Bs w' (fun b => b0 < b ∧ Free w' b) A n c zs :=
  ⟨h.sb, hu, h.le, h.max, by have := h.len; omega, fun ad e _ => ⟨Nat.lt_of_lt_of_le hb (own_block (ad := ad) (by rw [← e]; exact h.own)).1, free_own' (ad := ad) (by rw [← e]; exact h.own)⟩⟩
theorem bs_none (w : World) (S : Nat → Prop) : Bs w S none 0 0 [] := ⟨Sb.nil _ _, U8s.nil, Nat.le_refl _, by unfold maxLen; omega, by omega, fun ad e _ => by cases e⟩
theorem its_none (w : World) (S : Nat → Prop) (d : Nat) : Its w S d none 0 0 [] := by
  cases d with
  | zero => exact ⟨rfl, rfl, by unfold maxLen; omega⟩
  | succ d => exact ⟨rfl, Nat.le_refl _, by unfold maxLen; omega, fun h => absurd h (by omega)⟩

set_option maxRecDepth 100000 in
set_option maxHeartbeats 2000000 in
theorem read_step (cb kb : Nat) (d : Nat) (ih : ∀ d', d = d' + 1 → ReadC cb kb d') : ReadC cb kb d := by
  · intro D hD hD1 w A n c zs cnt hs hu hn hrb hc0 hc1
    have IH := Lib.hid ih
    clear ih
    have HL := Lib.hid hs.len
    go_enter Try.func40, Try.ntmps40
    go_wp2_with fail
    refine (new_any hs (by omega)).mono ?_
    rintro e w1 ⟨r, A1, n1, c1, rfl, hr, hb⟩
    have R1 : Hid (RInv w cb kb r d cnt zs none 0 0 [] [] w1) :=
      ⟨hrb.below hb, grownBy_below hb, ⟨A1, n1, c1, hr⟩, IRow.nil _ _ _, lt_of_block hrb.cnt, lt_of_block hrb.fn, hr.lo⟩
    clear hr hb hrb hs
    go_wp2_with fail
    go_loopg [7, 8] zs.length (fun k v a wr => ∃ (m cp : Nat) (A' : Option Addr) (acc : List It) (xs : List Value) (c' a' : Int) (ys : List Int), v = .slice A' m cp ∧ a = .int .i64 a' ∧ 0 ≤ a' ∧ a' ≤ 1000 ∧ 0 ≤ c' ∧ c' ≤ 64 ∧ (m : Int) ≤ c' ∧
      ys.length ≤ k ∧ U8s ys ∧ ys.length ≤ 4096 ∧ decL D cnt 0 zs = (decL D c' a' ys).pres acc ∧ RInv w cb kb r d c' ys A' m cp acc xs wr)
    case atStart => exact ⟨0, 0, none, [], [], cnt, 0, zs, rfl, rfl, Int.le_refl 0, by omega, hc0, hc1, by omega, Nat.le_refl _, hu, by rw [HL.out]; exact hn, by rw [DR.pres_nil], R1.out⟩
    case round =>
      clear R1 hc0 hc1 hu hn HL
      obtain ⟨m, cp, A', acc, xs, c', a', ys, rfl, rfl, ha0, ha1, hc0, hc1, hmc, hk, hu, h4096, hdec, hR⟩ := hrel
      obtain ⟨A2, n2, c2, hr⟩ := hR.rd
      have hl2 := hr.sb.len
      have HU := Lib.hid hu
      have HR := Lib.hid hR
      have HD := Lib.hid hdec
      have HK := Lib.hid hk
      by_cases hy : ys = []
      · subst hy
        have hn2 : n2 = 0 := by rw [← hl2]; rfl
        subst hn2
        have HP : ReadPost w cb kb d (decL D cnt 0 zs) (.returned (.slice A' m cp)) wr := by
          rw [hdec, decL_nil]
          exact ⟨A', m, cp, rfl, hR.rb, hR.g, by simpa [DR.pres] using hR.row.its.mono fun b hb _ => ⟨Nat.le_of_lt (Nat.lt_of_le_of_lt hR.lr hb.1), hb.2⟩⟩
        clear hdec hR hu hl2
        go_wp2_with (go_at_call 42; refine (left_any hr).mono ?_; rintro e w' ⟨rfl, rfl⟩)
        go_ret
        exact HP
      · have hn2 : 0 < n2 := by rw [← hl2]; exact List.length_pos_iff.2 hy
        have HY := Lib.hid (And.intro hy hl2)
        have HRr := Lib.hid hr
        have hm2 : n2 ≤ 140737488355328 := by omega
        clear hy hl2 hdec hR hk hr hu
        go_wp2_with (go_at_call 42; refine (left_any HRr.out).mono ?_; rintro e w' ⟨rfl, rfl⟩)
        refine (readFirst_any HRr.out HU.out hm2 a' ha0 ha1).mono ?_
        rintro e w2 hF
        unfold FirstPost at hF
        by_cases h1 : fvE 0 ys ≠ 0
        · rw [if_pos h1] at hF
          obtain ⟨rfl, hg⟩ := hF
          have HP : ReadPost w cb kb d (decL D cnt 0 zs) (gaveUp (fvE 0 ys)) w2 := by
            rw [HD.out, dec_e1 HU.out HY.out.1 h1]
            exact ⟨rfl, HR.out.gone hg⟩
          clear hg h1
          unfold gaveUp
          go_wp2_with fail
          exact ⟨rfl, HP⟩
        rw [if_neg h1] at hF
        have h1' := Classical.not_not.1 h1
        by_cases h2 : 1000 < fvV ys / 4 ∨ fvV ys / 4 ≤ a'
        · rw [if_pos h2] at hF
          obtain ⟨rfl, hg⟩ := hF
          have HP : ReadPost w cb kb d (decL D cnt 0 zs) (gaveUp 3) w2 := by
            rw [HD.out, dec_e2 HU.out HY.out.1 h1' h2]
            exact ⟨rfl, HR.out.gone hg⟩
          clear hg h1 h1' h2
          unfold gaveUp
          go_wp2_with fail
          exact ⟨rfl, HP⟩
        rw [if_neg h2] at hF
        obtain ⟨rfl, hto⟩ := hF
        have HR2 := Lib.hid (HR.out.called hto)
        have H2 := Lib.hid (And.intro h1' h2)
        have hV1 : 0 ≤ fvV ys / 4 ∧ fvV ys / 4 ≤ 1000 := by omega
        obtain ⟨V, hV⟩ : ∃ V, V = fvV ys := ⟨_, rfl⟩
        obtain ⟨b2, hb2⟩ : ∃ b, b = decide (V / 2 % 2 = 1) := ⟨_, rfl⟩
        obtain ⟨b1, hb1⟩ : ∃ b, b = decide (V % 2 = 1) := ⟨_, rfl⟩
        obtain ⟨K0, hK0⟩ : ∃ k, k = V / 4 := ⟨_, rfl⟩
        rw [← hV, ← hb1, ← hb2, ← hK0]
        rw [← hV, ← hK0] at hV1
        have HV := Lib.hid (And.intro hV (And.intro hb1 (And.intro hb2 hK0)))
        clear hto h1 h1' h2 hV hb1 hb2 hK0
        have cc0 := cell_of_one HR2.out.rb.cnt
        have cc1 := free_of_one HR2.out.rb.cnt
        have hcl : cb < w2.heap.size := lt_of_block HR2.out.rb.cnt
        by_cases h3 : c' = 64
        · have HP : ∀ o, ReadPost w cb kb d (decL D cnt 0 zs) (gaveUp 4) (w2.alloc o) := fun o => by
            rw [HD.out, dec_e3 HU.out HY.out.1 H2.out.1 H2.out.2 h3]
            exact ⟨rfl, (HR2.out.alloc o).g⟩
          have HQ := Lib.hid HP
          have t3 : (c' == 64) = true := by simpa using h3
          clear HP h3
          go_wp2_with fail
          exact ⟨rfl, HQ.out _⟩
        have t3 : (c' == 64) = false := by simpa using h3
        have H3 := Lib.hid h3
        have hc2 : c' + 1 ≤ 64 := by omega
        clear h3
        have HM := Lib.hid fun cs => HR2.out.mid (c' + 1) cs
        by_cases h4 : b1 = true ∧ 4 ≤ D
        · obtain ⟨h4, h4'⟩ := h4
          have HP : ∀ cs, ReadPost w cb kb d (decL D cnt 0 zs) (gaveUp 5) ((w2.setCell ⟨cb, 0, none⟩ (.int .i64 (c' + 1))).alloc (.cells cs 47)) := fun cs => by
            have h5 : V % 2 = 1 := by have := HV.out.2.1; rw [h4] at this; simpa using this.symm
            rw [HD.out, dec_e4 HU.out HY.out.1 H2.out.1 H2.out.2 H3.out ⟨by rw [← HV.out.1]; exact h5, h4'⟩]
            exact ⟨rfl, ((HR2.out.count (c' + 1)).alloc _).g⟩
          have HQ := Lib.hid HP
          subst h4
          clear HP HM
          go_wp2_with fail
          exact ⟨rfl, HQ.out _⟩
        cases hbb : b1 with
        | true =>
          have hD3 : D ≤ 3 := by
            have : ¬ 4 ≤ D := fun h => h4 ⟨hbb, h⟩
            omega
          have hV5 : fvV ys % 2 = 1 := by have := HV.out.2.1; rw [hbb] at this; rw [← HV.out.1]; simpa using this.symm
          have HV5 := Lib.hid hV5
          clear h4 hV5
          subst hbb
          have hu1 : U8s (ys.drop (fvK ys)) := HU.out.drop _
          have hl1 : (ys.drop (fvK ys)).length ≤ 4096 := by simp; omega
          obtain ⟨y1, hy1⟩ : ∃ y, y = ys.drop (fvK ys) := ⟨_, rfl⟩
          rw [← hy1] at HM HR2 hu1 hl1
          have HY1 := Lib.hid hy1
          have HU1 := Lib.hid hu1
          clear hy1 hu1
          have M1 := HM.out #[.int .i64 K0, .bool b2, .bool true, .slice none 0 0, .slice none 0 0]
          obtain ⟨Ax, nx, cx, hrx⟩ := M1.rd
          have HX := Lib.hid hrx
          have hnx : nx ≤ 140737488355328 := by have := hrx.sb.len; omega
          have M1 := Lib.hid M1
          clear hrx HM
          go_wp2_with fail
          refine (rtext_any HX.out HU1.out hnx 4096 (by omega)).mono ?_
          rintro e w3 ⟨v3, rfl, ⟨A3, n3, c3, rfl, hf⟩, hto⟩
          obtain ⟨q, hq⟩ : ∃ q, q = text1 y1 0 4096 := ⟨_, rfl⟩
          rw [← hq] at hf hto
          have HQ := Lib.hid hq
          have M2 := Lib.hid (M1.out.called hto)
          have HF := Lib.hid (And.intro hf (lt_of_block M1.out.box))
          clear hq hf hto HX M1 cc0 cc1 hcl
          obtain ⟨Ay, ny, cy, hry⟩ := M2.out.rd
          have HX := Lib.hid hry
          clear hry
          go_wp2_with fail
          refine (err_any HX.out).mono ?_
          rintro e w' ⟨rfl, rfl⟩
          by_cases h5 : q.2.2 ≠ 0
          · have HP : ReadPost w cb kb d (decL D cnt 0 zs) (gaveUp q.2.2) w3 := by
              rw [HD.out, dec_e5 HU.out HY.out.1 H2.out.1 H2.out.2 H3.out (fun h => by omega) (by rw [← HY1.out, ← HQ.out]; exact h5), ← HY1.out, ← HQ.out]
              exact ⟨rfl, M2.out.gone rfl HR2.out.g⟩
            have HG := Lib.hid (giveUp_bad q.2.2 h5 w3)
            clear h5
            go_wp2_with fail
            refine HG.out.mono ?_
            rintro e w' ⟨rfl, rfl⟩
            unfold gaveUp
            go_wp2_with fail
            exact ⟨rfl, HP⟩
          have h5 := Classical.not_not.1 h5
          have HG : Hid (Calls Try.prog 45 #[.int .i64 q.2.2] w3 fun e w' => e = .returned (.tuple #[]) ∧ w3 = w') := by rw [h5]; exact giveUp_ok w3
          have H5 : Hid ((text1 y1 0 4096).2.2 = 0) := by rw [← HQ.out]; exact h5
          clear h5
          go_wp2_with fail
          refine HG.out.mono ?_
          rintro e w' ⟨rfl, rfl⟩
          obtain ⟨x0, x1, x2, x3, x4⟩ := item_cells M2.out.box
          obtain ⟨d', hd'⟩ : ∃ d', d = d' + 1 := ⟨d - 1, by omega⟩
          obtain ⟨g1, g2, g3, g4⟩ := text1_parts HU1.out (Int.le_refl 4096) H5.out
          have g5 := (text1_ok HU1.out (Int.le_refl 4096) H5.out).1
          rw [← HQ.out] at g1 g2 g3 g4 g5
          have hn3 : n3 ≤ 4096 := by have := HF.out.1.len; omega
          have HC := Lib.hid (IH.out d' hd' (D + 1) (by omega) (by omega) w3 A3 n3 c3 q.1 (c' + 1) HF.out.1.sb g3 hn3 M2.out.rb (by omega) hc2)
          have HG2 := Lib.hid (And.intro g2 (And.intro g4 (And.intro g3 g5)))
          have HDD := Lib.hid hd'
          have xk := cell_of_one M2.out.rb.fn
          have hdec2 := HD.out
          rw [dec_in HU.out HY.out.1 H2.out.1 H2.out.2 H3.out (fun h => by omega) (by rw [← HY1.out]; exact H5.out) HV5.out, ← HY1.out, ← HQ.out, ← HV.out.1] at hdec2
          have HD2 := Lib.hid hdec2
          clear g1 g2 g3 g4 g5 hn3 hd' hdec2
          go_wp2_with fail
          refine HC.out.mono ?_
          rintro e w4 hpost
          cases hin : decL (D + 1) (c' + 1) 0 q.1 with
          | bad c1 E =>
            rw [hin] at hpost
            obtain ⟨rfl, hg4⟩ := hpost
            have HP : ReadPost w cb kb d (decL D cnt 0 zs) (gaveUp E) w4 := by
              rw [HD2.out, hin]
              exact ⟨rfl, grownBy_trans (M2.out.gone rfl HR2.out.g) hg4⟩
            clear hin hg4
            unfold gaveUp
            go_wp2_with fail
            exact ⟨rfl, HP⟩
          | ok c1 l1 =>
            rw [hin] at hpost
            obtain ⟨A4, n4, c4, rfl, hrb4, hg4, hits⟩ := hpost
            have hle := dec_le HG2.out.2.2.2 HG2.out.2.2.1 (Int.le_refl 0) hc2 hin
            have hmc1 : ((m + 1 : Nat) : Int) ≤ c1 := by omega
            have hc1' : 0 ≤ c1 ∧ c1 ≤ 64 := by omega
            have hm64 : m + 1 ≤ 64 := by omega
            have hdec3 := HD2.out
            rw [hin] at hdec3
            simp only [DR.upon] at hdec3
            rw [DR.pres_pre] at hdec3
            have M3 := Lib.hid (M2.out.inner hrb4 hg4)
            have HI := Lib.hid (And.intro hits (And.intro hdec3 hmc1))
            clear hin hrb4 hg4 hits hle hdec3 hmc1 xk x0 x1 x2 x3 x4 HC
            obtain ⟨x0, x1, x2, x3, x4⟩ := item_cells M3.out.box
            have y4 := item_free M3.out.box 4
            have hbxlt : w2.heap.size < w4.heap.size := lt_of_block M3.out.box
            have M4 := Lib.hid ((M3.out.setBox 4 (.slice A4 n4 c4)).below ((Below.refl _ _).alloc (Nat.le_refl _) (.cells (It.cs (mkIt V [] l1) none 0 0 A4 n4 c4).toArray 47)))
            have hits5 : Hid (Its ((w4.setCell ⟨w2.heap.size, 4, none⟩ (.slice A4 n4 c4)).alloc (.cells (It.cs (mkIt V [] l1) none 0 0 A4 n4 c4).toArray 47)) (fun b => w2.heap.size < b ∧ Free ((w4.setCell ⟨w2.heap.size, 4, none⟩ (.slice A4 n4 c4)).alloc (.cells (It.cs (mkIt V [] l1) none 0 0 A4 n4 c4).toArray 47)) b) d A4 n4 c4 l1) := by
              show Its _ _ _ _ _ _ _
              rw [HDD.out]
              refine HI.out.1.move (by simp) fun b hb hlt => ?_
              have h1 := lt_of_block M2.out.box
              have h2 := hb.1
              have e : ((w4.setCell ⟨w2.heap.size, 4, none⟩ (.slice A4 n4 c4)).alloc (.cells (It.cs (mkIt V [] l1) none 0 0 A4 n4 c4).toArray 47)).heap[b]? = w4.heap[b]? := by
                rw [heap_alloc_old _ _ (by simpa using hlt)]
                exact heap_setCell_other _ _ _ _ (by simp; omega)
              exact ⟨e, by omega, free_block hb.2 e⟩
            have hV6 : It.cs (mkIt V [] l1) none 0 0 A4 n4 c4 = [.int .i64 K0, .bool b2, .bool true, .slice none 0 0, .slice A4 n4 c4] := by
              unfold It.cs
              rw [mk_kind, mk_crit, mk_lst, ← HV.out.2.2.2, ← HV.out.2.2.1, ← HV.out.2.1]
            rw [hV6] at hits5 M4
            have HV6 := Lib.hid hV6
            have hown := (M4.out.row HR2.out.row).own
            have m7 := M4.out
            rw [show q.2.2 = 0 by rw [HQ.out]; exact H5.out] at m7
            have M7 := Lib.hid m7
            clear m7
            clear hV6
            have hsz5 : r + 1 ≤ (((w4.setCell ⟨w2.heap.size, 4, none⟩ (.slice A4 n4 c4)).alloc (.cells #[.int .i64 K0, .bool b2, .bool true, .slice none 0 0, .slice A4 n4 c4] 47))).heap.size := by have := M4.out.size; have := M4.out.ls; omega
            have hone := oneCellsAt (w4.setCell ⟨w2.heap.size, 4, none⟩ (.slice A4 n4 c4)) [.int .i64 K0, .bool b2, .bool true, .slice none 0 0, .slice A4 n4 c4] 47
            have hall : ∀ u ∈ ([.int .i64 K0, .bool b2, .bool true, .slice none 0 0, .slice A4 n4 c4] : List Value), u.oneCell' = true := by rw [← HV6.out]; exact oneItem _ _ _ _ _ _ _
            go_wp2_with (at_builtin; refine wpList_appw _ rfl (.tmp 47) (.tmp 49) 22 rfl (r + 1) 47 _ 5 64 Try.underlying22 info47 rfl (by omega) (.slice A' m cp) m xs rfl hown ⟨w4.heap.size, 0, none⟩ 1 1 ([.int .i64 K0, .bool b2, .bool true, .slice none 0 0, .slice A4 n4 c4] : List Value) rfl rfl (by simpa using hone) hall (by unfold maxLen; omega) (by omega) hsz5 ?_; intro A6 c6 w6 hown6 hg6 hw6; obtain ⟨R6, hb6⟩ := M7.out.append HR2.out.g HR2.out.row (x := mkIt V [] l1) (bs_none _ _) (hits5.out) (by rw [HV6.out]; exact hown6) hg6 hw6; have R6 := Lib.hid R6; obtain ⟨z0, _⟩ := item_cells hb6; clear hown6 hg6 hw6 hown hone hall hb6 hsz5)
            go_roundg (q.2.1.length)
            case measure => exact Nat.lt_of_lt_of_le (Nat.lt_of_lt_of_le HG2.out.1 (by rw [HY1.out]; simp)) HK.out
            case rel =>
              have e6 : K0 = fvV ys / 4 := by rw [HV.out.2.2.2, HV.out.1]
              exact ⟨m + 1, c6, A6, acc ++ [mkIt V [] l1], _, c1, K0, q.2.1, rfl, rfl, hV1.1, hV1.2, by omega, by omega, HI.out.2.2, Nat.le_refl _, HG2.out.2.1, by have := HG2.out.1; omega, by rw [HI.out.2.1, HV.out.2.2.2], R6.out⟩
        | false =>
          have hV5 : ¬ fvV ys % 2 = 1 := by have := HV.out.2.1; rw [hbb] at this; rw [← HV.out.1]; simpa using this.symm
          have HV5 := Lib.hid hV5
          clear h4 hV5
          subst hbb
          have hu1 : U8s (ys.drop (fvK ys)) := HU.out.drop _
          have hl1 : (ys.drop (fvK ys)).length ≤ 4096 := by simp; omega
          obtain ⟨y1, hy1⟩ : ∃ y, y = ys.drop (fvK ys) := ⟨_, rfl⟩
          rw [← hy1] at HM HR2 hu1 hl1
          have HY1 := Lib.hid hy1
          have HU1 := Lib.hid hu1
          clear hy1 hu1
          have M1 := HM.out #[.int .i64 K0, .bool b2, .bool false, .slice none 0 0, .slice none 0 0]
          obtain ⟨Ax, nx, cx, hrx⟩ := M1.rd
          have HX := Lib.hid hrx
          have hnx : nx ≤ 140737488355328 := by have := hrx.sb.len; omega
          have M1 := Lib.hid M1
          clear hrx HM
          go_wp2_with fail
          refine (rtext_any HX.out HU1.out hnx 4096 (by omega)).mono ?_
          rintro e w3 ⟨v3, rfl, ⟨A3, n3, c3, rfl, hf⟩, hto⟩
          obtain ⟨q, hq⟩ : ∃ q, q = text1 y1 0 4096 := ⟨_, rfl⟩
          rw [← hq] at hf hto
          have HQ := Lib.hid hq
          have M2 := Lib.hid (M1.out.called hto)
          have HF := Lib.hid (And.intro hf (lt_of_block M1.out.box))
          clear hq hf hto HX M1 cc0 cc1 hcl
          obtain ⟨Ay, ny, cy, hry⟩ := M2.out.rd
          have HX := Lib.hid hry
          clear hry
          go_wp2_with fail
          refine (err_any HX.out).mono ?_
          rintro e w' ⟨rfl, rfl⟩
          by_cases h5 : q.2.2 ≠ 0
          · have HP : ReadPost w cb kb d (decL D cnt 0 zs) (gaveUp q.2.2) w3 := by
              rw [HD.out, dec_e5 HU.out HY.out.1 H2.out.1 H2.out.2 H3.out (fun h => HV5.out h.1) (by rw [← HY1.out, ← HQ.out]; exact h5), ← HY1.out, ← HQ.out]
              exact ⟨rfl, M2.out.gone rfl HR2.out.g⟩
            have HG := Lib.hid (giveUp_bad q.2.2 h5 w3)
            clear h5
            go_wp2_with fail
            refine HG.out.mono ?_
            rintro e w' ⟨rfl, rfl⟩
            unfold gaveUp
            go_wp2_with fail
            exact ⟨rfl, HP⟩
          have h5 := Classical.not_not.1 h5
          have HG : Hid (Calls Try.prog 45 #[.int .i64 q.2.2] w3 fun e w' => e = .returned (.tuple #[]) ∧ w3 = w') := by rw [h5]; exact giveUp_ok w3
          have H5 : Hid ((text1 y1 0 4096).2.2 = 0) := by rw [← HQ.out]; exact h5
          clear h5
          go_wp2_with fail
          refine HG.out.mono ?_
          rintro e w' ⟨rfl, rfl⟩
          obtain ⟨x0, x1, x2, x3, x4⟩ := item_cells M2.out.box
          obtain ⟨g1, g2, g3, g4⟩ := text1_parts HU1.out (Int.le_refl 4096) H5.out
          have g5 := (text1_ok HU1.out (Int.le_refl 4096) H5.out).1
          rw [← HQ.out] at g1 g2 g3 g4 g5
          have HG2 := Lib.hid (And.intro g2 (And.intro g4 (And.intro g3 g5)))
          have hdec2 := HD.out
          rw [dec_leaf HU.out HY.out.1 H2.out.1 H2.out.2 H3.out (fun h => HV5.out h.1) (by rw [← HY1.out]; exact H5.out) HV5.out, ← HY1.out, ← HQ.out, ← HV.out.1, DR.pres_pre] at hdec2
          have hmc1 : ((m + 1 : Nat) : Int) ≤ c' + 1 := by omega
          have hm64 : m + 1 ≤ 64 := by omega
          have HI := Lib.hid (And.intro hdec2 hmc1)
          have y3 := item_free M2.out.box 3
          have hbxlt : w2.heap.size < w3.heap.size := lt_of_block M2.out.box
          have M4 := Lib.hid ((M2.out.setBox 3 (.slice A3 n3 c3)).below ((Below.refl _ _).alloc (Nat.le_refl _) (.cells (It.cs (mkIt V q.1 []) A3 n3 c3 none 0 0).toArray 47)))
          have hbs5 : Hid (Bs ((w3.setCell ⟨w2.heap.size, 3, none⟩ (.slice A3 n3 c3)).alloc (.cells (It.cs (mkIt V q.1 []) A3 n3 c3 none 0 0).toArray 47)) (fun b => w2.heap.size < b ∧ Free ((w3.setCell ⟨w2.heap.size, 3, none⟩ (.slice A3 n3 c3)).alloc (.cells (It.cs (mkIt V q.1 []) A3 n3 c3 none 0 0).toArray 47)) b) A3 n3 c3 q.1) := by
            show Bs _ _ _ _ _ _
            refine (bs_fresh HF.out.1 g3 g5 HF.out.2).move (by simp) fun b hb hlt => ?_
            have h2 := hb.1
            have e : ((w3.setCell ⟨w2.heap.size, 3, none⟩ (.slice A3 n3 c3)).alloc (.cells (It.cs (mkIt V q.1 []) A3 n3 c3 none 0 0).toArray 47)).heap[b]? = w3.heap[b]? := by
              rw [heap_alloc_old _ _ (by simpa using hlt)]
              exact heap_setCell_other _ _ _ _ (by simp; omega)
            exact ⟨e, h2, free_block hb.2 e⟩
          have hV6 : It.cs (mkIt V q.1 []) A3 n3 c3 none 0 0 = [.int .i64 K0, .bool b2, .bool false, .slice A3 n3 c3, .slice none 0 0] := by
            unfold It.cs
            rw [mk_kind, mk_crit, mk_lst, ← HV.out.2.2.2, ← HV.out.2.2.1, ← HV.out.2.1]
          rw [hV6] at hbs5 M4
          have HV6 := Lib.hid hV6
          have hown := (M4.out.row HR2.out.row).own
          have m7 := M4.out
          rw [show q.2.2 = 0 by rw [HQ.out]; exact H5.out] at m7
          have M7 := Lib.hid m7
          clear m7
          clear hV6 g1 g2 g3 g4 g5 hdec2 hmc1
          have hsz5 : r + 1 ≤ (((w3.setCell ⟨w2.heap.size, 3, none⟩ (.slice A3 n3 c3)).alloc (.cells #[.int .i64 K0, .bool b2, .bool false, .slice A3 n3 c3, .slice none 0 0] 47))).heap.size := by have := M4.out.size; have := M4.out.ls; omega
          have hone := oneCellsAt (w3.setCell ⟨w2.heap.size, 3, none⟩ (.slice A3 n3 c3)) [.int .i64 K0, .bool b2, .bool false, .slice A3 n3 c3, .slice none 0 0] 47
          have hall : ∀ u ∈ ([.int .i64 K0, .bool b2, .bool false, .slice A3 n3 c3, .slice none 0 0] : List Value), u.oneCell' = true := by rw [← HV6.out]; exact oneItem _ _ _ _ _ _ _
          go_wp2_with (at_builtin; refine wpList_appw _ rfl (.tmp 47) (.tmp 49) 22 rfl (r + 1) 47 _ 5 64 Try.underlying22 info47 rfl (by omega) (.slice A' m cp) m xs rfl hown ⟨w3.heap.size, 0, none⟩ 1 1 ([.int .i64 K0, .bool b2, .bool false, .slice A3 n3 c3, .slice none 0 0] : List Value) rfl rfl (by simpa using hone) hall (by unfold maxLen; omega) (by omega) hsz5 ?_; intro A6 c6 w6 hown6 hg6 hw6; obtain ⟨R6, hb6⟩ := M7.out.append HR2.out.g HR2.out.row (x := mkIt V q.1 []) (hbs5.out) (its_none _ _ _) (by rw [HV6.out]; exact hown6) hg6 hw6; have R6 := Lib.hid R6; obtain ⟨z0, _⟩ := item_cells hb6; clear hown6 hg6 hw6 hown hone hall hb6 hsz5)
          go_roundg (q.2.1.length)
          case measure => exact Nat.lt_of_lt_of_le (Nat.lt_of_lt_of_le HG2.out.1 (by rw [HY1.out]; simp)) HK.out
          case rel =>
            have e6 : K0 = fvV ys / 4 := by rw [HV.out.2.2.2, HV.out.1]
            exact ⟨m + 1, c6, A6, acc ++ [mkIt V q.1 []], _, (c' + 1), K0, q.2.1, rfl, rfl, hV1.1, hV1.2, by omega, by omega, HI.out.2, Nat.le_refl _, HG2.out.2.1, by have := HG2.out.1; omega, by rw [HI.out.1, HV.out.2.2.2], R6.out⟩


end Go.Proofs.Ytchpobikbcelfaa
