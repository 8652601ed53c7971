/-
  The contract of the closure that checks a list with all within it.
-/
import Derived.Test.YtchpobikbcelfaaTlvCheck
import Derived.OneCell
namespace Go.Proofs.Ytchpobikbcelfaa
open Go.RowKit

/-- The two variables that the closure captured: how many items there were; the closure itself. -/
structure CB (w : World) (cb kb : Nat) (c : Int) : Prop where
  cnt : w.heap[cb]? = some (.cells #[.int .i64 c] 3 (0, 0))
  fn : w.heap[kb]? = some (.cells #[.func (.func 34) #[] #[.pointer (some ⟨cb, 0, none⟩), .pointer (some ⟨kb, 0, none⟩)]] 64 (0, 0))
  ne : cb ≠ kb
theorem CB.stay {w w' : World} {cb kb : Nat} {c : Int} (h : CB w cb kb c) (hb : ∀ b, b < w.heap.size → w'.heap[b]? = w.heap[b]?) : CB w' cb kb c :=
  ⟨(hb _ (lt_of_block h.cnt)).trans h.cnt, (hb _ (lt_of_block h.fn)).trans h.fn, h.ne⟩
theorem CB.set {w : World} {cb kb : Nat} {c : Int} (h : CB w cb kb c) (c' : Int) : CB (w.setCell ⟨cb, 0, none⟩ (.int .i64 c')) cb kb c' :=
  ⟨one_setCell h.cnt, (heap_setCell_other w _ kb _ (Ne.symm h.ne)).trans h.fn, h.ne⟩

/-- The world within a round: the captured variables, old memory, the round's own item. -/
structure CkW (w : World) (cb kb : Nat) (c : Int) (bx : Nat) (cs : Array Value) (w1 : World) : Prop where
  cl : CB w1 cb kb c
  g : w.grownBy w1 (some cb)
  box : w1.heap[bx]? = some (.cells cs 47 (0, 0))
  ne : bx ≠ cb
  lo : w.heap.size ≤ bx
theorem CkW.below {w w1 w2 : World} {cb kb : Nat} {c : Int} {bx : Nat} {cs : Array Value} (h : CkW w cb kb c bx cs w1) (hb : Below w1.heap.size w1 w2) : CkW w cb kb c bx cs w2 :=
  ⟨h.cl.stay hb.block, grownBy_trans h.g (grownBy_below hb), (hb.block _ (lt_of_block h.box)).trans h.box, h.ne, h.lo⟩
theorem CkW.start {w wr : World} {cb kb : Nat} {c : Int} (cs : Array Value) (h : CB wr cb kb c) (hg : w.grownBy wr (some cb)) : CkW w cb kb c wr.heap.size cs (wr.alloc (.cells cs 47)) :=
  have hb : Below wr.heap.size wr (wr.alloc (.cells cs 47)) := (Below.refl _ _).alloc (Nat.le_refl _) _
  ⟨h.stay hb.block, grownBy_trans hg (grownBy_below hb), heap_alloc_new _ _, Nat.ne_of_gt (lt_of_block h.cnt), hg.size⟩
theorem CkW.set {w w1 : World} {cb kb : Nat} {c : Int} {bx : Nat} {cs : Array Value} (h : CkW w cb kb c bx cs w1) (c' : Int) : CkW w cb kb c' bx cs (w1.setCell ⟨cb, 0, none⟩ (.int .i64 c')) :=
  ⟨h.cl.set c', grownBy_trans h.g (grownBy_set _ _ _), (heap_setCell_other w1 _ bx _ h.ne).trans h.box, h.ne, h.lo⟩

def ChkPost (w : World) (cb kb : Nat) (r : Int × Int) (e : Ending) (w' : World) : Prop :=
  e = .returned (.int .i64 r.2) ∧ CB w' cb kb r.1 ∧ w.grownBy w' (some cb)
theorem CkW.after {w w1 w2 : World} {cb kb : Nat} {c c2 : Int} {bx : Nat} {cs : Array Value} (h : CkW w cb kb c bx cs w1) (h2 : CB w2 cb kb c2) (hg : w1.grownBy w2 (some cb)) : CkW w cb kb c2 bx cs w2 :=
  ⟨h2, grownBy_trans h.g hg, (hg.block _ (lt_of_block h.box) (fun e => h.ne (by injection e))).trans h.box, h.ne, h.lo⟩

set_option maxHeartbeats 1000000 in
theorem check_any (cb kb : Nat) (d : Nat) : ∀ (w : World) (A : Option Addr) (n cap : Nat) (l : List It) (depth c : Int), Its w (· ≠ cb) d A n cap l → CB w cb kb c → 0 ≤ c → c ≤ 64 → 1 ≤ depth → depth ≤ 5 → depth ≤ 4 ∨ l = [] →
    Calls Try.prog 34 #[.slice A n cap, .int .i64 depth, .pointer (some ⟨cb, 0, none⟩), .pointer (some ⟨kb, 0, none⟩)] w (ChkPost w cb kb (chkL depth c 0 l)) := by
  induction d with
  | zero =>
    intro w A n cap l depth c hi hc hc0 hc1 hd1 hd2 hd3
    obtain ⟨rfl, rfl, _⟩ := hi
    have HP : ChkPost w cb kb (chkL depth c 0 []) (.returned (.int .i64 0)) w := by rw [chkL_nil]; exact ⟨rfl, hc, World.grownBy.refl _ _⟩
    clear hc
    go_enter Try.func34, Try.ntmps34
    go_wp2
    go_loopw [7, 14] (fun a i wr => ∃ a' : Int, i = .int .i64 (0 : Nat) ∧ a = .int .i64 a' ∧ wr = w) (fun _ i _ => 0)
    case atStart => exact ⟨0, rfl, rfl, rfl⟩
    case round =>
      obtain ⟨a', rfl, rfl, rfl⟩ := hrel
      go_wp2
      go_ret
      exact HP
  | succ d ih =>
    intro w A n cap l depth c hi hc hc0 hc1 hd1 hd2 hd3
    have hn : n ≤ 9223372036854775807 := by have := hi.2.1; have := hi.2.2.1; unfold maxLen at this; omega
    have hl := Lib.hid hi.len
    have IH := Lib.hid ih
    clear ih
    go_enter Try.func34, Try.ntmps34
    go_wp2
    go_loopw [7, 14] (fun a i wr => ∃ (k : Nat) (c' a' : Int), k ≤ n ∧ i = .int .i64 k ∧ a = .int .i64 a' ∧ 0 ≤ a' ∧ 0 ≤ c' ∧ c' ≤ 64 ∧ chkL depth c 0 l = chkL depth c' a' (l.drop k) ∧ CB wr cb kb c' ∧ w.grownBy wr (some cb)) (fun _ i _ => n - (intOf i).toNat)
    case atStart => exact ⟨0, c, 0, Nat.zero_le _, rfl, rfl, Int.le_refl 0, hc0, hc1, by simp, hc, World.grownBy.refl _ _⟩
    case round =>
      clear hc0 hc1
      obtain ⟨k, c', a', hk, rfl, rfl, ha, hc0, hc1, hch, hcb, hg⟩ := hrel
      by_cases hlt : k < n
      · obtain ⟨x, hx⟩ : ∃ x, l[k]? = some x := ⟨_, List.getElem?_eq_getElem (by rw [hl.out]; exact hlt)⟩
        rw [drop_cons hx] at hch
        have hd4 : depth ≤ 4 := by
          rcases hd3 with h | h
          · exact h
          · rw [h] at hx; simp at hx
        have hiw : Its wr (· ≠ cb) (d + 1) A n cap l := hi.grown hg (fun b hb e => hb (by injection e with e; exact e.symm))
        obtain ⟨ad, B, bn, bc, C, cn, cc, rfl, hS, hblt, hat⟩ := hiw.get hx
        have h0 := hat.c0
        have h1 := hat.c1
        have h2 := hat.c2
        have h3 := hat.c3
        have h4 := hat.c4
        have cc0 : wr.cell? ⟨cb, 0, none⟩ = some (.int .i64 c') := cell_of_one hcb.cnt
        have cc1 : wr.frozen? ⟨cb, 0, none⟩ = false := free_of_one hcb.cnt
        have hcl : cb < wr.heap.size := lt_of_block hcb.cnt
        have HW := fun cs => CkW.start (w := w) cs hcb hg
        have HW2 : ∀ cs, CkW w cb kb (c' + 1) wr.heap.size cs ((wr.setCell ⟨cb, 0, none⟩ (.int .i64 (c' + 1))).alloc (.cells cs 47)) := fun cs => by
          have h5 := CkW.start (w := w) cs (hcb.set (c' + 1)) (grownBy_trans hg (grownBy_set _ ⟨cb, 0, none⟩ (.int .i64 (c' + 1))))
          simpa using h5
        have X := Lib.hid (And.intro hiw (And.intro hat (And.intro HW (And.intro hx HW2))))
        have HCH := Lib.hid hch
        clear hiw hx hat hS hblt hcb hg hi hc HW HW2 hch hd3
        by_cases h64 : c' = 64
        · have t1 : (c' == 64) = true := by simpa using h64
          have HP : ∀ cs, ChkPost w cb kb (chkL depth c 0 l) (.returned (.int .i64 4)) (wr.alloc (.cells cs 47)) := fun cs => by
            rw [HCH.out, chk_full h64]
            exact ⟨rfl, (X.out.2.2.1 cs).cl, (X.out.2.2.1 cs).g⟩
          have HQ := Lib.hid HP
          clear h64 HP
          go_wp2_with fail
          go_ret
          exact HQ.out _
        · have t1 : (c' == 64) = false := by simpa using h64
          have H64 := Lib.hid h64
          clear h64
          have hw1 : c' + 1 ≤ 64 := by have := H64.out; omega
          have hE1 := errN_eq (x := x) X.out.2.1.b.sb.len X.out.2.1.i.len a' depth
          obtain ⟨E, hE⟩ : ∃ E, E = err1 x a' depth := ⟨_, rfl⟩
          rw [← hE] at hE1
          have HE1 := Lib.hid hE1
          have HE := Lib.hid hE
          clear hE1 hE
          go_wp2_with fail
          refine (checkItem_any _ _ _ _ _ _ _ _ _ _ _ _).mono ?_
          rintro e w1 ⟨rfl, hb⟩
          rw [HE1.out]
          have Y := Lib.hid ((X.out.2.2.2.2 _).below hb)
          have Z := Lib.hid hb
          clear hb h0 h1 h2 h3 h4 cc0 cc1 hcl
          by_cases hE0 : E = 0
          · have t2 : (E != 0) = false := by simpa using hE0
            have HE0 := Lib.hid hE0
            clear hE0
            have b0 := cell_of_row _ _ 0 _ _ _ Y.out.box
            have b4 := cell_of_row _ _ 4 _ _ _ Y.out.box
            have b5 := cell_of_one Y.out.cl.fn
            simp only [List.getElem?_toArray] at b0 b4
            have hok := err1_ok ha (HE.out.symm.trans HE0.out)
            have hd5 : depth + 1 ≤ 4 ∨ x.items = [] := by
              cases hx : x.lst with
              | true => left; have := hok.2.2.2.2.2.2 hx; omega
              | false => right; exact hok.2.2.2.2.1 hx
            have hk0 : 0 ≤ x.kind := by have := hok.2.1; omega
            have HC := Lib.hid (IH.out w1 C cn cc x.items (depth + 1) (c' + 1) (X.out.2.1.i.grown (grownBy_trans (grownBy_set _ ⟨cb, 0, none⟩ (.int .i64 (c' + 1))) (grownBy_trans (grownBy_below ((Below.refl _ _).alloc (Nat.le_refl _) _)) (grownBy_below Z.out))) (fun b hb e => hb (by injection e with e; exact e.symm))) Y.out.cl (by omega) hw1 (by omega) (by omega) hd5)
            have HK := Lib.hid hk0
            clear hok hd5 hk0 hd4
            go_wp2_with fail
            refine HC.out.mono ?_
            rintro e w2 ⟨rfl, hcb2, hg2⟩
            have V := Lib.hid (Y.out.after hcb2 hg2)
            clear HC hcb2 hg2 b0 b4 b5
            obtain ⟨r2, hr2⟩ : ∃ r2, r2 = chkL (depth + 1) (c' + 1) 0 x.items := ⟨_, rfl⟩
            rw [← hr2] at V ⊢
            have HR := Lib.hid hr2
            clear hr2
            have HE1' := Lib.hid (HE.out.symm.trans HE0.out)
            by_cases hr0 : r2.2 = 0
            · have t3 : (r2.2 != 0) = false := by simpa using hr0
              have HR0 := Lib.hid hr0
              clear hr0
              have b0 := cell_of_row _ _ 0 _ _ _ V.out.box
              simp only [List.getElem?_toArray] at b0
              go_wp2_with fail
              go_roundw
              case rel =>
                have hch3 := HCH.out
                rw [chk_on H64.out HE1'.out (by rw [← HR.out]; exact HR0.out), ← HR.out] at hch3
                have hch4 := chkL_ok x.items (depth + 1) (c' + 1) 0 (Int.le_refl 0) hw1 (by rw [← HR.out]; exact HR0.out)
                rw [← HR.out] at hch4
                exact ⟨k + 1, r2.1, x.kind, by omega, by go_num, rfl, HK.out, by omega, hch4.2.2, hch3, V.out.cl, V.out.g⟩
              case measure => simp [intOf]; omega
            · have t3 : (r2.2 != 0) = true := by simpa using hr0
              have HP : ChkPost w cb kb (chkL depth c 0 l) (.returned (.int .i64 r2.2)) w2 := by
                rw [HCH.out, chk_in H64.out HE1'.out (by rw [← HR.out]; exact hr0), ← HR.out]
                exact ⟨rfl, V.out.cl, V.out.g⟩
              clear hr0
              go_wp2_with fail
              go_ret
              exact HP
          · have t2 : (E != 0) = true := by simpa using hE0
            have HP : ChkPost w cb kb (chkL depth c 0 l) (.returned (.int .i64 E)) w1 := by
              rw [HCH.out, chk_stop H64.out (by rw [← HE.out]; exact hE0), ← HE.out]
              exact ⟨rfl, Y.out.cl, Y.out.g⟩
            clear hE0
            go_wp2_with fail
            go_ret
            exact HP
      · have HP : ChkPost w cb kb (chkL depth c 0 l) (.returned (.int .i64 0)) wr := by
          rw [hch, List.drop_eq_nil_of_le (by rw [hl.out]; omega), chkL_nil]
          exact ⟨rfl, hcb, hg⟩
        clear hch hcb hg hi hc
        go_wp2_with fail
        go_ret
        exact HP

end Go.Proofs.Ytchpobikbcelfaa
