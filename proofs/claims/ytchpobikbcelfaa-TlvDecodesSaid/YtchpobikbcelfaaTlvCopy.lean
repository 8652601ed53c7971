/-
  The contract of the reference's Copy over items.
-/
import Derived.Test.YtchpobikbcelfaaTlvCopyMem
import Derived.Test.YtchpobikbcelfaaTlvSmall
import Derived.Laws.EntriesVeiled
namespace Go.Proofs.Ytchpobikbcelfaa
open Go.RowKit

/-- What a copy is: the same items in new memory. -/
def CopyPost (w : World) (d : Nat) (l : List It) (e : Ending) (w' : World) : Prop :=
  Below w.heap.size w w' ∧ ∃ A n c, e = .returned (.slice A n c) ∧ Its w' (fun b => w.heap.size ≤ b) d A n c l

theorem sml_lenL (e : Nat) : ∀ (l : List It), sml e l → lenL l := by
  induction e with
  | zero =>
    intro l h
    refine lenL_mk fun x hx => ?_
    rw [lenI_eq, (h x hx).2]
    exact ⟨by simp, by rw [lenL]; trivial⟩
  | succ e ih =>
    intro l h
    refine lenL_mk fun x hx => ?_
    rw [lenI_eq]
    exact ⟨(h x hx).2.1, ih _ (h x hx).2.2⟩

/-- An item of a list that came in, in a later world. -/
theorem At.stay {w w1 w2 : World} {d : Nat} {ad : Addr} {n c k : Nat} {l : List It} {x : It} {B : Option Addr} {bn bc : Nat} {C : Option Addr} {cn cc : Nat} (h : At w1 (· < w.heap.size) d ad k x B bn bc C cn cc)
    (hi : Its w (· < w.heap.size) (d + 1) (some ad) n c l) (hx : l[k]? = some x) (h1 : Below w.heap.size w w1) (h2 : Below w.heap.size w w2) : At w2 (· < w.heap.size) d ad k x B bn bc C cn cc := by
  obtain ⟨ad', B', bn', bc', C', cn', cc', e, hS, _, hat⟩ := (hi.stay (w' := w2) h2.size fun b hb _ => h2.block b hb).get hx
  injection e with e
  subst e
  have hk : ∀ p : Addr, p.block = ad.block → w2.cell? p = w1.cell? p := fun p hp => World.cell?_of_block (by rw [hp]; exact (h2.block _ hS).trans (h1.block _ hS).symm)
  have e3 := hk ⟨(ad.add (k * 5)).block, (ad.add (k * 5)).off + 3, none⟩ (addBlock ad (k * 5))
  have e4 := hk ⟨(ad.add (k * 5)).block, (ad.add (k * 5)).off + 4, none⟩ (addBlock ad (k * 5))
  rw [hat.c3, h.c3] at e3
  rw [hat.c4, h.c4] at e4
  injection e3 with e3
  injection e3 with e3 e5 e6
  injection e4 with e4
  injection e4 with e4 e7 e8
  subst e3 e5 e6 e4 e7 e8
  exact hat

set_option maxRecDepth 100000 in
set_option maxHeartbeats 2000000 in
theorem copyIts_any (d : Nat) : ∀ (w : World) (S : Nat → Prop) (A : Option Addr) (n c : Nat) (l : List It), Its w S d A n c l → lenL l → n ≤ 400 →
    Calls Try.prog 11 #[.slice A n c] w (CopyPost w d l) := by
  obtain ⟨i0, hi0, hz0, hz1, hz2⟩ := info_parts info47
  induction d with
  | zero =>
    intro w S A n c l hi hlen hn
    obtain ⟨rfl, rfl, _⟩ := hi
    clear hlen hn
    go_enter Try.func11, Try.ntmps11
    go_wp2_with (at_make; refine wpList_make_full _ rfl _ _ 22 rfl w.heap.size 47 i0 _ 5 Try.underlying22 hi0 hz0 hz1 .i64 .i64 (0 : Int) (0 : Int) 0 rfl rfl rfl rfl (by omega) (by unfold maxLen; omega) (Nat.le_refl _) ?_; intro w1 hown hg)
    have B0 : Below w.heap.size w w1 := Below.grown (Below.refl _ _) hg (Nat.le_refl _) (fun k hk => by cases hk)
    have HP : CopyPost w 0 [] (.returned (.slice (some ⟨w.heap.size, 0, none⟩) 0 0)) w1 := ⟨B0, _, _, _, rfl, rfl, rfl, by unfold maxLen; omega⟩
    clear hown hg B0
    go_loopw [10] (fun i wr => i = .int .i64 (0 : Nat) ∧ wr = w1) (fun _ _ => 0)
    case atStart => exact ⟨rfl, rfl⟩
    case round =>
      obtain ⟨rfl, rfl⟩ := hrel
      go_wp2_with fail
      go_ret
      exact HP
  | succ d ih =>
    intro w S A n c l hi hlen hn
    have IH := Lib.hid ih
    have H := Lib.hid (And.intro (hi.mono (S' := (· < w.heap.size)) fun b _ h => h) hlen)
    have HL := Lib.hid hi.len
    clear ih hi hlen
    go_enter Try.func11, Try.ntmps11
    go_wp2_with (at_make; refine wpList_make_full _ rfl _ _ 22 rfl w.heap.size 47 i0 _ 5 Try.underlying22 hi0 hz0 hz1 .i64 .i64 (n : Int) (n : Int) n rfl rfl rfl rfl (by rw [hz2]; omega) (by unfold maxLen; omega) (Nat.le_refl _) ?_; intro w1 hown hg)
    have C0 : Hid (CRow w1 w.heap.size w.heap.size d n n 0 l [] (madeCells (Value.agg #[.int .i64 0, .bool false, .bool false, .slice none 0 0, .slice none 0 0]).cells (n * 5)).toList) := ⟨by rw [List.nil_append]; exact hown, rfl, HL.out, Nat.zero_le _⟩
    have B0 : Hid (Below w.heap.size w w1) := Below.grown (Below.refl _ _) hg (Nat.le_refl _) (fun k hk => by cases hk)
    clear hown hg
    go_loopw [10] (fun i wr => ∃ (k : Nat) (xs ys : List Value), k ≤ n ∧ i = .int .i64 k ∧ CRow wr w.heap.size w.heap.size d n n k l xs ys ∧ Below w.heap.size w wr) (fun i _ => n - (intOf i).toNat)
    case atStart => exact ⟨0, _, _, Nat.zero_le _, rfl, C0.out, B0.out⟩
    case round =>
      clear C0 B0
      obtain ⟨k, xs, ys, hk, rfl, hcr, hbel⟩ := hrel
      by_cases hlt : k < n
      · obtain ⟨x, hx⟩ : ∃ x, l[k]? = some x := ⟨_, List.getElem?_eq_getElem (by rw [HL.out]; exact hlt)⟩
        have hxl := (lenI_eq x).1 (lenL_mem H.out.2 (List.mem_of_getElem? hx))
        obtain ⟨u0, u1, u2, u3, u4, zs, rfl⟩ := five (ys := ys) (by rw [hcr.ylen]; omega)
        have hiw : Its wr (· < w.heap.size) (d + 1) A n c l := H.out.1.stay hbel.size fun b hb _ => hbel.block b hb
        obtain ⟨ad, B, bn, bc, C, cn, cc, rfl, hS, hblt, hat⟩ := hiw.get hx
        have h0 := hat.c0
        have h1 := hat.c1
        have h2 := hat.c2
        have h3 := hat.c3
        have h4 := hat.c4
        have hne : ¬ (ad.add (k * 5)).block = w.heap.size := by rw [addBlock]; omega
        have g0 : wr.cell? ⟨w.heap.size, k * 5, none⟩ = some u0 := hcr.cell (i := 0) rfl
        have g1 := hcr.cell (i := 1) (u := u1) rfl
        have g2 := hcr.cell (i := 2) (u := u2) rfl
        have g3 := hcr.cell (i := 3) (u := u3) rfl
        have g4 := hcr.cell (i := 4) (u := u4) rfl
        have e0 := hcr.free (k * 5)
        have e1 := hcr.free (k * 5 + 1)
        have e2 := hcr.free (k * 5 + 2)
        have e3 := hcr.free (k * 5 + 3)
        have e4 := hcr.free (k * 5 + 4)
        have hgs := hcr.block.2
        have X := Lib.hid (And.intro hcr (And.intro hbel (And.intro hat (And.intro hx hxl))))
        have hkl : (k : Int) < (n : Int) := by omega
        clear hcr hbel hiw hS hblt hat hx hxl
        obtain ⟨W5, hW5⟩ : ∃ W5, W5 = (((((wr.setCell ⟨w.heap.size, k * 5, none⟩ (.int .i64 x.kind)).setCell ⟨w.heap.size, k * 5 + 1, none⟩ (.bool x.crit)).setCell ⟨w.heap.size, k * 5 + 2, none⟩ (.bool x.lst)).setCell ⟨w.heap.size, k * 5 + 3, none⟩ (.slice B bn bc)).setCell ⟨w.heap.size, k * 5 + 4, none⟩ (.slice C cn cc)) := ⟨_, rfl⟩
        have C5 : CRow W5 w.heap.size w.heap.size d n n k l xs (x.cs B bn bc C cn cc ++ zs) := by
          rw [hW5]
          exact ((((X.out.1.set 0 (.int .i64 x.kind)).set 1 (.bool x.crit)).set 2 (.bool x.lst)).set 3 (.slice B bn bc)).set 4 (.slice C cn cc)
        have B5 : Below w.heap.size w W5 := by
          rw [hW5]
          exact ((((X.out.2.1.setCell (Nat.le_refl _) _).setCell (Nat.le_refl _) _).setCell (Nat.le_refl _) _).setCell (Nat.le_refl _) _).setCell (Nat.le_refl _) _
        have hat5 : At W5 (· < w.heap.size) d ad k x B bn bc C cn cc := At.stay X.out.2.2.1 H.out.1 X.out.2.2.2.1 X.out.2.1 B5
        have Y := Lib.hid (And.intro C5 (And.intro B5 hat5))
        have HW := Lib.hid hW5
        have HCP := Lib.hid (copy_any (c := bc) hat5.b.sb (by have := hat5.b.lt; omega))
        clear C5 B5 hat5
        go_wp2_with fail
        rw [← HW.out]
        clear hW5
        refine HCP.out.mono ?_
        rintro e w6 ⟨g6, rfl, ho6, hb6⟩
        have C6 := Y.out.1.below hb6
        have B6 : Below w.heap.size w w6 := Y.out.2.1.trans (hb6.mono Y.out.2.1.size)
        have hat6 : At w6 (· < w.heap.size) d ad k x B bn bc C cn cc := At.stay Y.out.2.2 H.out.1 X.out.2.2.2.1 Y.out.2.1 B6
        have hbs : Bs w6 (fun b => w.heap.size ≤ b ∧ b ≠ w.heap.size) (some ⟨g6, 0, none⟩) bn bn x.bytes := bs_made ho6 Y.out.2.2.b.u8 Y.out.2.2.b.lt Y.out.2.1.size Y.out.1.block.2
        have g3 : w6.cell? ⟨w.heap.size, k * 5 + 3, none⟩ = some (.slice B bn bc) := C6.cell (i := 3) rfl
        have e3 := C6.free (k * 5 + 3)
        have h4 := hat6.c4
        have hgs := C6.block.2
        have C7 := C6.set 3 (.slice (some ⟨g6, 0, none⟩) bn bn)
        have B7 : Below w.heap.size w (w6.setCell ⟨w.heap.size, k * 5 + 3, none⟩ (.slice (some ⟨g6, 0, none⟩) bn bn)) := B6.setCell (Nat.le_refl _) _
        have hi7 : Its (w6.setCell ⟨w.heap.size, k * 5 + 3, none⟩ (.slice (some ⟨g6, 0, none⟩) bn bn)) (· < w.heap.size) d C cn cc x.items := hat6.i.setCell (by simp) _
        have hbs7 : Bs (w6.setCell ⟨w.heap.size, k * 5 + 3, none⟩ (.slice (some ⟨g6, 0, none⟩) bn bn)) (fun b => w.heap.size ≤ b ∧ b ≠ w.heap.size) (some ⟨g6, 0, none⟩) bn bn x.bytes := hbs.stay (by simp) fun b hb _ => heap_setCell_other _ _ _ _ hb.2
        have Z := Lib.hid (And.intro C7 (And.intro B7 hbs7))
        have HC := Lib.hid (IH.out _ _ C cn cc x.items hi7 X.out.2.2.2.2.2 (by have := hi7.len; have := X.out.2.2.2.2.1; omega))
        clear C6 B6 hat6 hbs C7 B7 hi7 hbs7 hb6 ho6 HCP
        go_wp2_with fail
        refine HC.out.mono ?_
        rintro e w8 ⟨hb8, A8, n8, c8, rfl, hi8⟩
        have C8 := Z.out.1.below hb8
        have B8 : Below w.heap.size w w8 := Z.out.2.1.trans (hb8.mono Z.out.2.1.size)
        have hbs8 := Z.out.2.2.stay hb8.size fun b _ hlt => hb8.block b hlt
        have hi8' : Its w8 (fun b => w.heap.size ≤ b ∧ b ≠ w.heap.size) d A8 n8 c8 x.items := hi8.mono fun b hb _ => by have := Z.out.1.block.2; omega
        have g4 : w8.cell? ⟨w.heap.size, k * 5 + 4, none⟩ = some (.slice C cn cc) := C8.cell (i := 4) rfl
        have e4 := C8.free (k * 5 + 4)
        have hgs8 := C8.block.2
        have C9 := C8.set 4 (.slice A8 n8 c8)
        have C10 := C9.next (x := x) (B := some ⟨g6, 0, none⟩) (bn := bn) (bc := bn) (C := A8) (cn := n8) (cc := c8) X.out.2.2.2.1 (hbs8.stay (by simp) fun b hb _ => heap_setCell_other _ _ _ _ hb.2) (hi8'.setCell (by simp) _)
        have V := Lib.hid (And.intro C10 (B8.setCell (p := ⟨w.heap.size, k * 5 + 4, none⟩) (Nat.le_refl _) (.slice A8 n8 c8)))
        clear C8 B8 hbs8 hi8 hi8' C9 C10 hb8 HC
        go_wp2_with fail
        go_roundw
        case rel => exact ⟨k + 1, _, _, by omega, by go_num, V.out⟩
        case measure => simp [intOf]; omega
      · obtain rfl : k = n := by omega
        have HP : CopyPost w (d + 1) l (.returned (.slice (some ⟨w.heap.size, 0, none⟩) k k)) wr := ⟨hbel, _, _, _, rfl, hcr.done⟩
        clear hcr hbel
        go_wp2_with fail
        go_ret
        exact HP

end Go.Proofs.Ytchpobikbcelfaa
