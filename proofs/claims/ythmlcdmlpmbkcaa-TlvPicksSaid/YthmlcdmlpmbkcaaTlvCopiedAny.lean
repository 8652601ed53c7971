/-
  The contract of copied: the same items in memory of their own.
-/
import Derived.Test.YthmlcdmlpmbkcaaTlvCopied
namespace Go.Proofs.Ythmlcdmlpmbkcaa
open Go.RowKit

set_option maxRecDepth 100000 in
theorem copied_nil {w : World} {S : Nat → Prop} {d : Nat} {A : Option Addr} {c : Nat} (h : Its w S d A 0 c []) :
    Calls Try.prog 33 #[.slice A 0 c] w (CopPost w d []) := by
  have H := Lib.hid (cloneI_any h.up (by omega))
  clear h
  go_enter Try.func33, Try.ntmps33
  go_wp2_with fail
  refine H.out.mono ?_
  rintro e w1 ⟨A1, c1, xs, rfl, hb1, hown, _⟩
  have HP : CopPost w d [] (.returned (.slice A1 0 c1)) w1 := by
    refine ⟨hb1, _, _, _, rfl, ?_⟩
    obtain ⟨_, c2, e, hle, hmax⟩ := own_shape hown
    injection e with _ _ e
    subst e
    cases d with
    | zero => exact ⟨rfl, rfl, hmax⟩
    | succ d => exact ⟨rfl, hle, hmax, fun h => absurd h (by omega)⟩
  clear hb1 hown H
  go_wp2_with fail
  go_loopw [8] (fun i wr => i = .int .i64 (0 : Nat) ∧ wr = w1) (fun _ _ => 0)
  case atStart => exact ⟨rfl, rfl⟩
  case round =>
    obtain ⟨rfl, rfl⟩ := hrel
    go_wp2_with fail
    go_ret
    exact HP

set_option maxRecDepth 100000 in
set_option maxHeartbeats 2000000 in
theorem copied_any (d : Nat) : ∀ (w : World) (S : Nat → Prop) (A : Option Addr) (n c : Nat) (l : List It), Its w S d A n c l → lenL l → n ≤ 1000000 →
    Calls Try.prog 33 #[.slice A n c] w (CopPost w d l) := by
  induction d with
  | zero =>
    intro w S A n c l hi _ _
    obtain ⟨rfl, rfl, hc⟩ := hi
    exact copied_nil (S := S) ⟨rfl, rfl, hc⟩
  | succ d ih =>
    intro w S A n c l hi hlen hn
    rcases Nat.eq_zero_or_pos n with h0 | h0
    · subst h0
      obtain rfl : l = [] := List.eq_nil_of_length_eq_zero hi.len
      exact copied_nil hi
    have IH := Lib.hid ih
    have H := Lib.hid hlen
    have HL := Lib.hid hi.len
    have HCL := Lib.hid (cloneI_any hi hn)
    clear ih hi hlen
    go_enter Try.func33, Try.ntmps33
    go_wp2_with fail
    refine HCL.out.mono ?_
    rintro e w1 ⟨A1, c1, xs1, rfl, hb1, hown1, hrow1⟩
    obtain ⟨g, rfl⟩ : ∃ g, A1 = some ⟨g, 0, none⟩ := by
      rcases hown1.2 with ⟨_, h1⟩ | ⟨g, cap, cur, h1, _⟩
      · omega
      · injection h1 with h1
        exact ⟨g, h1⟩
    have C0 : Hid (DRow w1 w.heap.size g d n c1 0 l [] xs1) := ⟨by rw [List.nil_append]; exact hown1, rfl, HL.out, Nat.zero_le _⟩
    have B0 : Hid (Below w.heap.size w w1) := hb1
    have R0 := Lib.hid hrow1
    clear hown1 hb1 hrow1 HCL
    go_wp2_with fail
    go_loopw [8] (fun i wr => ∃ (k : Nat) (xs ys : List Value), k ≤ n ∧ i = .int .i64 k ∧ DRow wr w.heap.size g d n c1 k l xs ys ∧ Below w.heap.size w wr ∧ RowP (Its w (· < w.heap.size) d) w (· < w.heap.size) (l.drop k) ys) (fun i _ => n - (intOf i).toNat)
    case atStart => exact ⟨0, _, _, Nat.zero_le _, rfl, C0.out, B0.out, R0.out⟩
    case round =>
      clear C0 B0 R0
      obtain ⟨k, xs, ys, hk, rfl, hcr, hbel, hrest⟩ := hrel
      by_cases hlt : k < n
      · obtain ⟨x, hx⟩ : ∃ x, l[k]? = some x := ⟨_, List.getElem?_eq_getElem (by rw [HL.out]; exact hlt)⟩
        have hxl := (lenI_eq x).1 (lenL_mem H.out (List.mem_of_getElem? hx))
        rw [drop_cons hx] at hrest
        obtain ⟨B, bn, bc, C, cn, cc, zs, rfl, hB, hC, hrest⟩ := hrest
        have g3 : wr.cell? ⟨g, k * 5 + 3, none⟩ = some (.slice B bn bc) := hcr.cell (i := 3) rfl
        have e3 := hcr.free (k * 5 + 3)
        have hgs := hcr.block
        have hBr : Bs wr (· < w.heap.size) B bn bc x.bytes := hB.stay hbel.size fun b hb _ => hbel.block b hb
        have X := Lib.hid (And.intro hcr (And.intro hbel (And.intro hB (And.intro hC (And.intro hrest (And.intro hx hxl))))))
        have hkl : (k : Int) < (n : Int) := by omega
        have HCP := Lib.hid (clone_any (c := bc) hBr.sb (by have := hBr.lt; omega))
        clear hcr hbel hB hC hrest hx hxl hBr
        go_wp2_with fail
        refine HCP.out.mono ?_
        rintro e w6 ⟨v6, rfl, A6, n6, c6, rfl, hm6⟩
        have C6 := X.out.1.below hm6.below
        have B6 : Below w.heap.size w w6 := X.out.2.1.trans (hm6.below.mono X.out.2.1.size)
        have hbs : Bs w6 (Nw w6 w.heap.size g) A6 n6 c6 x.bytes := bs_cloned hm6 X.out.2.2.1.u8 (by rw [X.out.2.2.1.sb.len]; exact X.out.2.2.1.lt) X.out.2.1.size X.out.1.block.2
        have g3 : w6.cell? ⟨g, k * 5 + 3, none⟩ = some (.slice B bn bc) := C6.cell (i := 3) rfl
        have e3 := C6.free (k * 5 + 3)
        have g4 : w6.cell? ⟨g, k * 5 + 4, none⟩ = some (.slice C cn cc) := C6.cell (i := 4) rfl
        have hgs := C6.block
        have C7 := C6.set 3 (.slice A6 n6 c6)
        have B7 : Below w.heap.size w (w6.setCell ⟨g, k * 5 + 3, none⟩ (.slice A6 n6 c6)) := B6.setCell hgs.1 _
        have hi7 : Its (w6.setCell ⟨g, k * 5 + 3, none⟩ (.slice A6 n6 c6)) (· < w.heap.size) d C cn cc x.items := X.out.2.2.2.1.stay B7.size fun b hb _ => B7.block b hb
        have hbs7 : Bs (w6.setCell ⟨g, k * 5 + 3, none⟩ (.slice A6 n6 c6)) (Nw (w6.setCell ⟨g, k * 5 + 3, none⟩ (.slice A6 n6 c6)) w.heap.size g) A6 n6 c6 x.bytes := hbs.move (by simp) fun b hb _ => ⟨heap_setCell_other _ _ _ _ hb.2.1, hb.stay (heap_setCell_other _ _ _ _ hb.2.1)⟩
        have Z := Lib.hid (And.intro C7 (And.intro B7 hbs7))
        have HC := Lib.hid (IH.out _ _ C cn cc x.items hi7 X.out.2.2.2.2.2.2.2 (by have := hi7.len; have := X.out.2.2.2.2.2.2.1; omega))
        clear C6 B6 hbs C7 B7 hi7 hbs7 hm6 HCP
        go_wp2_with fail
        refine HC.out.mono ?_
        rintro e w8 ⟨hb8, A8, n8, c8, rfl, hi8⟩
        have C8 := Z.out.1.below hb8
        have B8 : Below w.heap.size w w8 := Z.out.2.1.trans (hb8.mono Z.out.2.1.size)
        have hbs8 : Bs w8 (Nw w8 w.heap.size g) A6 n6 c6 x.bytes := Z.out.2.2.move hb8.size fun b hb hlt => ⟨hb8.block b hlt, hb.stay (hb8.block b hlt)⟩
        have hi8' : Its w8 (Nw w8 w.heap.size g) d A8 n8 c8 x.items := hi8.mono fun b hb _ => by
          have h1 := Z.out.1.block.2
          have h2 := Z.out.2.1.size
          exact ⟨by omega, by omega, hb.2⟩
        have g4 : w8.cell? ⟨g, k * 5 + 4, none⟩ = some (.slice C cn cc) := C8.cell (i := 4) rfl
        have e4 := C8.free (k * 5 + 4)
        have hgs8 := C8.block
        have C9 := C8.set 4 (.slice A8 n8 c8)
        have hmv : ∀ b, Nw w8 w.heap.size g b → b < w8.heap.size → (w8.setCell ⟨g, k * 5 + 4, none⟩ (.slice A8 n8 c8)).heap[b]? = w8.heap[b]? ∧ Nw (w8.setCell ⟨g, k * 5 + 4, none⟩ (.slice A8 n8 c8)) w.heap.size g b := fun b hb _ => ⟨heap_setCell_other _ _ _ _ hb.2.1, hb.stay (heap_setCell_other _ _ _ _ hb.2.1)⟩
        have C10 := C9.next (x := x) (B := A6) (bn := n6) (bc := c6) (C := A8) (cn := n8) (cc := c8) X.out.2.2.2.2.2.1 (hbs8.move (by simp) hmv) (hi8'.move (by simp) hmv)
        have V := Lib.hid (And.intro C10 (And.intro (B8.setCell (p := ⟨g, k * 5 + 4, none⟩) hgs8.1 (.slice A8 n8 c8)) X.out.2.2.2.2.1))
        clear C8 B8 hbs8 hi8 hi8' C9 C10 hb8 HC hmv
        go_wp2_with fail
        go_roundw
        case rel => exact ⟨k + 1, _, _, by omega, by go_num, V.out⟩
        case measure => simp [intOf]; omega
      · obtain rfl : k = n := by omega
        have HP : CopPost w (d + 1) l (.returned (.slice (some ⟨g, 0, none⟩) k c1)) wr := ⟨hbel, _, _, _, rfl, hcr.done⟩
        clear hcr hbel
        go_wp2_with fail
        go_ret
        exact HP

end Go.Proofs.Ythmlcdmlpmbkcaa
