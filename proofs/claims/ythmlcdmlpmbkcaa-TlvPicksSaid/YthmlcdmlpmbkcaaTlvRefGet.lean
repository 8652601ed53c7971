/-
  The contract of the reference's Get.
-/
import Derived.Test.YthmlcdmlpmbkcaaTlvRefPick
namespace Go.Proofs.Ythmlcdmlpmbkcaa
open Go.RowKit

/-- An item by value. -/
def It.val (x : It) (B : Option Addr) (bn bc : Nat) (C : Option Addr) (cn cc : Nat) : Value := .agg #[.int .i64 x.kind, .bool x.crit, .bool x.lst, .slice B bn bc, .slice C cn cc]
/-- What Get leaves: the first of a kind, in blocks of the kind S. -/
def GetPost (w : World) (S : World → Nat → Prop) (d : Nat) (q : Option It) (e : Ending) (w' : World) : Prop :=
  Below w.heap.size w w' ∧ match q with
  | none => e = .returned (.tuple #[.agg #[.int .i64 0, .bool false, .bool false, .slice none 0 0, .slice none 0 0], .bool false])
  | some x => ∃ B bn bc C cn cc, e = .returned (.tuple #[x.val B bn bc C cn cc, .bool true]) ∧ Bs w' (S w') B bn bc x.bytes ∧ Its w' (S w') d C cn cc x.items
/-- The first of a kind. -/
def getS (k : Int) (l : List It) : Option It := l.find? fun x => x.kind == k
theorem get_here {k : Int} {x : It} {l : List It} (h : x.kind = k) : getS k (x :: l) = some x := by unfold getS; rw [List.find?_cons_of_pos]; simpa using h
theorem get_next {k : Int} {x : It} {l : List It} (h : x.kind ≠ k) : getS k (x :: l) = getS k l := by unfold getS; rw [List.find?_cons_of_neg]; simpa using h

set_option maxRecDepth 100000 in
set_option maxHeartbeats 1000000 in
theorem refGet_any {w : World} {d : Nat} {A : Option Addr} {n c : Nat} {l : List It} {kd : Int} (hi : Its w (· < w.heap.size) (d + 1) A n c l) (hn : n ≤ 1000000) :
    Calls Try.prog 25 #[.slice A n c, .int .i64 kd] w (GetPost w (fun _ _ => True) d (getS kd l)) := by
  have H := Lib.hid hi
  have hl := Lib.hid hi.len
  clear hi
  go_enter Try.func25, Try.ntmps25
  go_wp2_with fail
  go_loopw [6] (fun i wr => ∃ k : Nat, k ≤ n ∧ i = .int .i64 k ∧ getS kd l = getS kd (l.drop k) ∧ wr = w.alloc (.cells #[.int .i64 0, .bool false, .bool false, .slice none 0 0, .slice none 0 0] 47)) (fun i _ => n - (intOf i).toNat)
  case atStart => exact ⟨0, Nat.zero_le _, rfl, rfl, rfl⟩
  case round =>
    obtain ⟨k, hk, rfl, hg, rfl⟩ := hrel
    have HG := Lib.hid hg
    clear hg
    by_cases hlt : k < n
    · obtain ⟨x, hx⟩ : ∃ x, l[k]? = some x := ⟨_, List.getElem?_eq_getElem (by rw [hl.out]; exact hlt)⟩
      obtain ⟨ad, B, bn, bc, C, cn, cc, rfl, hS, hblt, hat⟩ := (H.out.alloc (.cells #[.int .i64 0, .bool false, .bool false, .slice none 0 0, .slice none 0 0] 47)).get hx
      have h0 := hat.c0
      have h1 := hat.c1
      have h2 := hat.c2
      have h3 := hat.c3
      have h4 := hat.c4
      have hdrop := drop_cons hx
      have X := Lib.hid (And.intro hat hdrop)
      have X0 := Lib.hid hx
      have hkl : (k : Int) < (n : Int) := by omega
      clear hS hblt hat hdrop hx
      by_cases hkd : x.kind = kd
      · have hd2 : (x.kind == kd) = true := by simpa using hkd
        have HP : Hid (getS kd l = some x) := by show _ = _; rw [HG.out, X.out.2, get_here hkd]
        clear hkd
        go_wp2_with fail
        obtain ⟨x0, x1, x2, x3, x4⟩ := item_cells (heap_alloc_new w (.cells #[.int .i64 x.kind, .bool x.crit, .bool x.lst, .slice B bn bc, .slice C cn cc] 47))
        refine bodyPost_ret (v := .tuple #[.agg #[.int .i64 x.kind, .bool x.crit, .bool x.lst, .slice B bn bc, .slice C cn cc], .bool true]) (by simp [results, Try.results25, go_sem, x0, x1, x2, x3, x4]) rfl ?_
        rw [HP.out]
        have hb : ∀ cs, Below w.heap.size w (w.alloc (.cells cs 47)) := fun cs => (Below.refl _ _).alloc (Nat.le_refl _) _
        obtain ⟨ad0, B0, bn0, bc0, C0, cn0, cc0, e, _, hlt0, hat0⟩ := H.out.get X0.out
        cases e
        have e3 := hat0.c3
        have e4 := hat0.c4
        rw [← (hb #[.int .i64 0, .bool false, .bool false, .slice none 0 0, .slice none 0 0]).cell (p := ⟨(ad.add (k * 5)).block, (ad.add (k * 5)).off + 3, none⟩) (by rw [addBlock]; exact hlt0), X.out.1.c3] at e3
        rw [← (hb #[.int .i64 0, .bool false, .bool false, .slice none 0 0, .slice none 0 0]).cell (p := ⟨(ad.add (k * 5)).block, (ad.add (k * 5)).off + 4, none⟩) (by rw [addBlock]; exact hlt0), X.out.1.c4] at e4
        cases e3
        cases e4
        refine ⟨hb _, B, bn, bc, C, cn, cc, rfl, (hat0.b.stay (hb _).size fun b _ h => (hb _).block b h).mono fun _ _ _ => trivial, (hat0.i.below (hb _)).mono fun _ _ _ => trivial⟩
      · have hd2 : (x.kind == kd) = false := by simpa using hkd
        have HP : Hid (getS kd l = getS kd (l.drop (k + 1))) := by show _ = _; rw [HG.out, X.out.2, get_next hkd]
        clear hkd
        go_wp2_with fail
        go_roundw
        case rel => exact ⟨k + 1, by omega, by go_num, HP.out, trivial⟩
        case measure => simp [intOf]; omega
    · have hz : l.drop k = [] := List.drop_eq_nil_of_le (by rw [hl.out]; omega)
      have HQ : Hid (getS kd l = none) := by show _ = _; rw [HG.out, hz]; rfl
      clear hz
      go_wp2_with fail
      obtain ⟨x0, x1, x2, x3, x4⟩ := item_cells (heap_alloc_new w (.cells #[.int .i64 0, .bool false, .bool false, .slice none 0 0, .slice none 0 0] 47))
      refine bodyPost_ret (v := .tuple #[.agg #[.int .i64 0, .bool false, .bool false, .slice none 0 0, .slice none 0 0], .bool false]) (by simp [results, Try.results25, go_sem, x0, x1, x2, x3, x4]) rfl ?_
      rw [HQ.out]
      exact ⟨(Below.refl _ _).alloc (Nat.le_refl _) _, rfl⟩

end Go.Proofs.Ythmlcdmlpmbkcaa
