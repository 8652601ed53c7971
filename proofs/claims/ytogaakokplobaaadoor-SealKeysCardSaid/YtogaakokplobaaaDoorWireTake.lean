/-
  Contracts of wire.New and of the reader's Take.
-/
import Derived.Test.YtogaakokplobaaaDoorWireLeaf
import Derived.Test.YtogaakokplobaaaDoorWireSpec
namespace Go.Proofs.YtogaakokplobaaaDoor
open Go.RowKit

/-- What New leaves: a reader in new memory. -/
def NewPost (zs : List Int) (w : World) (e : Ending) (w' : World) : Prop :=
  ∃ r A n c, e = .returned (.pointer (some ⟨r, 0, none⟩)) ∧ Rd 74 w.heap.size w' r A n c zs 0 ∧ Below w.heap.size w w'

theorem new_any {w : World} {A : Option Addr} {n c : Nat} {zs : List Int} (h : Sb w A n zs) (hn : n ≤ 140737488355328) :
    Calls Tryd.prog 37 #[.slice A n c] w (NewPost zs w) := by
  go_enter Tryd.func37, Tryd.ntmps37
  go_wp2_with fail
  refine (clone_any h hn).mono ?_
  rintro e w1 ⟨v, rfl, A1, n1, c1, rfl, hm⟩
  have HM := Lib.hid hm
  clear hm
  go_wp2
  have hm := HM.out
  have hs := hm.below.size
  have HP : NewPost zs w (.returned (.pointer (some ⟨w1.heap.size, 0, none⟩))) (w1.alloc (.cells #[.slice A1 n1 c1, .int .i64 0] 74)) :=
    ⟨w1.heap.size, A1, n1, c1, rfl, ⟨heap_alloc_new _ _, hm.sb.alloc _, hm.le, hm.max, hs, fun ad hA => by subst hA; exact own_block hm.own⟩, hm.below.alloc hs _⟩
  go_ret
  exact HP

/-- What Take leaves. -/
def TakePost (base : Nat) (w : World) (r : Nat) (q : List Int × List Int × Int) (e' : Ending) (w' : World) : Prop :=
  ∃ v, e' = .returned v ∧ Fresh 5 q.1 w v w' ∧ RdTo 74 base w r q.2.1 q.2.2 w'

/-- Behind a store into the reader. -/
theorem TakePost.behind {base : Nat} {w : World} {r k : Nat} {u : Value} {q : List Int × List Int × Int} {v : Value} {w' : World} (h : TakePost base (w.setCell ⟨r, k, none⟩ u) r q (.returned v) w') : TakePost base w r q (.returned v) w' := by
  obtain ⟨v', e1, ⟨A, n, c, e2, hf⟩, hr, hg⟩ := h
  exact ⟨v', e1, ⟨A, n, c, e2, hf.len, hf.le, hf.max, by simpa using hf.own⟩, hr, grownBy_trans (grownBy_set _ _ _) hg⟩

theorem take_any {base : Nat} {w : World} {r : Nat} {A : Option Addr} {m c : Nat} {zs : List Int} {e : Int} (h : Rd 74 base w r A m c zs e) (hm : m ≤ 140737488355328) (n : Int) (hn : n ≤ 9223372036854775807) :
    Calls Tryd.prog 46 #[.pointer (some ⟨r, 0, none⟩), .int .i64 n] w (TakePost base w r (take1 zs e n)) := by
  have hl := Lib.hid h.sb.len
  by_cases h0 : e = 0
  · subst h0
    by_cases h1 : n < 0
    · have HP : TakePost base w r (take1 zs 0 n) (.returned (.slice none 0 0)) (w.setCell ⟨r, 1, none⟩ (.int .i64 1)) := by
        unfold take1; rw [if_neg (by simp), if_pos h1]; exact ⟨_, rfl, Fresh.nil _ _ _, RdTo.err h 1⟩
      have hc0 := h.cell0
      have hc1 := h.cell1
      have hf := h.free 1
      go_enter Tryd.func46, Tryd.ntmps46
      go_wp2_with (go_at_call 45; refine (reads_any h).mono ?_; rintro e w' ⟨rfl, rfl⟩)
      go_ret
      exact HP
    · by_cases h2 : (m : Int) < n
      · have HP : TakePost base w r (take1 zs 0 n) (.returned (.slice none 0 0)) (w.setCell ⟨r, 1, none⟩ (.int .i64 2)) := by
          unfold take1; rw [if_neg (by simp), if_neg h1, hl.out, if_pos h2]; exact ⟨_, rfl, Fresh.nil _ _ _, RdTo.err h 2⟩
        have hc0 := h.cell0
        have hc1 := h.cell1
        have hf := h.free 1
        go_enter Tryd.func46, Tryd.ntmps46
        go_wp2_with (go_at_call 45; refine (reads_any h).mono ?_; rintro e w' ⟨rfl, rfl⟩)
        go_ret
        exact HP
      · obtain ⟨k, rfl⟩ : ∃ k : Nat, n = k := ⟨n.toNat, by omega⟩
        have hk : k ≤ m := by omega
        have hmc := h.le
        have hcm := h.max
        unfold maxLen at hcm
        have hc0 := h.cell0
        go_enter Tryd.func46, Tryd.ntmps46
        go_wp2_with (go_at_call 45; refine (reads_any h).mono ?_; rintro e w' ⟨rfl, rfl⟩)
        refine (clone_any (h.sb.front hk) (by omega)).mono ?_
        rintro e w1 ⟨v, rfl, A1, n1, c1, rfl, hm1⟩
        have hr1 := h.below hm1.below
        have hd0 := hr1.cell0
        have hf := hr1.free 0
        have HM := Lib.hid hm1
        clear hm1 hc0
        have HP : TakePost base w r (take1 zs 0 k) (.returned (.slice A1 n1 c1)) (w1.setCell ⟨r, 0, none⟩ (.slice (if c = k then A else A.map (·.add k)) (m - k) (c - k))) := by
          unfold take1; rw [if_neg (by simp), if_neg (by omega), hl.out, if_neg (by omega)]
          exact ⟨_, rfl, ⟨A1, n1, c1, rfl, HM.out.fresh.setCell h.lt _⟩, ⟨_, _, _, hr1.setRest hk⟩, grownBy_trans (grownBy_below HM.out.below) (grownBy_set _ _ _)⟩
        by_cases hck : c = k
        · rw [if_pos hck] at HP
          subst hck
          obtain rfl : m = c := by omega
          simp only [Nat.sub_self] at HP
          go_wp2
          all_goals first | (exfalso; omega) | (go_ret; exact HP)
        · rw [if_neg hck] at HP
          go_wp2
          all_goals first | (exfalso; omega) | (go_ret; exact HP)
  · have HP : TakePost base w r (take1 zs e n) (.returned (.slice none 0 0)) w := by
      unfold take1; rw [if_pos h0]; exact ⟨_, rfl, Fresh.nil _ _ _, RdTo.refl h⟩
    have H : (e == 0) = false := by simpa using h0
    clear h0
    go_enter Tryd.func46, Tryd.ntmps46
    go_wp2_with (go_at_call 45; refine (reads_any h).mono ?_; rintro e w' ⟨rfl, rfl⟩)
    go_ret
    exact HP

end Go.Proofs.YtogaakokplobaaaDoor
