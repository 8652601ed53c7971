/-
  Contracts of the reference's reader, which is handed over by value: its bytes, its place, its error.
-/
import Derived.Test.YtchpobikbcelfaaWireLeaf
import Derived.Test.YtchpobikbcelfaaWireSpec
import Derived.Laws.ResultCell
namespace Go.Proofs.Ytchpobikbcelfaa
open Go.RowKit

/-- The reference's reader as a value. -/
def RV (A : Option Addr) (n c : Nat) (at_ e : Int) : Value := .agg #[.slice A n c, .int .i64 at_, .int .i64 e]

theorem refLeft_any {A : Option Addr} {n c a : Nat} {e : Int} (w : World) (ha : a ≤ n) (hn : n ≤ 140737488355328) :
    Calls Try.prog 47 #[.agg #[.slice A n c, .int .i64 a, .int .i64 e]] w fun e' w' => e' = .returned (.int .i64 ((n - a : Nat) : Int)) ∧ Below w.heap.size w w' := by
  have e1 : ((n - a : Nat) : Int) = (n : Int) - a := by omega
  rw [e1]
  clear e1
  go_enter Try.func47, Try.ntmps47
  go_wp2
  go_ret
  exact ⟨rfl, (Below.refl _ _).alloc (Nat.le_refl _) _⟩

/-- The reader behind a call: its bytes are the same, its place has moved on. -/
def RTo (A : Option Addr) (n c : Nat) (bs : List Int) (zs : List Int) (e : Int) (v : Value) : Prop := ∃ a : Nat, a ≤ n ∧ bs.drop a = zs ∧ v = .agg #[.slice A n c, .int .i64 a, .int .i64 e]

def RTakePost (A : Option Addr) (n c : Nat) (bs : List Int) (w : World) (q : List Int × List Int × Int) (e' : Ending) (w' : World) : Prop :=
  ∃ v u, e' = .returned (.tuple #[v, u]) ∧ Made 5 q.1 w v w' ∧ RTo A n c bs q.2.1 q.2.2 u

/-- Two blocks that were laid last are there still, whatever was made since. -/
theorem box_at {w w1 : World} {X Z : Array Value} {t : TypeId} (hb : Below ((w.alloc (.cells X t)).alloc (.cells Z t)).heap.size ((w.alloc (.cells X t)).alloc (.cells Z t)) w1) :
    w1.heap[w.heap.size]? = some (.cells X t (0, 0)) ∧ w1.heap[w.heap.size + 1]? = some (.cells Z t (0, 0)) ∧ Below w.heap.size w w1 := by
  have h1 := heap_alloc_new (w.alloc (.cells X t)) (.cells Z t)
  have h0 : ((w.alloc (.cells X t)).alloc (.cells Z t)).heap[w.heap.size]? = some (.cells X t (0, 0)) := (Below.heap_alloc _ _ _ (by simp)).trans (heap_alloc_new w _)
  simp only [World.size_alloc] at hb h1
  exact ⟨(hb.block _ (by omega)).trans h0, (hb.block _ (by omega)).trans h1, (((Below.refl _ _).alloc (Nat.le_refl _) _).alloc (by simp) _).trans (hb.mono (by omega))⟩

theorem MadeAt.set {e : TypeId} {zs : List Int} {w w1 : World} {g n c : Nat} (h : MadeAt e zs w (some ⟨g, 0, none⟩) n c w1) {p : Addr} (hp : w.heap.size ≤ p.block) (hg : g ≠ p.block) (u : Value) : MadeAt e zs w (some ⟨g, 0, none⟩) n c (w1.setCell p u) :=
  ⟨h.len, h.le, h.max, ownsRow_setCell_other h.own (by simpa [Value.ownBlock] using hg) u, h.below.setCell hp u⟩
theorem MadeAt.drew {e : TypeId} {zs : List Int} {w w1 : World} {A : Option Addr} {n c : Nat} (h : MadeAt e zs w A n c w1) : MadeAt e zs w A n c w1.drew := ⟨h.len, h.le, h.max, h.own, h.below.drew⟩

theorem refTake_any {A : Option Addr} {n c a : Nat} {bs : List Int} {e : Int} (w : World) (hs : Sb w A n bs) (hc : n ≤ c ∧ c ≤ maxLen) (ha : a ≤ n) (hn : n ≤ 140737488355328) (k : Int) (hk : k ≤ 9223372036854775807) :
    Calls Try.prog 56 #[.agg #[.slice A n c, .int .i64 a, .int .i64 e], .int .i64 k] w (RTakePost A n c bs w (take1 (bs.drop a) e k)) := by
  have hl := Lib.hid (show (bs.drop a).length = n - a by rw [List.length_drop, hs.len])
  have bel2 : ∀ X Z : Obj, Below w.heap.size w ((w.alloc X).alloc Z).drew := fun X Z => (((Below.refl _ _).alloc (Nat.le_refl _) _).alloc (by simp) _).drew
  by_cases h0 : e = 0
  · subst h0
    by_cases h1 : k < 0
    · have HP : ∀ w', Below w.heap.size w w' → RTakePost A n c bs w (take1 (bs.drop a) 0 k) (.returned (.tuple #[.slice none 0 0, .agg #[.slice A n c, .int .i64 a, .int .i64 1]])) w' := by
        intro w' hb
        unfold take1; rw [if_neg (by simp), if_pos h1]; exact ⟨_, _, rfl, Made.mk (World.ownsRow_nil _ _ _ _) hb, a, ha, rfl, rfl⟩
      have HB := Lib.hid bel2
      clear bel2
      go_enter Try.func56, Try.ntmps56
      go_wp2
      go_region
      go_wp2
      exact bodyPost_ret (v := .tuple #[.slice none 0 0, .agg #[.slice A n c, .int .i64 a, .int .i64 1]]) (by simp [results, Try.results56, go_sem]) rfl (HP _ (HB.out _ _))
    · by_cases h2 : ((n : Int) - a) < k
      · have HP : ∀ w', Below w.heap.size w w' → RTakePost A n c bs w (take1 (bs.drop a) 0 k) (.returned (.tuple #[.slice none 0 0, .agg #[.slice A n c, .int .i64 a, .int .i64 2]])) w' := by
          intro w' hb
          unfold take1; rw [if_neg (by simp), if_neg h1, if_pos (by rw [hl.out]; omega)]; exact ⟨_, _, rfl, Made.mk (World.ownsRow_nil _ _ _ _) hb, a, ha, rfl, rfl⟩
        have HB := Lib.hid bel2
        clear bel2
        go_enter Try.func56, Try.ntmps56
        go_wp2
        go_region
        go_wp2
        exact bodyPost_ret (v := .tuple #[.slice none 0 0, .agg #[.slice A n c, .int .i64 a, .int .i64 2]]) (by simp [results, Try.results56, go_sem]) rfl (HP _ (HB.out _ _))
      · obtain ⟨j, rfl⟩ : ∃ j : Nat, k = j := ⟨k.toNat, by omega⟩
        have hj : a + j ≤ n := by omega
        obtain ⟨hc1, hc2⟩ := hc
        unfold maxLen at hc2
        have HP : ∀ v w', Made 5 ((bs.drop a).take j) w v w' → RTakePost A n c bs w (take1 (bs.drop a) 0 j) (.returned (.tuple #[v, .agg #[.slice A n c, .int .i64 ((a + j : Nat) : Int), .int .i64 0]])) w' := by
          intro v w' hm
          unfold take1; rw [if_neg (by simp), if_neg (by omega), if_neg (by rw [hl.out]; omega)]
          exact ⟨_, _, rfl, by simpa using hm, a + j, by omega, by simp [List.drop_drop], rfl⟩
        have hsl := (hs.cut (k := a) ha hc1).front (k := j) (by omega)
        have i1 : (0 : Int) ≤ (j : Int) := by omega
        have i2 : (a : Int) + j ≤ (n : Int) := by omega
        have i3 : (n : Int) ≤ (c : Int) := by omega
        clear bel2 h1 h2
        by_cases hca : c = a
        · rw [if_pos hca] at hsl
          obtain rfl : a = c := hca.symm
          obtain rfl : a = n := by omega
          obtain rfl : j = 0 := by omega
          rw [List.take_zero] at hsl
          have HP0 : ∀ v w', Made 5 [] w v w' → RTakePost A a a bs w (take1 (bs.drop a) 0 ((0 : Nat) : Int)) (.returned (.tuple #[v, .agg #[.slice A a a, .int .i64 (a : Int), .int .i64 0]])) w' := by
            intro v w' h
            have h2 := HP v w' (by rw [List.take_zero]; exact h)
            rwa [Nat.add_zero] at h2
          clear HP
          go_enter Try.func56, Try.ntmps56
          go_wp2_with fail
          refine (copy_any ((hsl.alloc _).alloc _) (by omega)).mono ?_
          rintro e w1 ⟨g, rfl, hown, hb⟩
          obtain ⟨b0, b1, hbel⟩ := box_at hb
          have c0 := cell_of_row w1 _ 0 _ _ _ b0
          have c1 := cell_of_row w1 _ 1 _ _ _ b0
          have c2 := cell_of_row w1 _ 2 _ _ _ b0
          have f0 := fun i => frozen_of_row w1 w.heap.size i _ _ b0
          have d0 := cell_of_row w1 _ 0 _ _ _ b1
          have d1 := cell_of_row w1 _ 1 _ _ _ b1
          have d2 := cell_of_row w1 _ 2 _ _ _ b1
          have f1 := fun i => frozen_of_row w1 (w.heap.size + 1) i _ _ b1
          have hgb := (own_block hown).1
          simp only [World.size_alloc] at hgb
          have X := Lib.hid (MadeAt.mk' (w := w) (own_base hown (by simp; omega)) hbel)
          simp only [List.getElem?_toArray, List.getElem?_cons_zero, List.getElem?_cons_succ] at c0 c1 c2 d0 d1 d2
          clear hown hb hbel b0 b1
          have HQ := HP0 _ _ ⟨_, _, _, rfl, ((((X.out.set (p := ⟨w.heap.size, 1, none⟩) (by simp) (by simp; omega) (.int .i64 (a : Int))).set (p := ⟨w.heap.size + 1, 0, none⟩) (by simp) (by simp; omega) (.slice A a a)).set
            (p := ⟨w.heap.size + 1, 1, none⟩) (by simp) (by simp; omega) (.int .i64 (a : Int))).set (p := ⟨w.heap.size + 1, 2, none⟩) (by simp) (by simp; omega) (.int .i64 0)).drew⟩
          have HH := Lib.hid HQ
          clear HQ
          go_wp2
          go_region
          go_wp2
          exact bodyPost_ret (v := .tuple #[.slice (some ⟨g, 0, none⟩) 0 0, .agg #[.slice A a a, .int .i64 (a : Int), .int .i64 0]]) (by simp [results, Try.results56, go_sem, *]) rfl HH.out
        · rw [if_neg hca] at hsl
          go_enter Try.func56, Try.ntmps56
          go_wp2_with fail
          refine (copy_any ((hsl.alloc _).alloc _) (by omega)).mono ?_
          rintro e w1 ⟨g, rfl, hown, hb⟩
          obtain ⟨b0, b1, hbel⟩ := box_at hb
          have c0 := cell_of_row w1 _ 0 _ _ _ b0
          have c1 := cell_of_row w1 _ 1 _ _ _ b0
          have c2 := cell_of_row w1 _ 2 _ _ _ b0
          have f0 := fun i => frozen_of_row w1 w.heap.size i _ _ b0
          have d0 := cell_of_row w1 _ 0 _ _ _ b1
          have d1 := cell_of_row w1 _ 1 _ _ _ b1
          have d2 := cell_of_row w1 _ 2 _ _ _ b1
          have f1 := fun i => frozen_of_row w1 (w.heap.size + 1) i _ _ b1
          have hgb := (own_block hown).1
          simp only [World.size_alloc] at hgb
          have X := Lib.hid (MadeAt.mk' (w := w) (own_base hown (by simp; omega)) hbel)
          simp only [List.getElem?_toArray, List.getElem?_cons_zero, List.getElem?_cons_succ] at c0 c1 c2 d0 d1 d2
          clear hown hb hbel b0 b1
          have HQ := HP _ _ ⟨_, _, _, rfl, ((((X.out.set (p := ⟨w.heap.size, 1, none⟩) (by simp) (by simp; omega) (.int .i64 ((a : Int) + j))).set (p := ⟨w.heap.size + 1, 0, none⟩) (by simp) (by simp; omega) (.slice A n c)).set
            (p := ⟨w.heap.size + 1, 1, none⟩) (by simp) (by simp; omega) (.int .i64 ((a : Int) + j))).set (p := ⟨w.heap.size + 1, 2, none⟩) (by simp) (by simp; omega) (.int .i64 0)).drew⟩
          have HH := Lib.hid HQ
          clear HQ
          go_wp2
          go_region
          go_wp2
          exact bodyPost_ret (v := .tuple #[.slice (some ⟨g, 0, none⟩) j j, .agg #[.slice A n c, .int .i64 ((a + j : Nat) : Int), .int .i64 0]]) (by simp [results, Try.results56, go_sem, *]) rfl HH.out
  · have HP : ∀ w', Below w.heap.size w w' → RTakePost A n c bs w (take1 (bs.drop a) e k) (.returned (.tuple #[.slice none 0 0, .agg #[.slice A n c, .int .i64 a, .int .i64 e]])) w' := by
      intro w' hb
      unfold take1; rw [if_pos h0]; exact ⟨_, _, rfl, Made.mk (World.ownsRow_nil _ _ _ _) hb, a, ha, rfl, rfl⟩
    have t0 : (e != 0) = true := by simpa using h0
    have HB := Lib.hid bel2
    clear bel2 h0
    go_enter Try.func56, Try.ntmps56
    go_wp2
    go_region
    go_wp2
    exact bodyPost_ret (v := .tuple #[.slice none 0 0, .agg #[.slice A n c, .int .i64 a, .int .i64 e]]) (by simp [results, Try.results56, go_sem]) rfl (HP _ (HB.out _ _))

end Go.Proofs.Ytchpobikbcelfaa
