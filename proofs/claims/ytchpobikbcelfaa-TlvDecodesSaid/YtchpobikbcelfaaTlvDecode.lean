/-
  The contract of Decode.
-/
import Derived.Test.YtchpobikbcelfaaTlvRead
namespace Go.Proofs.Ytchpobikbcelfaa
open Go.RowKit

theorem read_any (cb kb d : Nat) : ReadC cb kb d := by
  induction d with
  | zero => exact read_step cb kb 0 fun d' h => by omega
  | succ d ih => exact read_step cb kb (d + 1) fun d' h => by obtain rfl : d = d' := by omega
                                                              exact ih

theorem listReader_any (w : World) :
    Calls Try.prog 31 #[] w fun e w' => e = .returned (.func (.func 40) #[] #[.pointer (some ⟨w.heap.size, 0, none⟩), .pointer (some ⟨w.heap.size + 1, 0, none⟩)]) ∧
      RB w' w.heap.size (w.heap.size + 1) 0 ∧ Below w.heap.size w w' := by
  have hmf : ∀ (fn : Fn) (first cap : Array Value) (w : World), (Instr.makeFunc fn first cap).run Try.prog w = .ok (.func fn first cap) w := fun _ _ _ _ => rfl
  obtain ⟨fnv, hfn⟩ : ∃ fnv, fnv = Value.func (.func 40) #[] #[.pointer (some ⟨w.heap.size, 0, none⟩), .pointer (some ⟨w.heap.size + 1, 0, none⟩)] := ⟨_, rfl⟩
  have HP : Hid (RB ((w.alloc (.cells #[.int .i64 0] 3)).alloc (.cells #[fnv] 57)) w.heap.size (w.heap.size + 1) 0 ∧ Below w.heap.size w ((w.alloc (.cells #[.int .i64 0] 3)).alloc (.cells #[fnv] 57))) := by
    refine ⟨⟨?_, ?_, by omega⟩, ((Below.refl _ _).alloc (Nat.le_refl _) _).alloc (by simp) _⟩
    · rw [heap_alloc_old _ _ (by simp)]; exact heap_alloc_new _ _
    · rw [hfn]
      have := heap_alloc_new (w.alloc (.cells #[.int .i64 0] 3)) (.cells #[Value.func (.func 40) #[] #[.pointer (some ⟨w.heap.size, 0, none⟩), .pointer (some ⟨w.heap.size + 1, 0, none⟩)]] 57)
      simpa using this
  rw [hfn] at HP
  clear hfn
  go_enter Try.func31, Try.ntmps31
  go_wp2_with fail
  go_ret
  exact ⟨rfl, HP.out⟩

/-- What Decode answers: the items in new memory, or nothing; the error. -/
def DecPost (w : World) (q : DR) (e : Ending) (w' : World) : Prop :=
  Below w.heap.size w w' ∧ match q with
  | .bad _ E => e = .returned (.tuple #[.slice none 0 0, .int .i64 E])
  | .ok _ l => ∃ A n c, e = .returned (.tuple #[.slice A n c, .int .i64 0]) ∧ Its w' (fun b => w.heap.size ≤ b ∧ Free w' b) 4 A n c l

theorem heap_two (w : World) (o1 o2 : Obj) : ((w.alloc o1).alloc o2).heap[w.heap.size]? = some o1 ∧ ((w.alloc o1).alloc o2).heap[w.heap.size + 1]? = some o2 := by
  constructor
  · rw [heap_alloc_old _ _ (by simp)]; exact heap_alloc_new _ _
  · have h := heap_alloc_new (w.alloc o1) o2
    have e : (w.alloc o1).heap.size = w.heap.size + 1 := by simp
    rwa [e] at h

theorem decode_any {w : World} {A : Option Addr} {n c : Nat} {zs : List Int} (hs : Sb w A n zs) (hu : U8s zs) (hn : n ≤ 140737488355328) :
    Calls Try.prog 18 #[.slice A n c] w (DecPost w (decS zs)) := by
  have hl := hs.len
  have hmf : ∀ (fn : Fn) (first cap : Array Value) (w : World), (Instr.makeFunc fn first cap).run Try.prog w = .ok (.func fn first cap) w := fun _ _ _ _ => rfl
  by_cases h4 : 4096 < n
  · have HD : Hid (decS zs = .bad 0 4) := by show _ = _; unfold decS; rw [if_pos (by rw [hl]; exact h4)]
    rw [HD.out]
    clear hl hs hu
    go_enter_defers Try.func18, Try.ntmps18
    go_wp2
    refine ⟨.tuple #[.slice none 0 0, .int .i64 4], by simp [results, Try.results18, go_sem], ?_, rfl⟩
    exact ((Below.refl _ _).alloc (Nat.le_refl _) _).alloc (by simp) _
  · have HD : Hid (decS zs = decL 1 0 0 zs) := by show _ = _; unfold decS; rw [if_neg (by rw [hl]; exact h4)]
    rw [HD.out]
    have H := Lib.hid (And.intro hs hu)
    clear hl hs hu
    go_enter_defers Try.func18, Try.ntmps18
    go_wp2_with fail
    refine (listReader_any _).mono ?_
    rintro e w2 ⟨rfl, hrb, hb⟩
    have hp0 := (hb.block w.heap.size (by simp; omega)).trans (heap_two w (.cells #[.slice none 0 0] 22) (.cells #[.int .i64 0] 27)).1
    have hp1 := (hb.block (w.heap.size + 1) (by simp)).trans (heap_two w (.cells #[.slice none 0 0] 22) (.cells #[.int .i64 0] 27)).2
    have X := Lib.hid (And.intro hrb (And.intro hb (And.intro hp0 hp1)))
    clear hrb hb hp0 hp1
    have HC := Lib.hid (read_any (w.heap.size + 2) (w.heap.size + 3) 3 1 (by omega) (by omega) w2 A n c zs 0 ((H.out.1.below (((Below.refl _ _).alloc (Nat.le_refl _) _).alloc (by simp) _)).below (by simpa using X.out.2.1)) H.out.2 (by omega) (by simpa using X.out.1) (Int.le_refl 0) (by omega))
    go_wp2_with fail
    refine HC.out.mono ?_
    rintro e w3 hpost
    cases hq : decL 1 0 0 zs with
    | bad c1 E =>
      rw [hq] at hpost
      obtain ⟨rfl, hg⟩ := hpost
      unfold gaveUp
      go_wp2_with fail
      have hq0 := (hg.block w.heap.size (by have := X.out.2.1.size; simp at this; omega) (by simp)).trans X.out.2.2.1
      have hq1 := (hg.block (w.heap.size + 1) (by have := X.out.2.1.size; simp at this; omega) (by simp)).trans X.out.2.2.2
      refine leaves_cons (f := 30) (args := #[.pointer (some ⟨w.heap.size, 0, none⟩), .pointer (some ⟨w.heap.size + 1, 0, none⟩)]) (by simp) (by simp [go_sem]) ?_
      refine (caught w.heap.size (w.heap.size + 1) _ _ _ _ E [] w3 hq0 hq1 (by omega)).mono ?_
      rintro e u' w4 ⟨rfl, rfl, rfl⟩
      have hlt : w.heap.size + 1 < w3.heap.size := lt_of_block hq1
      have z0 := cell_of_one hq0
      have z1 := cell_of_one hq1
      show Leaves _ _ _ _ [] .returning _
      refine ⟨.tuple #[.slice none 0 0, .int .i64 E], by simp [results, Try.results18, go_sem, z0, z1], ?_⟩
      refine ⟨?_, rfl⟩
      have hb0 : Below w.heap.size w w3 := ((((Below.refl _ _).alloc (Nat.le_refl _) _).alloc (by simp) _).trans (X.out.2.1.mono (by simp; omega))).grown hg (by have := X.out.2.1.size; simp at this; omega) (fun k hk => by injection hk with hk; omega)
      exact ((hb0.setCell (by simp) _).setCell (by simp) _).drew
    | ok c1 l1 =>
      rw [hq] at hpost
      obtain ⟨A3, n3, c3, rfl, hrb, hg, hits⟩ := hpost
      have hq0 := (hg.block w.heap.size (by have := X.out.2.1.size; simp at this; omega) (by simp)).trans X.out.2.2.1
      have hq1 := (hg.block (w.heap.size + 1) (by have := X.out.2.1.size; simp at this; omega) (by simp)).trans X.out.2.2.2
      have hlt : w.heap.size + 1 < w3.heap.size := lt_of_block hq1
      have z0 := cell_of_one hq0
      have z1 := cell_of_one hq1
      have y0 := free_of_one hq0
      have y1 := free_of_one hq1
      have hb0 : Below w.heap.size w w3 := ((((Below.refl _ _).alloc (Nat.le_refl _) _).alloc (by simp) _).trans (X.out.2.1.mono (by simp; omega))).grown hg (by have := X.out.2.1.size; simp at this; omega) (fun k hk => by injection hk with hk; omega)
      have hw2 : w.heap.size + 2 ≤ w2.heap.size := by have := X.out.2.1.size; simp at this; omega
      have Y := Lib.hid (And.intro hb0 (And.intro hits hw2))
      have HQ := Lib.hid hq
      clear hb0 hits hg hrb hq hq0 hq1 hw2 HC
      go_wp2_with fail
      refine leaves_cons (f := 30) (args := #[.pointer (some ⟨w.heap.size, 0, none⟩), .pointer (some ⟨w.heap.size + 1, 0, none⟩)]) (by simp) (by simp [go_sem]) ?_
      refine (caught_not w.heap.size (w.heap.size + 1) _).mono ?_
      rintro e u' w4 ⟨rfl, rfl, rfl⟩
      show Leaves _ _ _ _ [] .returning _
      refine ⟨.tuple #[.slice A3 n3 c3, .int .i64 0], by simp [results, Try.results18, go_sem, z0, z1], ?_⟩
      rw [HQ.out]
      refine ⟨(Y.out.1.setCell (by simp) _).setCell (by simp) _, A3, n3, c3, rfl, ?_⟩
      refine Y.out.2.1.move (by simp) fun b hb hlt => ?_
      have h1 := Y.out.2.2
      have h2 := hb.1
      have e : ((w3.setCell ⟨w.heap.size, 0, none⟩ (.slice A3 n3 c3)).setCell ⟨w.heap.size + 1, 0, none⟩ (.int .i64 0)).heap[b]? = w3.heap[b]? := by
        rw [heap_setCell_other _ _ _ _ (by simp; omega), heap_setCell_other _ _ _ _ (by simp; omega)]
      exact ⟨e, by omega, free_block hb.2 e⟩

end Go.Proofs.Ytchpobikbcelfaa
