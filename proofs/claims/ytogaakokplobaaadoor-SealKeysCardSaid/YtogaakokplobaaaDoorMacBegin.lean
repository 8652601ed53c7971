/-
  The contracts of beginning and of the closure that it answers.
-/
import Derived.Test.YtogaakokplobaaaDoorMacSpec
import Derived.Test.YtogaakokplobaaaDoorShaSumW
import Derived.Test.YtogaakokplobaaaDoorShaFixed
import Derived.Laws.EntriesVeiled
import Derived.Deep.Cut
import Derived.Test.YtogaakokplobaaaDoorWireLeaf
namespace Go.Proofs.YtogaakokplobaaaDoor
open Go.RowKit

theorem infoA64 : (Tryd.prog.info? 71).map (·.size) = some 64 := by kernel_rfl

set_option maxRecDepth 100000 in
set_option maxHeartbeats 1600000 in
/-- The closure: the key's block, turned, in new memory. -/
theorem lay_any (p : Int) (k : List Int) (b : Nat) (w : World) (hp : 0 ≤ p ∧ p ≤ 255) (hk : k.length = 64) (h8 : B8s k) (hb : Blk w b 71 (u8A k)) :
    Calls Tryd.prog 49 #[.int .u8 p, .pointer (some ⟨b, 0, none⟩)] w fun e w' => e = .returned (.slice (some ⟨w.heap.size, 0, none⟩) 64 64) ∧
      Blk w' w.heap.size 71 (u8A (xorL p k)) ∧ Below w.heap.size w w' := by
  have H := Lib.hid (show k.length = 64 ∧ B8s k ∧ Blk w b 71 (u8A k) ∧ b < w.heap.size from ⟨hk, h8, hb, hb.lt⟩)
  obtain ⟨hp0, hp1⟩ := hp
  have hn1 : Hid (Blk (w.alloc (.cells (u8A (List.replicate 64 0)) 71)) w.heap.size 71 (u8A (List.replicate 64 0))) := Blk.new _ _ _
  clear hk h8 hb
  go_enter Tryd.func49, Tryd.ntmps49
  go_wp2_with (first
    | (refine wpList_load_row rfl 71 (.tmp 1) rfl b rfl 71 (u8A k) (0, 0) _ H.out.2.2.1 Tryd.underlying71 rfl (by rw [u8A_size, H.out.1]; exact infoA64) ?_)
    | (refine wpList_store_row rfl 71 (.tmp 4) (.tmp 6) rfl w.heap.size (u8A k) rfl rfl 71 (u8A (List.replicate 64 0)) hn1.out (by rw [u8A_size, H.out.1]; exact infoA64) (by rw [u8A_size, u8A_size, H.out.1]; simp) (u8A_one _) ?_))
  go_loopw [7] (fun i wr => ∃ j : Nat, j ≤ 64 ∧ i = .int .i64 j ∧ Blk wr w.heap.size 71 (u8A (xorK p k j)) ∧ Below w.heap.size w wr) (fun i _ => 64 - (intOf i).toNat)
  case atStart => exact ⟨0, by omega, rfl, by rw [xorK_zero]; exact hn1.out.setRow _, below_setRow ((Below.refl _ _).alloc (Nat.le_refl _) _) (Nat.le_refl _) _⟩
  case round =>
    clear hn1
    obtain ⟨j, hj, rfl, hblk, hbel⟩ := hrel
    have X := Lib.hid (And.intro hblk hbel)
    by_cases hlt : j < 64
    · have hjl : (j : Int) < 64 := by omega
      obtain ⟨x, hx⟩ : ∃ x, x = k.getD j 0 := ⟨_, rfl⟩
      have hxb : 0 ≤ x ∧ x ≤ 255 := by rw [hx]; exact H.out.2.1.at j
      have hc := hblk.cell8 (k := j) (by rw [xorK_len, H.out.1]; exact hlt)
      rw [xorK_at, ← hx] at hc
      have hf := hblk.free j
      have HX := Lib.hid hx
      obtain ⟨hx0, hx1⟩ := hxb
      clear hblk hbel hx
      go_wp2_with fail
      go_roundw
      case rel =>
        refine ⟨j + 1, by omega, by go_num, ?_, X.out.2.setCell (Nat.le_refl _) _⟩
        have h1 := X.out.1.set8 j (bits .xor .u8 x p)
        rw [HX.out, xorK_set p k j (by rw [H.out.1]; exact hlt), ← HX.out] at h1
        exact h1
      case measure => simp [intOf]; omega
    · obtain rfl : j = 64 := by omega
      have e : xorK p k 64 = xorL p k := by rw [← H.out.1]; exact xorK_all p k
      rw [e] at X
      clear hblk hbel hj hlt e
      go_wp2_with fail
      go_ret
      exact ⟨rfl, X.out.1, X.out.2⟩

/-- copy of a slice of bytes over the head of a block. -/
theorem wpList_cpyB {ops : Array Oper} {rest : List Oper} {o : Oper} {a : Act} {Q : Exit → Act → World → Prop} (hgd : o.guard = none) (d s : Operand)
    (ho : o.op = .call { callee := .builtin .copy, args := #[d, s], argTypes := #[22, 22] }) (B : Nat) (w0 w : World) (t : TypeId) (b N : Nat) (l : List Int) (hb : Blk w b t (u8A l)) (hl : l.length = N)
    (A : Option Addr) (m c : Nat) (zs : List Int) (hs : Sb w A m zs) (hm : m ≤ N) (hd : a.eval d = .slice (some ⟨b, 0, none⟩) N N) (hse : a.eval s = .slice A m c) (hbel : Below B w0 w) (hB : B ≤ b)
    (h : ∀ w', Blk w' b t (u8A (zs ++ l.drop m)) → Below B w0 w' → wpList Tryd.prog ops Q rest (a.put o.dst (goInt m)) w') : wpList Tryd.prog ops Q (o :: rest) a w := by
  have hz := hs.len
  have hmin : Nat.min m N = m := Nat.min_eq_left hm
  have key := wpList_copy_splice (P := Tryd.prog) (w := w) (ops := ops) (rest := rest) (o := o) (a := a) (Q := Q) hgd d s 22 22 ho 5 Tryd.underlying22 size8 (some ⟨b, 0, none⟩) A N N m c hd hse b 0
    (l.map (Value.int .u8)) t hb (zs.map (Value.int .u8)) (by rw [hmin]; simpa using hz)
    (fun hp => ⟨rfl, by
      obtain ⟨ad, rfl⟩ := hs.addr (by simpa [hz] using hp)
      exact ⟨ad, rfl, hs.news⟩⟩) (by simp; omega) (oneCells _) B w0 hbel hB
  rw [show (zs.map (Value.int .u8)).length = m by simpa using hz] at key
  refine key fun w' hh hb' => h w' ?_ hb'
  have e := hh.out
  rw [splice_map] at e
  have e2 : splice l 0 zs = zs ++ l.drop m := by simp [splice, hz]
  rw [e2] at e
  exact e

/-- What beginning answers: a closure over the key's block. -/
def BegPost (w : World) (key : List Int) (e : Ending) (w' : World) : Prop :=
  e = .returned (.func (.func 49) #[] #[.pointer (some ⟨w.heap.size, 0, none⟩)]) ∧ Blk w' w.heap.size 71 (u8A (blkS key)) ∧ Below w.heap.size w w'

set_option maxRecDepth 100000 in
set_option maxHeartbeats 1600000 in
theorem begin_short {A : Option Addr} {n c : Nat} {key : List Int} (w : World) (hs : Sb w A n key) (hn : n ≤ 64) :
    Calls Tryd.prog 42 #[.slice A n c] w (BegPost w key) := by
  have H := Lib.hid (show Sb w A n key ∧ blkS key = key ++ (List.replicate 64 0).drop n from ⟨hs, by unfold blkS keyB padZ; rw [if_neg (by rw [hs.len]; omega), hs.len, List.drop_replicate]⟩)
  have hmf : ∀ (fn : Fn) (first cap : Array Value) (w : World), (Instr.makeFunc fn first cap).run Tryd.prog w = .ok (.func fn first cap) w := fun _ _ _ _ => rfl
  have hn1 : Hid (Blk (w.alloc (.cells (u8A (List.replicate 64 0)) 71)) w.heap.size 71 (u8A (List.replicate 64 0))) := Blk.new _ _ _
  clear hs
  go_enter Tryd.func42, Tryd.ntmps42
  go_wp2_with (refine wpList_cpyB rfl (.tmp 12) (.tmp 13) rfl w.heap.size w _ 71 w.heap.size 64 (List.replicate 64 0) hn1.out rfl A n c key (H.out.1.alloc _) hn rfl rfl ((Below.refl _ _).alloc (Nat.le_refl _) _) (Nat.le_refl _) ?_; intro w2 hb2 hbel2; have H2 := Lib.hid (And.intro hb2 hbel2); clear hb2 hbel2)
  go_ret
  exact ⟨rfl, by rw [H.out.2]; exact H2.out.1, H2.out.2⟩

set_option maxRecDepth 100000 in
set_option maxHeartbeats 1600000 in
theorem begin_long {A : Option Addr} {n c : Nat} {key : List Int} (w : World) (hr : Roots w) (hs : Sb w A n key) (h8 : B8s key) (hc : n ≤ c ∧ c ≤ 9223372036854775807) (hn : 64 < n) (hm : n ≤ 1125899906842624) :
    Calls Tryd.prog 42 #[.slice A n c] w (BegPost w key) := by
  have H := Lib.hid (show Sb w A n key ∧ blkS key = shaS key ++ (List.replicate 64 0).drop 32 ∧ Roots w ∧ B8s key ∧ n ≤ c ∧ c ≤ 9223372036854775807 ∧ key.length ≤ 1125899906842624 from ⟨hs, by unfold blkS keyB padZ; rw [if_pos (by rw [hs.len]; omega), shaS_len, List.drop_replicate], hr, h8, hc.1, hc.2, by rw [hs.len]; exact hm⟩)
  have hmf : ∀ (fn : Fn) (first cap : Array Value) (w : World), (Instr.makeFunc fn first cap).run Tryd.prog w = .ok (.func fn first cap) w := fun _ _ _ _ => rfl
  have hgt : (64 : Int) < (n : Int) := by omega
  clear hs hr h8 hc hm
  go_enter Tryd.func42, Tryd.ntmps42
  go_wp2_with fail
  obtain ⟨w0, hw0⟩ : ∃ w0, w0 = w.alloc (.cells (u8A (List.replicate 64 0)) 71) := ⟨_, rfl⟩
  have hz0 : Hid (Blk w0 w.heap.size 71 (u8A (List.replicate 64 0)) ∧ Below w.heap.size w w0 ∧ w0.heap.size = w.heap.size + 1) := by
    rw [hw0]
    exact Lib.hid ⟨Blk.new _ _ _, (Below.refl _ _).alloc (Nat.le_refl _) _, by simp⟩
  have hw0' : w0 = w.alloc (.cells #[Value.int .u8 0, Value.int .u8 0, Value.int .u8 0, Value.int .u8 0, Value.int .u8 0, Value.int .u8 0, Value.int .u8 0, Value.int .u8 0, Value.int .u8 0, Value.int .u8 0, Value.int .u8 0, Value.int .u8 0, Value.int .u8 0, Value.int .u8 0, Value.int .u8 0, Value.int .u8 0, Value.int .u8 0, Value.int .u8 0, Value.int .u8 0, Value.int .u8 0, Value.int .u8 0, Value.int .u8 0, Value.int .u8 0, Value.int .u8 0, Value.int .u8 0, Value.int .u8 0, Value.int .u8 0, Value.int .u8 0, Value.int .u8 0, Value.int .u8 0, Value.int .u8 0, Value.int .u8 0, Value.int .u8 0, Value.int .u8 0, Value.int .u8 0, Value.int .u8 0, Value.int .u8 0, Value.int .u8 0, Value.int .u8 0, Value.int .u8 0, Value.int .u8 0, Value.int .u8 0, Value.int .u8 0, Value.int .u8 0, Value.int .u8 0, Value.int .u8 0, Value.int .u8 0, Value.int .u8 0, Value.int .u8 0, Value.int .u8 0, Value.int .u8 0, Value.int .u8 0, Value.int .u8 0, Value.int .u8 0, Value.int .u8 0, Value.int .u8 0, Value.int .u8 0, Value.int .u8 0, Value.int .u8 0, Value.int .u8 0, Value.int .u8 0, Value.int .u8 0, Value.int .u8 0, Value.int .u8 0] 71) := hw0
  rw [← hw0']
  clear hw0 hw0'
  have B1 : Hid (Below w.heap.size w (w0.alloc (.cells #[.slice A n c] 22))) := hz0.out.2.1.alloc (by rw [hz0.out.2.2]; omega) _
  refine (shaSum_any (n := 1) (L := [key]) _ (H.out.2.2.1.below B1.out) ?hp (by have := H.out.2.2.2.2.2.2; simpa using this) (by omega)).mono ?_
  case hp =>
    have hnew := heap_alloc_new w0 (.cells #[.slice A n c] 22)
    rw [hz0.out.2.2] at hnew
    refine Ps.of rfl (fun _ => lt_of_block hnew) fun k hk => ?_
    obtain rfl : k = 0 := by omega
    exact ⟨A, n, c, (cell_of_row _ (w.heap.size + 1) 0 _ _ _ hnew).trans rfl, H.out.1.below B1.out, H.out.2.2.2.2.1, H.out.2.2.2.2.2.1, H.out.2.2.2.1⟩
  rintro e w1 ⟨rfl, hb1⟩
  rw [show ([key] : List (List Int)).flatten = key by simp]
  obtain ⟨s, hs⟩ : ∃ s, s = shaS key := ⟨_, rfl⟩
  rw [← hs]
  have HS := Lib.hid (show s.length = 32 ∧ s = shaS key from ⟨by rw [hs]; exact shaS_len _, hs⟩)
  clear hs
  have X1 := Lib.hid (show Blk w1 w.heap.size 71 (u8A (List.replicate 64 0)) ∧ Below w.heap.size w w1 ∧ w.heap.size < w1.heap.size from by
    have hz := hz0.out
    have h1 : Blk w1 w.heap.size 71 (u8A (List.replicate 64 0)) := (hz.1.alloc _).below hb1 (by simp; omega)
    exact ⟨h1, B1.out.trans (hb1.mono B1.out.size), h1.lt⟩)
  clear hb1 B1 hz0
  have hn1 : Hid (Blk (w1.alloc (.cells (u8A (List.replicate 32 0)) 46)) w1.heap.size 46 (u8A (List.replicate 32 0))) := Blk.new _ _ _
  go_upto_region 4 with (refine wpList_store_row rfl 46 (.tmp 4) (.tmp 10) rfl w1.heap.size (u8A s) rfl rfl 46 (u8A (List.replicate 32 0)) hn1.out (by rw [u8A_size, HS.out.1]; exact info32) (by rw [u8A_size, u8A_size, HS.out.1]; simp) (u8A_one _) ?_)
  have hlt1 := X1.out.2.2
  have H2 := Lib.hid (show Blk ((w1.alloc (.cells (u8A (List.replicate 32 0)) 46)).setRow w1.heap.size (u8A s)) w.heap.size 71 (u8A (List.replicate 64 0)) ∧ Blk ((w1.alloc (.cells (u8A (List.replicate 32 0)) 46)).setRow w1.heap.size (u8A s)) w1.heap.size 46 (u8A s) ∧ Below w.heap.size w ((w1.alloc (.cells (u8A (List.replicate 32 0)) 46)).setRow w1.heap.size (u8A s)) from
    ⟨(X1.out.1.alloc _).otherRow _ (Nat.ne_of_lt hlt1), hn1.out.setRow _, below_setRow (X1.out.2.1.alloc (Nat.le_of_lt hlt1) _) (Nat.le_of_lt hlt1) _⟩)
  obtain ⟨w2, hw2⟩ : ∃ w2, w2 = (w1.alloc (.cells (u8A (List.replicate 32 0)) 46)).setRow w1.heap.size (u8A s) := ⟨_, rfl⟩
  rw [← hw2] at H2
  have hw2' : w2 = (w1.alloc (.cells #[Value.int .u8 0, Value.int .u8 0, Value.int .u8 0, Value.int .u8 0, Value.int .u8 0, Value.int .u8 0, Value.int .u8 0, Value.int .u8 0, Value.int .u8 0, Value.int .u8 0, Value.int .u8 0, Value.int .u8 0, Value.int .u8 0, Value.int .u8 0, Value.int .u8 0, Value.int .u8 0, Value.int .u8 0, Value.int .u8 0, Value.int .u8 0, Value.int .u8 0, Value.int .u8 0, Value.int .u8 0, Value.int .u8 0, Value.int .u8 0, Value.int .u8 0, Value.int .u8 0, Value.int .u8 0, Value.int .u8 0, Value.int .u8 0, Value.int .u8 0, Value.int .u8 0, Value.int .u8 0] 46)).setRow w1.heap.size (u8A s) := hw2
  rw [← hw2']
  clear hw2 hw2' hn1 X1 hlt1
  have hsb : Sb w2 (some ⟨w1.heap.size, 0, none⟩) 32 s := ⟨HS.out.1, fun _ => ⟨_, rfl, H2.out.2.1.lt, fun k hk => by rw [addHead]; exact H2.out.2.1.cell8 (by rw [HS.out.1]; exact hk)⟩⟩
  have HB := Lib.hid hsb
  clear hsb
  go_wp2_with (refine wpList_cpyB rfl (.tmp 12) (.tmp 13) rfl w.heap.size w w2 71 w.heap.size 64 (List.replicate 64 0) H2.out.1 rfl (some ⟨w1.heap.size, 0, none⟩) 32 32 s HB.out (by omega) rfl rfl H2.out.2.2 (Nat.le_refl _) ?_; intro w3 hb3 hbel3; have H3 := Lib.hid (And.intro hb3 hbel3); clear hb3 hbel3)
  go_ret
  exact ⟨rfl, by rw [H.out.2.1, ← HS.out.2]; exact H3.out.1, H3.out.2⟩

theorem begin_any {A : Option Addr} {n c : Nat} {key : List Int} (w : World) (hr : Roots w) (hs : Sb w A n key) (h8 : B8s key) (hc : n ≤ c ∧ c ≤ 9223372036854775807) (hm : n ≤ 1125899906842624) :
    Calls Tryd.prog 42 #[.slice A n c] w (BegPost w key) := by
  by_cases hn : 64 < n
  · exact begin_long w hr hs h8 hc hn hm
  · exact begin_short w hs (by omega)
theorem keyB_b {key : List Int} (h : B8s key) : B8s (keyB key) := by
  unfold keyB
  split
  · exact shaS_b _
  · exact h
theorem blkS_b {key : List Int} (h : B8s key) : B8s (blkS key) := padZ_b (keyB_b h)
theorem macS_b (key bs : List Int) : B8s (macS key bs) := shaS_b _

end Go.Proofs.YtogaakokplobaaaDoor
