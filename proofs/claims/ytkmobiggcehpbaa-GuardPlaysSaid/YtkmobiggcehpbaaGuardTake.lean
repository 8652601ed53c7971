/-
  Contracts of the guard's Take and Top.
-/
import Derived.Test.YtkmobiggcehpbaaGuardLeaf
import Derived.StillTailTactics
namespace Go.Proofs.Ytkmobiggcehpbaa
open Go.RowKit

/-- What Take left: the answer, the guard with what it took; nothing else that was there has turned. -/
def TakePost (w : World) (g : Nat) (n : Int) (L : List Int) (e : Ending) (w' : World) : Prop :=
  e = .returned (.int .i64 (chk n L)) ∧ Gd 49 w' g (tk n L) ∧ w.grownBy w' (some g)

/-- The block g holds two numbers, and nothing else has turned since w0. -/
structure B2 (w0 w : World) (g : Nat) (x y : Int) : Prop where
  blk : w.heap[g]? = some (.cells #[.int .u64 x, .int .u64 y] 49 (0, 0))
  gr : w0.grownBy w (some g)
section
variable {w0 w : World} {g : Nat} {x y : Int}

theorem B2.cell0 (h : B2 w0 w g x y) : w.cell? ⟨g, 0, none⟩ = some (.int .u64 x) := by simp [World.cell?, h.blk]
theorem B2.cell1 (h : B2 w0 w g x y) : w.cell? ⟨g, 1, none⟩ = some (.int .u64 y) := by simp [World.cell?, h.blk]
theorem B2.free (h : B2 w0 w g x y) (k : Nat) : w.frozen? ⟨g, k, none⟩ = false := by simp [World.frozen?, h.blk]
theorem B2.drew (h : B2 w0 w g x y) : B2 w0 w.drew g x y := ⟨h.blk, grownBy_trans h.gr ⟨rfl, rfl, rfl, Nat.le_refl _, fun _ _ _ => rfl⟩⟩
theorem B2.set0 (h : B2 w0 w g x y) (z : Int) : B2 w0 (w.setCell ⟨g, 0, none⟩ (.int .u64 z)) g z y := ⟨heap_setCell_same w g 0 _ _ _ h.blk, grownBy_trans h.gr (grownBy_set _ _ _)⟩
theorem B2.set1 (h : B2 w0 w g x y) (z : Int) : B2 w0 (w.setCell ⟨g, 1, none⟩ (.int .u64 z)) g x z := ⟨heap_setCell_same w g 1 _ _ _ h.blk, grownBy_trans h.gr (grownBy_set _ _ _)⟩
end

theorem wrap_shl (m : Nat) (c : Int) : IntKind.u64.wrap ((m : Int) * 2 ^ min c.toNat 64) = (shlN m c : Int) := by
  rw [IntKind.wrap_u64]
  unfold shlN
  simp
theorem wrap_in {c : Int} (h0 : 0 ≤ c) (h1 : c ≤ 18446744073709551615) : IntKind.u64.wrap c = c := by
  rw [IntKind.wrap_u64]
  omega

theorem gTake_any {w : World} {g : Nat} {L : List Int} (h : Gd 49 w g L) (n : Int) (h0 : 0 ≤ n) (h1 : n ≤ 18446744073709551615) :
    Calls Try.prog 13 #[.pointer (some ⟨g, 0, none⟩), .int .u64 n] w (TakePost w g n L) := by
  by_cases hz : chk n L = 0
  · have hchk := gCheck_any h n h0 h1
    rw [hz] at hchk
    have HP : Hid (∀ w', Gd 49 w' g (L ++ [n]) → w.grownBy w' (some g) → TakePost w g n L (.returned (.int .i64 0)) w') := fun w' h1 h2 => by
      unfold TakePost
      rw [hz, tk_ok hz]
      exact ⟨rfl, h1, h2⟩
    have hn2 : n ≤ 4611686018427387904 := by
      rcases Int.lt_or_le 4611686018427387904 n with h | h
      · rw [chk_over h] at hz; omega
      · exact h
    obtain ⟨t, m, h⟩ := h
    have hc0 := h.cell0
    have hc1 := h.cell1
    have hf0 := h.free 0
    have hf1 := h.free 1
    have hlo := h.win.lo
    have hhi := h.win.hi
    have hlt := h.win.lt
    by_cases hg : t < n
    · obtain ⟨c, hc⟩ : ∃ c, n - t = c := ⟨_, rfl⟩
      have hwc := wrap_in (c := c) (by omega) (by omega)
      have hws := wrap_shl m c
      have hcn : 0 ≤ c := by omega
      have hw0 : IntKind.u64.wrap 0 = 0 := by decide
      have hw1 : IntKind.u64.wrap 1 = 1 := by decide
      obtain ⟨m1, hm1⟩ : ∃ m1, m1 = shlN m c := ⟨_, rfl⟩
      have hm1lt := shlN_lt m c
      have hor : bits .or .u64 (m1 : Int) 1 = ((m1 ||| 1 : Nat) : Int) := bits_or_u64_nat m1 1 (by rw [hm1]; exact hm1lt) (by omega)
      have hwin := h.win.up hg hn2
      rw [hc, ← hm1] at hwin
      rw [← hm1] at hws hm1lt
      have HQ := Lib.hid hwin
      have HH : Hid (B2 w w g t m) := ⟨h.blk, World.grownBy.refl _ _⟩
      clear hwin h hm1 hz
      go_enter Try.func13, Try.ntmps13
      go_wp2_with fail
      refine hchk.mono ?_
      rintro e w' ⟨rfl, rfl⟩
      go_wp2_with fail
      go_still_tail 13, (by kernel_rfl)
      change wpList _ _ _ _ _ w.drew
      have HH2 := Lib.hid HH.out.drew
      have hd0 := HH2.out.cell0
      have hd1 := HH2.out.cell1
      have hk0 := HH2.out.free 0
      have hk1 := HH2.out.free 1
      clear hchk HH hc0 hc1 hf0 hf1
      generalize w.drew = w2 at hd0 hd1 hk0 hk1 HH2 ⊢
      go_wp2_with fail
      have HH4 := Lib.hid ((HH2.out.set1 (m1 : Int)).set0 n)
      clear hd0 hd1 hk0 hk1
      have hd0 := HH4.out.cell0
      have hd1 := HH4.out.cell1
      have hk0 := HH4.out.free 0
      have hk1 := HH4.out.free 1
      generalize World.setCell _ _ _ = w4 at hd0 hd1 hk0 hk1 HH4 ⊢
      have HH3 := Lib.hid HH4.out.drew
      have hc0 := HH3.out.cell0
      have hc1 := HH3.out.cell1
      have hf0 := HH3.out.free 0
      have hf1 := HH3.out.free 1
      go_still_tail 14, (by kernel_rfl)
      change wpList _ _ _ _ _ w4.drew
      clear HH2 HH4 hd0 hd1 hk0 hk1
      generalize w4.drew = w3 at hc0 hc1 hf0 hf1 HH3 ⊢
      go_wp2_with fail
      go_ret
      have HX := HH3.out.set1 ((m1 ||| 1 : Nat) : Int)
      exact HP.out _ ⟨n, m1 ||| 1, HX.blk, HQ.out⟩ HX.gr
    · by_cases hold : 64 ≤ t - n
      · rw [h.win.old h0 hold] at hz; omega
      · obtain ⟨c, hc⟩ : ∃ c, t - n = c := ⟨_, rfl⟩
        have hwc := wrap_in (c := c) (by omega) (by omega)
        have hws : IntKind.u64.wrap (2 ^ c.toNat) = (shlN 1 c : Int) := by
          have := wrap_shl 1 c
          rw [show min c.toNat 64 = c.toNat by omega] at this
          simpa using this
        obtain ⟨m1, hm1⟩ : ∃ m1, m1 = shlN 1 c := ⟨_, rfl⟩
        have hm1lt := shlN_lt 1 c
        have hor := bits_or_u64_nat m m1 hlt (by rw [hm1]; exact hm1lt)
        have hwin := h.win.in_ h0 (by omega) (by omega)
        rw [hc, ← hm1] at hwin
        rw [← hm1] at hws hm1lt
        have HQ := Lib.hid hwin
        have HH : Hid (B2 w w g t m) := ⟨h.blk, World.grownBy.refl _ _⟩
        clear hwin h hm1 hz
        go_enter Try.func13, Try.ntmps13
        go_wp2_with fail
        refine hchk.mono ?_
        rintro e w' ⟨rfl, rfl⟩
        go_wp2_with fail
        go_still_tail 14, (by kernel_rfl)
        change wpList _ _ _ _ _ w.drew
        have HH3 := Lib.hid HH.out.drew
        have hd0 := HH3.out.cell0
        have hd1 := HH3.out.cell1
        have hk0 := HH3.out.free 0
        have hk1 := HH3.out.free 1
        clear hchk HH hc0 hc1 hf0 hf1
        generalize w.drew = w3 at hd0 hd1 hk0 hk1 HH3 ⊢
        go_wp2_with fail
        go_ret
        have HX := HH3.out.set1 ((m ||| m1 : Nat) : Int)
        exact HP.out _ ⟨t, m ||| m1, HX.blk, HQ.out⟩ HX.gr
  · have hchk := gCheck_any h n h0 h1
    obtain ⟨e0, he0⟩ : ∃ e0, chk n L = e0 := ⟨_, rfl⟩
    rw [he0] at hchk hz
    have HP : TakePost w g n L (.returned (.int .i64 e0)) w := by
      unfold TakePost
      rw [he0, tk_no (by rw [he0]; exact hz)]
      exact ⟨rfl, h, World.grownBy.refl _ _⟩
    have t1 : (e0 != 0) = true := by simpa using hz
    clear hz he0 h
    go_enter Try.func13, Try.ntmps13
    go_wp2_with fail
    refine hchk.mono ?_
    rintro e w' ⟨rfl, rfl⟩
    go_wp2_with fail
    go_ret
    exact HP

theorem gTop_any {w : World} {g : Nat} {L : List Int} (h : Gd 49 w g L) :
    Calls Try.prog 14 #[.pointer (some ⟨g, 0, none⟩)] w fun e w' => e = .returned (.tuple #[.int .u64 (topL L), .bool (!L.isEmpty)]) ∧ ∃ q, w' = w.drewN q := by
  obtain ⟨t, m, h⟩ := h
  have hc0 := h.cell0
  have hc1 := h.cell1
  have hz : ((m : Int) != 0) = !L.isEmpty := by
    have := h.win.zero
    cases L with
    | nil => simp at this; simp [this]
    | cons x r => simp at this; simpa using this
  have HT := Lib.hid h.win.top
  clear h
  go_enter Try.func14, Try.ntmps14
  go_wp2_with fail
  go_quiet (fail)
  go_wp2_with fail
  exact bodyPost_ret (v := .tuple #[.int .u64 t, .bool (!L.isEmpty)]) (by simp [results, Try.results14, go_sem]) rfl ⟨by rw [HT.out], _, rfl⟩
end Go.Proofs.Ytkmobiggcehpbaa
