/-
  The chapter's examples, which every statement of layer 1 asks: they answer true, and leave old memory as it was.
-/
import Derived.Test.YtjgcfiffbibonaaWireRead
import Derived.Test.YtjgcfiffbibonaaWireVar
import Derived.Test.YtjgcfiffbibonaaWireNum
namespace Go.Proofs.Ytjgcfiffbibonaa
open Go.RowKit

theorem ex_text : text1 [2, 7, 8, 9] 0 5 = ([7, 8], [9], 0) := by decide
theorem ex_var : varL 300 = [172, 2] := by decide
theorem ex_num : numS 258 3 = [0, 1, 2] := by decide

theorem below_drewN' {B : Nat} {a w : World} (h : Below B a w) (q : Nat) : Below B a (w.drewN q) := ⟨h.os, h.tape, h.output, h.size, h.block⟩

theorem fixed_any (w : World) : Calls Try.prog 12 #[] w fun e w' => e = .returned (.bool true) ∧ Below w.heap.size w w' := by
  have hs0 := Lib.hid (Sb.lit w 5 [2, 7, 8, 9] 4 #[.int .u8 2, .int .u8 7, .int .u8 8, .int .u8 9] rfl rfl (by unfold maxLen; omega))
  go_enter Try.func12, Try.ntmps12
  go_wp2_with fail
  refine (new_any hs0.out (by omega)).mono ?_
  rintro e w1 ⟨r, A, n, c, rfl, hr, hb⟩
  go_wp2_with fail
  refine (rtext_any hr (fun z hz => by simp at hz; omega) (by have := hr.sb.len; simp at this; omega) 5 (by omega)).mono ?_
  rintro e w2 ⟨v, rfl, ⟨A1, n1, c1, rfl, hf⟩, ⟨A2, n2, c2, hr2⟩, hg⟩
  rw [ex_text] at hf hr2
  obtain rfl : 2 = n1 := by simpa using hf.len
  obtain rfl : 1 = n2 := by simpa using hr2.sb.len
  obtain ⟨g, rfl, hg1, hg2, hcell⟩ := hf.head (by omega)
  have c0 : w2.cell? ⟨g, 0, none⟩ = some (.int .u8 7) := hcell 0 (by omega)
  have c1 : w2.cell? ⟨g, 1, none⟩ = some (.int .u8 8) := hcell 1 (by omega)
  have hlo := hr.lo
  simp only [World.size_alloc] at hb hlo
  have hb1 : Below w.heap.size w w1 := ((Below.refl _ _).alloc (Nat.le_refl _) _).trans (hb.mono (by omega))
  have hb2 : Below w.heap.size w w2 := hb1.grown hg hb1.size (fun k hk => by cases hk; omega)
  have HX := Lib.hid (And.intro hr2 hb2)
  clear hcell hb hlo hb1 hb2 hg hr hf hs0 hr2
  go_wp2_with fail
  refine (left_any HX.out.1).mono ?_
  rintro e w' ⟨rfl, rfl⟩
  go_wp2_with fail
  refine (end_any HX.out.1).mono ?_
  rintro e w' ⟨rfl, rfl⟩
  have he : endE 0 1 = 6 := by decide
  simp only [he]
  go_wp2_with fail
  refine (var_any 300 _ (by omega) (by omega)).mono ?_
  rintro e w3 ⟨v, rfl, A3, n3, c3, rfl, h3⟩
  rw [ex_var] at h3
  obtain rfl : 2 = n3 := by simpa using h3.len
  have hb3 := HX.out.2.trans (h3.below.mono HX.out.2.size)
  have HY := Lib.hid (And.intro h3.sb hb3)
  clear h3 hb3 HX c0 c1 he
  go_wp2_with fail
  refine (same_true (HY.out.1.alloc _) (Sb.lit w3 5 [172, 2] 2 #[.int .u8 172, .int .u8 2] rfl rfl (by unfold maxLen; omega)) (by omega)).mono ?_
  rintro e w4 ⟨rfl, q, rfl⟩
  go_wp2_with fail
  refine (num_any 258 3 _ (by omega) (by omega)).mono ?_
  rintro e w5 ⟨v, rfl, A5, n5, c5, rfl, h5⟩
  rw [ex_num] at h5
  obtain rfl : 3 = n5 := by simpa using h5.len
  have hb4 : Below w.heap.size w w5 := below_drewN' (HY.out.2.alloc HY.out.2.size _) q |>.trans (h5.below.mono (by have := HY.out.2.size; simp; omega))
  have HZ := Lib.hid (And.intro h5.sb hb4)
  clear h5 hb4 HY
  go_wp2_with fail
  refine (same_true (HZ.out.1.alloc _) (Sb.lit w5 5 [0, 1, 2] 3 #[.int .u8 0, .int .u8 1, .int .u8 2] rfl rfl (by unfold maxLen; omega)) (by omega)).mono ?_
  rintro e w6 ⟨rfl, q6, rfl⟩
  go_wp2
  go_ret
  exact ⟨rfl, below_drewN' (HZ.out.2.alloc HZ.out.2.size _) q6⟩

end Go.Proofs.Ytjgcfiffbibonaa
