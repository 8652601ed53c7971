/-
  Proved: WirePuts answers true for every number, every size and all bytes.
-/
import Derived.Test.YtjgcfiffbibonaaOpen
import Derived.Test.YtjgcfiffbibonaaWireFixed
import Derived.WalkKit
namespace Go.Proofs.Ytjgcfiffbibonaa.wirePuts
open Go.ChangeShapes Go.WideShapes Go.ChangeAt Go.RowKit

theorem textS_len (zs : List Int) : (textS zs).length ≤ 5000 := by
  unfold textS
  split
  · have := varL_len zs.length; simp; omega
  · simp

/-- The walk. -/
theorem walk {a0 a1 : Int} {A : Option Addr} {n c : Nat} {zs : List Int} (w : World) (w0 : (Lit.int .u64 a0).wf = true) (_ : (Lit.int .i64 a1).wf = true) (hs : Sb w A n zs) (_ : U8s zs) (hn : n ≤ 140737488351232) :
    Calls Try.prog 3 #[.int .u64 a0, .int .i64 a1, .slice A n c] w fun e w' => e = .returned (.bool true) ∧ Below w.heap.size w w' := by
  obtain ⟨hb1, hb2⟩ := bounds_u64 w0
  clear w0
  go_enter Try.func3, Try.ntmps3
  go_wp2_with fail
  refine (copy_any hs (by omega)).mono ?_
  rintro e w1 ⟨g, rfl, hown, hbel⟩
  have X1 := Lib.hid (And.intro hbel (And.intro (Sb.own hown) (hs.below hbel)))
  clear hown hbel
  go_wp2_with fail
  refine (text_any X1.out.2.1 (by omega)).mono ?_
  rintro e w2 ⟨v, rfl, A2, n2, c2, rfl, h2⟩
  have X2 := Lib.hid (And.intro (X1.out.1.trans (h2.below.mono X1.out.1.size)) (And.intro h2.sb (And.intro (X1.out.2.1.below h2.below) (X1.out.2.2.below h2.below))))
  have E2 := Lib.hid h2.len
  clear h2 X1
  go_wp2_with fail
  refine (refText_any X2.out.2.2.2 (by omega)).mono ?_
  rintro e w3 ⟨v, rfl, A3, n3, c3, rfl, h3⟩
  have B3 := h3.below
  have X3 := Lib.hid (And.intro (X2.out.1.trans (B3.mono X2.out.1.size)) (And.intro (X2.out.2.1.below B3) (And.intro h3.sb (And.intro (X2.out.2.2.1.below B3) (X2.out.2.2.2.below B3)))))
  obtain rfl : n2 = n3 := E2.out.symm.trans h3.len
  clear h3 X2 B3
  go_wp2_with fail
  refine (fixed_any _).mono ?_
  rintro e w4 ⟨rfl, B4⟩
  have X4 := Lib.hid (And.intro (X3.out.1.trans (B4.mono X3.out.1.size)) (And.intro (X3.out.2.1.below B4) (And.intro (X3.out.2.2.1.below B4) (And.intro (X3.out.2.2.2.1.below B4) (X3.out.2.2.2.2.below B4)))))
  clear X3 B4
  go_wp2_with fail
  refine (same_true X4.out.2.1 X4.out.2.2.1 (by have := E2.out; have := textS_len zs; omega)).mono ?_
  rintro e w5 ⟨rfl, q5, rfl⟩
  go_wp2_with fail
  refine (same_true (X4.out.2.2.2.1.drewN q5) (X4.out.2.2.2.2.drewN q5) (by omega)).mono ?_
  rintro e w6 ⟨rfl, q6, rfl⟩
  go_wp2_with fail
  refine (num_any a0 a1 _ hb1 hb2).mono ?_
  rintro e w7 ⟨v, rfl, A7, n7, c7, rfl, h7⟩
  have E7 := Lib.hid h7.len
  have X7 := Lib.hid (And.intro ((below_drewN' X4.out.1 (q5 + q6)).trans (h7.below.mono X4.out.1.size)) h7.sb)
  clear h7 X4 E2
  go_wp2_with fail
  refine (refNum_any a0 a1 _ hb1 hb2).mono ?_
  rintro e w8 ⟨v, rfl, A8, n8, c8, rfl, h8⟩
  obtain rfl : n7 = n8 := E7.out.symm.trans h8.len
  have X8 := Lib.hid (And.intro (X7.out.1.trans (h8.below.mono X7.out.1.size)) (And.intro (X7.out.2.below h8.below) h8.sb))
  clear h8 X7
  go_wp2_with fail
  refine (same_true X8.out.2.1 X8.out.2.2 (by have := E7.out; have := numS_len a0 a1; omega)).mono ?_
  rintro e w9 ⟨rfl, q9, rfl⟩
  have X9 := Lib.hid (below_drewN' X8.out.1 q9)
  clear X8 E7
  go_wp2_with fail
  refine (var_any a0 _ hb1 hb2).mono ?_
  rintro e w10 ⟨v, rfl, A10, n10, c10, rfl, h10⟩
  have E10 := Lib.hid h10.len
  have X10 := Lib.hid (And.intro (X9.out.trans (h10.below.mono X9.out.size)) h10.sb)
  clear h10 X9
  go_wp2_with fail
  refine (refVar_any a0 _ hb1 hb2).mono ?_
  rintro e w11 ⟨v, rfl, A11, n11, c11, rfl, h11⟩
  obtain rfl : n10 = n11 := E10.out.symm.trans h11.len
  have X11 := Lib.hid (And.intro (X10.out.1.trans (h11.below.mono X10.out.1.size)) (And.intro (X10.out.2.below h11.below) h11.sb))
  clear h11 X10
  go_wp2_with fail
  refine (same_true X11.out.2.1 X11.out.2.2 (by have := E10.out; have := varL_len a0; omega)).mono ?_
  rintro e w12 ⟨rfl, q12, rfl⟩
  have X12 := Lib.hid (below_drewN' X11.out.1 q12)
  go_wp2
  go_ret
  exact ⟨rfl, X12.out⟩

set_option maxRecDepth 100000 in
theorem lifted (os : Os) (started : os.Started) (H : Type) (enc : TypeId × Value → H) :
    ReturnsInHanded {} Try.checked os 3 .any (Rows.wirePutsSpec.pre6 enc Try.prog Try.f3 Rows.wirePutsRow.domain false) (Rows.wirePutsSpec.post enc Try.prog Try.f3 false true false false) := by
  refine returnsInHanded_of_change_sized (C := Try.checked) own started (by kernel_rfl) Try.func3
    (ChangeSpec.witness6 (enc := enc) (C := Try.checked) false ⟨#[], #[.int .u64 0, .int .i64 0, .slice none 0 0], []⟩ 8 (by kernel_rfl) (by kernel_rfl) (by kernel_rfl) (by kernel_rfl)) ?_
  intro W base args ds gs before hval0 hW _ hsz0 _
  have hsz : (DataW.weightsEach Try.prog (Try.f3.params.toList ++ Rows.wirePutsSpec.plain.varTypes Try.prog) (ds ++ gs)).all (· ≤ reachBytes) = true := hsz0
  clear hsz0
  have hval : ∀ (j : Nat) t v, Try.f3.params[j]? = some t → args[j]? = some v → Value.okWide Try.prog W .any base t v := hval0
  have hW' := hW
  obtain ⟨p, q, hA0, hV, rfl, _, _⟩ := hW
  have hA : DataW.TrodAll enc Try.prog W 0 (fun _ => true) true Try.f3.params.toList args.toList ds p := hA0
  rw [Try.params3] at hA hval hsz
  obtain ⟨v0, vs0, d0, ds0, p0, q0, hargs, rfl, rfl, h0, r0⟩ := trodAll_cons hA
  obtain ⟨v1, vs1, d1, ds1, p1, q1, rfl, rfl, rfl, h1, r1⟩ := trodAll_cons r0
  obtain ⟨v2, vs2, d2, ds2, p2, q2, rfl, rfl, rfl, h2, r2⟩ := trodAll_cons r1
  obtain ⟨rfl, rfl, rfl⟩ := trodAll_nil r2
  obtain rfl : args = #[v0, v1, v2] := by cases args; simp_all
  obtain ⟨rfl, rfl⟩ := trodVars_none hV
  obtain ⟨a0, rfl, rfl, rfl, w0⟩ := open_int Try.underlying22 (hval 0 22 v0 rfl rfl) h0
  obtain ⟨a1, rfl, rfl, rfl, w1⟩ := open_int Try.underlying3 (hval 1 3 v1 rfl rfl) h1
  have lt2 : ∀ x ∈ p2, x.block < W.heap.size := by obtain ⟨m, hm⟩ := h2; exact DataW.trod_lt m _ _ _ hm
  obtain ⟨A2, n2, c2, z2, rfl, s2, u2, g2⟩ := open_bytes (hval 2 23 v2 rfl rfl) h2
  have m2 := g2 _ _ 2 hsz rfl rfl
  clear hA0 hval0
  refine (walk W w0 w1 s2 u2 m2).mono fun e W' ⟨he, bel⟩ => ?_
  subst he
  exact ⟨_, rfl, _, _, _, [], _, [], hW', trodAll_mk1 (shut_bool Try.underlying4 _), (trodAll_cons_mk (shut_int Try.underlying22 w0) (trodAll_cons_mk (shut_int Try.underlying3 w1) (trodAll_cons_mk (Below.trod laidOut (by kernel_rfl) (of_decide_eq_true (by kernel_rfl)) h2 bel lt2) trodAll_mk0))), rfl, bel.frame _, fun h => by cases h⟩

theorem over : Rows.wirePutsRow.holds Try.pinned (OpenSpec.ofChange Rows.wirePutsSpec) :=
  OpenClaim.holds_of_wide 3 Try.f3 rfl rfl rfl rfl rfl rfl rfl ⟨rfl, rfl, rfl, rfl, rfl⟩ rfl rfl rfl rfl rfl (by kernel_rfl) Try.func3 (by kernel_rfl)
    (of_decide_eq_true (by kernel_rfl)) (by unfold Func.isWrapper; first | (rw [if_pos (by decide +kernel)]; kernel_rfl) | (rw [if_neg (by decide +kernel)]; exact ⟨rfl, rfl⟩))
    (fun os started H enc _ => lifted os started H enc)

theorem proved : Rows.WirePutsSaid := over
end Go.Proofs.Ytjgcfiffbibonaa.wirePuts
