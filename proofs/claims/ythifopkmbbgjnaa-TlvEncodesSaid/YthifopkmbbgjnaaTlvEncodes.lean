/-
  Proved: TlvEncodes answers true for all lists of items.
-/
import Derived.Test.YthifopkmbbgjnaaOpen
import Derived.Test.YthifopkmbbgjnaaTlvFixed
import Derived.Test.YthifopkmbbgjnaaTlvRefEnc
import Derived.Test.YthifopkmbbgjnaaTlvOpen
import Derived.Test.YthifopkmbbgjnaaTlvCopy
import Derived.WalkKit
namespace Go.Proofs.Ythifopkmbbgjnaa.tlvEncodes
open Go.ChangeShapes Go.WideShapes Go.ChangeAt Go.RowKit

/-- The walk. -/
theorem walk {A : Option Addr} {n c : Nat} {l : List It} (w : World) (hs : (∃ m, Its w (fun _ => True) m A n c l) ∧ wfK l ∧ n ≤ 140737488351232) :
    Calls Try.prog 3 #[.slice A n c] w fun e w' => e = .returned (.bool true) ∧ Below w.heap.size w w' := by
  obtain ⟨⟨m, hi⟩, _, _⟩ := hs
  have H := Lib.hid hi
  obtain ⟨sb, hsb⟩ : ∃ sb, sb = smallB l := ⟨_, rfl⟩
  have HS := Lib.hid hsb
  clear hi hsb
  go_enter Try.func3, Try.ntmps3
  go_wp2_with fail
  refine (small_any H.out).mono ?_
  rintro e w1 ⟨rfl, hb1⟩
  rw [← HS.out]
  have X1 := Lib.hid hb1
  clear hb1
  cases sb with
  | false =>
    go_wp2_with fail
    refine (fixed_any _).mono ?_
    rintro e w3 ⟨rfl, hb3⟩
    have bb := X1.out.trans (hb3.mono X1.out.size)
    clear hb3
    go_wp2_with fail
    go_ret
    exact ⟨rfl, bb⟩
  | true =>
    have hsm := small_sml HS.out.symm
    have hn400 : n ≤ 400 := by have := H.out.len; omega
    have HCP := Lib.hid (copyIts_any m w1 _ A n c l (H.out.stay X1.out.size fun b _ hlt => X1.out.block b hlt) (sml_lenL 4 l hsm.2) hn400)
    clear hsm
    go_wp2_with fail
    refine HCP.out.mono ?_
    rintro e w2 ⟨hb2, A2, n2, c2, rfl, hi2⟩
    obtain rfl : n = n2 := H.out.len.symm.trans hi2.len
    have X2 := Lib.hid (And.intro (X1.out.trans (hb2.mono X1.out.size)) hi2)
    clear hb2 hi2 HCP
    go_wp2_with fail
    refine (encode_any X2.out.2).mono ?_
    rintro e w3 ⟨v3, rfl, A3, n3, c3, rfl, hm3⟩
    have X3 := Lib.hid (And.intro (X2.out.1.trans (hm3.below.mono X2.out.1.size)) (And.intro (X2.out.2.below hm3.below) (And.intro hm3.sb hm3.len)))
    clear hm3
    go_wp2_with fail
    refine (refEncode_any (H.out.stay X3.out.1.size fun b _ hlt => X3.out.1.block b hlt)).mono ?_
    rintro e w4 ⟨v4, rfl, A4, n4, c4, rfl, hm4⟩
    obtain rfl : n3 = n4 := X3.out.2.2.2.symm.trans hm4.len
    have X4 := Lib.hid (And.intro (X3.out.1.trans (hm4.below.mono X3.out.1.size)) (And.intro (X3.out.2.1.below hm4.below) (And.intro (X3.out.2.2.1.below hm4.below) hm4.sb)))
    have hn3 : n3 ≤ 9223372036854775807 := by have := hm4.le; have := hm4.max; unfold maxLen at this; omega
    clear hm4
    obtain ⟨E, hE⟩ : ∃ E, E = (encS l).2 := ⟨_, rfl⟩
    rw [← hE]
    have HE := Lib.hid hE
    clear hE
    have tE : (E == E) = true := by simp
    go_wp2_with fail
    refine (fixed_any _).mono ?_
    rintro e w5 ⟨rfl, hb5⟩
    have X5 := Lib.hid (And.intro (X4.out.1.trans (hb5.mono X4.out.1.size)) (And.intro (X4.out.2.1.below hb5) (And.intro (X4.out.2.2.1.below hb5) (X4.out.2.2.2.below hb5))))
    clear hb5
    have HC5 := Lib.hid (same_true (c := c3) (c' := c4) X5.out.2.2.1 X5.out.2.2.2 hn3)
    go_wp2_with fail
    refine HC5.out.mono ?_
    rintro e w6 ⟨rfl, q, rfl⟩
    have X6 := Lib.hid (And.intro (below_drewN' X5.out.1 q) (X5.out.2.1.drewN q))
    clear HC5
    go_wp2_with fail
    refine (tlvCheck_any X6.out.2).mono ?_
    rintro e w7 ⟨rfl, hb7⟩
    rw [← HE.out]
    have X7 := Lib.hid (And.intro (X6.out.1.trans (hb7.mono X6.out.1.size)) (X6.out.2.below hb7))
    clear hb7
    have HC7 := Lib.hid (sameIts_any m m w7 _ _ A2 A n c2 c l X7.out.2 (H.out.stay X7.out.1.size fun b _ hlt => X7.out.1.block b hlt))
    go_wp2_with fail
    refine HC7.out.mono ?_
    rintro e w8 ⟨rfl, q, rfl⟩
    have bb := below_drewN' X7.out.1 q
    clear HC7
    go_wp2_with fail
    go_ret
    exact ⟨rfl, bb⟩

set_option maxRecDepth 100000 in
theorem lifted (os : Os) (started : os.Started) (H : Type) (enc : TypeId × Value → H) :
    ReturnsInHanded {} Try.checked os 3 .any (Rows.tlvEncodesSpec.pre6 enc Try.prog Try.f3 Rows.tlvEncodesRow.domain false) (Rows.tlvEncodesSpec.post enc Try.prog Try.f3 false true false false) := by
  refine returnsInHanded_of_change_sized (C := Try.checked) own started (by kernel_rfl) Try.func3
    (ChangeSpec.witness6 (enc := enc) (C := Try.checked) false ⟨#[], #[.slice none 0 0], []⟩ 8 (by kernel_rfl) (by kernel_rfl) (by kernel_rfl) (by kernel_rfl)) ?_
  intro W base args ds gs before hval0 hW _ hsz0 _
  have hsz : (DataW.weightsEach Try.prog (Try.f3.params.toList ++ Rows.tlvEncodesSpec.plain.varTypes Try.prog) (ds ++ gs)).all (· ≤ reachBytes) = true := hsz0
  clear hsz0
  have hval : ∀ (j : Nat) t v, Try.f3.params[j]? = some t → args[j]? = some v → Value.okWide Try.prog W .any base t v := hval0
  have hW' := hW
  obtain ⟨p, q, hA0, hV, rfl, _, _⟩ := hW
  have hA : DataW.TrodAll enc Try.prog W 0 (fun _ => true) true Try.f3.params.toList args.toList ds p := hA0
  rw [Try.params3] at hA hval hsz
  obtain ⟨v0, vs0, d0, ds0, p0, q0, hargs, rfl, rfl, h0, r0⟩ := trodAll_cons hA
  obtain ⟨rfl, rfl, rfl⟩ := trodAll_nil r0
  obtain rfl : args = #[v0] := by cases args; simp_all
  obtain ⟨rfl, rfl⟩ := trodVars_none hV
  have lt0 : ∀ x ∈ p0, x.block < W.heap.size := by obtain ⟨m, hm⟩ := h0; exact DataW.trod_lt m _ _ _ hm
  obtain ⟨A0, n0, c0, l0, rfl, s0⟩ := open_items (weights_at hsz (j := 0) rfl rfl) (hval 0 22 v0 rfl rfl) h0
  clear hA0 hval0
  refine (walk W s0).mono fun e W' ⟨he, bel⟩ => ?_
  subst he
  exact ⟨_, rfl, _, _, _, [], _, [], hW', trodAll_mk1 (shut_bool Try.underlying4 _), (trodAll_cons_mk (Below.trod laidOut (by kernel_rfl) (of_decide_eq_true (by kernel_rfl)) h0 bel lt0) trodAll_mk0), rfl, bel.frame _, fun h => by cases h⟩

theorem over : Rows.tlvEncodesRow.holds Try.pinned (OpenSpec.ofChange Rows.tlvEncodesSpec) :=
  OpenClaim.holds_of_wide 3 Try.f3 rfl rfl rfl rfl rfl rfl rfl ⟨rfl, rfl, rfl, rfl, rfl⟩ rfl rfl rfl rfl rfl (by kernel_rfl) Try.func3 (by kernel_rfl)
    (of_decide_eq_true (by kernel_rfl)) (by unfold Func.isWrapper; first | (rw [if_pos (by decide +kernel)]; kernel_rfl) | (rw [if_neg (by decide +kernel)]; exact ⟨rfl, rfl⟩))
    (fun os started H enc _ => lifted os started H enc)

theorem proved : Rows.TlvEncodesSaid := over
end Go.Proofs.Ythifopkmbbgjnaa.tlvEncodes
