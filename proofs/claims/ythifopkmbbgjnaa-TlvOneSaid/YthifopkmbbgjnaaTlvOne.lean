/-
  Proved: TlvOne answers true for all bytes.
-/
import Derived.Test.YthifopkmbbgjnaaOpen
import Derived.Test.YthifopkmbbgjnaaTlvFixed
import Derived.WalkKit
namespace Go.Proofs.Ythifopkmbbgjnaa.tlvOne
open Go.ChangeShapes Go.WideShapes Go.ChangeAt Go.RowKit

/-- The walk. -/
theorem walk {A : Option Addr} {n c : Nat} {zs : List Int} (w : World) (hs : Sb w A n zs) (hu : U8s zs) (hn : n ≤ 140737488351232) :
    Calls Try.prog 6 #[.slice A n c] w fun e w' => e = .returned (.bool true) ∧ Below w.heap.size w w' := by
  have H := Lib.hid (And.intro hs hu)
  clear hs hu
  go_enter Try.func6, Try.ntmps6
  go_wp2_with fail
  refine (decode_any H.out.1 H.out.2 (by omega)).mono ?_
  rintro e w1 ⟨hb1, he⟩
  cases hq : decS zs with
  | bad c1 E =>
    rw [hq] at he
    subst he
    have t : (E != 0) = true := by simpa using decS_ne H.out.2 hq
    have X := Lib.hid hb1
    clear hb1 hq
    go_wp2_with fail
    refine (fixed_any _).mono ?_
    rintro e w3 ⟨rfl, hb3⟩
    have bb := X.out.trans (hb3.mono X.out.size)
    clear hb3
    go_wp2_with fail
    go_ret
    exact ⟨rfl, bb⟩
  | ok c1 l =>
    rw [hq] at he
    obtain ⟨A1, n1, cp1, rfl, hi⟩ := he
    have henc := dec_enc H.out.2 hq
    have X := Lib.hid (And.intro hb1 (And.intro hi henc))
    clear hb1 hi henc hq
    go_wp2_with fail
    refine (encode_any X.out.2.1).mono ?_
    rintro e w2 ⟨v2, rfl, A2, n2, c2, rfl, hm2⟩
    rw [X.out.2.2] at hm2 ⊢
    have hl2 : n = n2 := H.out.1.len.symm.trans hm2.len
    subst hl2
    have Y := Lib.hid (And.intro (X.out.1.trans (hm2.below.mono X.out.1.size)) hm2.sb)
    clear hm2
    go_wp2_with fail
    refine (fixed_any _).mono ?_
    rintro e w3 ⟨rfl, hb3⟩
    have Z := Lib.hid (And.intro (Y.out.1.trans (hb3.mono Y.out.1.size)) (Y.out.2.below hb3))
    clear hb3
    have HS := Lib.hid (same_true (c := c2) (c' := c) Z.out.2 (H.out.1.below Z.out.1) (by omega))
    go_wp2_with fail
    refine HS.out.mono ?_
    rintro e w4 ⟨rfl, q, rfl⟩
    have bb := below_drewN' Z.out.1 q
    clear HS
    go_wp2_with fail
    go_ret
    exact ⟨rfl, bb⟩

set_option maxRecDepth 100000 in
theorem lifted (os : Os) (started : os.Started) (H : Type) (enc : TypeId × Value → H) :
    ReturnsInHanded {} Try.checked os 6 .any (Rows.tlvOneSpec.pre6 enc Try.prog Try.f6 Rows.tlvOneRow.domain false) (Rows.tlvOneSpec.post enc Try.prog Try.f6 false true false false) := by
  refine returnsInHanded_of_change_sized (C := Try.checked) own started (by kernel_rfl) Try.func6
    (ChangeSpec.witness6 (enc := enc) (C := Try.checked) false ⟨#[], #[.slice none 0 0], []⟩ 8 (by kernel_rfl) (by kernel_rfl) (by kernel_rfl) (by kernel_rfl)) ?_
  intro W base args ds gs before hval0 hW _ hsz0 _
  have hsz : (DataW.weightsEach Try.prog (Try.f6.params.toList ++ Rows.tlvOneSpec.plain.varTypes Try.prog) (ds ++ gs)).all (· ≤ reachBytes) = true := hsz0
  clear hsz0
  have hval : ∀ (j : Nat) t v, Try.f6.params[j]? = some t → args[j]? = some v → Value.okWide Try.prog W .any base t v := hval0
  have hW' := hW
  obtain ⟨p, q, hA0, hV, rfl, _, _⟩ := hW
  have hA : DataW.TrodAll enc Try.prog W 0 (fun _ => true) true Try.f6.params.toList args.toList ds p := hA0
  rw [Try.params6] at hA hval hsz
  obtain ⟨v0, vs0, d0, ds0, p0, q0, hargs, rfl, rfl, h0, r0⟩ := trodAll_cons hA
  obtain ⟨rfl, rfl, rfl⟩ := trodAll_nil r0
  obtain rfl : args = #[v0] := by cases args; simp_all
  obtain ⟨rfl, rfl⟩ := trodVars_none hV
  have lt0 : ∀ x ∈ p0, x.block < W.heap.size := by obtain ⟨m, hm⟩ := h0; exact DataW.trod_lt m _ _ _ hm
  obtain ⟨A0, n0, c0, z0, rfl, s0, u0, g0⟩ := open_bytes (hval 0 26 v0 rfl rfl) h0
  have m0 := g0 _ _ 0 hsz rfl rfl
  clear hA0 hval0
  refine (walk W s0 u0 m0).mono fun e W' ⟨he, bel⟩ => ?_
  subst he
  exact ⟨_, rfl, _, _, _, [], _, [], hW', trodAll_mk1 (shut_bool Try.underlying4 _), (trodAll_cons_mk (Below.trod laidOut (by kernel_rfl) (of_decide_eq_true (by kernel_rfl)) h0 bel lt0) trodAll_mk0), rfl, bel.frame _, fun h => by cases h⟩

theorem over : Rows.tlvOneRow.holds Try.pinned (OpenSpec.ofChange Rows.tlvOneSpec) :=
  OpenClaim.holds_of_wide 6 Try.f6 rfl rfl rfl rfl rfl rfl rfl ⟨rfl, rfl, rfl, rfl, rfl⟩ rfl rfl rfl rfl rfl (by kernel_rfl) Try.func6 (by kernel_rfl)
    (of_decide_eq_true (by kernel_rfl)) (by unfold Func.isWrapper; first | (rw [if_pos (by decide +kernel)]; kernel_rfl) | (rw [if_neg (by decide +kernel)]; exact ⟨rfl, rfl⟩))
    (fun os started H enc _ => lifted os started H enc)

theorem proved : Rows.TlvOneSaid := over
end Go.Proofs.Ythifopkmbbgjnaa.tlvOne
