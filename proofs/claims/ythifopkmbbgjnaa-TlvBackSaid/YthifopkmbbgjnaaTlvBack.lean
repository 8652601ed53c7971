/-
  Proved: TlvBack answers true for all lists of items.
-/
import Derived.Test.YthifopkmbbgjnaaOpen
import Derived.Test.YthifopkmbbgjnaaTlvFixed
import Derived.Test.YthifopkmbbgjnaaTlvRefCheck
import Derived.Test.YthifopkmbbgjnaaTlvOpen
import Derived.Test.YthifopkmbbgjnaaTlvDecBack
import Derived.WalkKit
namespace Go.Proofs.Ythifopkmbbgjnaa.tlvBack
open Go.ChangeShapes Go.WideShapes Go.ChangeAt Go.RowKit

theorem its_by {w : World} {S : Nat → Prop} (d : Nat) : ∀ {A : Option Addr} {n c : Nat} {l : List It}, Its w S d A n c l → byL l := by
  induction d with
  | zero => intro A n c l h; obtain ⟨_, rfl, _⟩ := h; rw [byL]; trivial
  | succ d ih =>
    intro A n c l h
    refine byL_mk fun x hx => ?_
    obtain ⟨k, hk⟩ := List.mem_iff_getElem?.1 hx
    obtain ⟨ad, B, bn, bc, C, cn, cc, _, _, _, hat⟩ := h.get hk
    rw [byI_eq]
    exact ⟨hat.b.u8, ih hat.i⟩

/-- The walk. -/
theorem walk {A : Option Addr} {n c : Nat} {l : List It} (w : World) (hs : (∃ m, Its w (fun _ => True) m A n c l) ∧ wfK l ∧ n ≤ 140737488351232) :
    Calls Try.prog 5 #[.slice A n c] w fun e w' => e = .returned (.bool true) ∧ Below w.heap.size w w' := by
  obtain ⟨⟨m, hi⟩, _, _⟩ := hs
  have H := Lib.hid hi
  have HBY := Lib.hid (its_by m hi)
  obtain ⟨sb, hsb⟩ : ∃ sb, sb = smallB l := ⟨_, rfl⟩
  have HS := Lib.hid hsb
  clear hi hsb
  go_enter Try.func5, Try.ntmps5
  go_wp2_with fail
  refine (small_any H.out).mono ?_
  rintro e w1 ⟨rfl, hb1⟩
  rw [← HS.out]
  have X1 := Lib.hid hb1
  clear hb1
  cases sb with
  | false =>
    go_wp2_with fail
    refine (fixed_any _).mono ?_
    rintro e w3 ⟨rfl, hb3⟩
    have bb := X1.out.trans (hb3.mono X1.out.size)
    clear hb3
    go_wp2_with fail
    go_ret
    exact ⟨rfl, bb⟩
  | true =>
    go_wp2_with fail
    refine (encode_any (H.out.stay X1.out.size fun b _ hlt => X1.out.block b hlt)).mono ?_
    rintro e w2 ⟨v2, rfl, A2, n2, c2, rfl, hm2⟩
    have X2 := Lib.hid (And.intro (X1.out.trans (hm2.below.mono X1.out.size)) (And.intro hm2.sb hm2.len))
    clear hm2
    obtain ⟨E, hE⟩ : ∃ E, E = (encS l).2 := ⟨_, rfl⟩
    rw [← hE]
    by_cases h0 : E = 0
    · have t0 : (E != 0) = false := by simpa using h0
      obtain ⟨cq, hq⟩ := enc_dec HBY.out (by rw [← hE]; exact h0)
      have hu8 : U8s (encS l).1 := by
        have h5 : (encS l).2 = 0 := by rw [← hE]; exact h0
        unfold encS at h5 ⊢
        split at h5
        · rename_i h6; exact absurd h5 h6
        · rename_i h6
          rw [if_neg h6]
          split at h5
          · rename_i h7
            rw [if_pos h7]
            exact itsB_u8 l HBY.out (chkL_ok l 1 0 0 (Int.le_refl 0) (by omega) (Classical.not_not.1 h6)).1 (by omega)
          · simp at h5
      have hlen : n2 ≤ 4096 := by
        have h5 := X2.out.2.2
        unfold encS at h5
        split at h5
        · simp at h5; omega
        · split at h5
          · have h6 : (itsB l).length = n2 := h5
            omega
          · simp at h5; omega
      have HQ := Lib.hid (And.intro hq (And.intro hu8 (And.intro hE h0)))
      clear h0 hq hu8 hE
      go_wp2_with fail
      refine (decode_any X2.out.2.1 HQ.out.2.1 (by omega)).mono ?_
      rintro e w3 ⟨hb3, he⟩
      rw [HQ.out.1] at he
      obtain ⟨A3, n3, c3, rfl, hi3⟩ := he
      have X3 := Lib.hid (And.intro (X2.out.1.trans (hb3.mono X2.out.1.size)) hi3)
      clear hb3 hi3
      go_wp2_with fail
      refine (fixed_any _).mono ?_
      rintro e w4 ⟨rfl, hb4⟩
      have X4 := Lib.hid (And.intro (X3.out.1.trans (hb4.mono X3.out.1.size)) (X3.out.2.below hb4))
      clear hb4
      obtain rfl : n3 = n := X3.out.2.len.symm.trans H.out.len
      have HC := Lib.hid (sameIts_any 4 m w4 _ _ A3 A n3 c3 c l X4.out.2 (H.out.stay X4.out.1.size fun b _ hlt => X4.out.1.block b hlt))
      go_wp2_with fail
      refine HC.out.mono ?_
      rintro e w5 ⟨rfl, q, rfl⟩
      have bb := below_drewN' X4.out.1 q
      clear HC
      go_wp2_with fail
      go_ret
      exact ⟨rfl, bb⟩
    · have t0 : (E != 0) = true := by simpa using h0
      have HQ := Lib.hid (And.intro hE h0)
      clear h0 hE
      go_wp2_with fail
      refine (fixed_any _).mono ?_
      rintro e w3 ⟨rfl, hb3⟩
      have X3 := Lib.hid (X2.out.1.trans (hb3.mono X2.out.1.size))
      clear hb3
      have HC := Lib.hid (refCheck_any (H.out.stay X3.out.size fun b _ hlt => X3.out.block b hlt))
      go_wp2_with fail
      refine HC.out.mono ?_
      rintro e w4 ⟨rfl, hb4⟩
      rw [← HQ.out.1]
      have bb := X3.out.trans (hb4.mono X3.out.size)
      clear HC hb4
      go_wp2_with fail
      go_ret
      exact ⟨rfl, bb⟩

set_option maxRecDepth 100000 in
theorem lifted (os : Os) (started : os.Started) (H : Type) (enc : TypeId × Value → H) :
    ReturnsInHanded {} Try.checked os 5 .any (Rows.tlvBackSpec.pre6 enc Try.prog Try.f5 Rows.tlvBackRow.domain false) (Rows.tlvBackSpec.post enc Try.prog Try.f5 false true false false) := by
  refine returnsInHanded_of_change_sized (C := Try.checked) own started (by kernel_rfl) Try.func5
    (ChangeSpec.witness6 (enc := enc) (C := Try.checked) false ⟨#[], #[.slice none 0 0], []⟩ 8 (by kernel_rfl) (by kernel_rfl) (by kernel_rfl) (by kernel_rfl)) ?_
  intro W base args ds gs before hval0 hW _ hsz0 _
  have hsz : (DataW.weightsEach Try.prog (Try.f5.params.toList ++ Rows.tlvBackSpec.plain.varTypes Try.prog) (ds ++ gs)).all (· ≤ reachBytes) = true := hsz0
  clear hsz0
  have hval : ∀ (j : Nat) t v, Try.f5.params[j]? = some t → args[j]? = some v → Value.okWide Try.prog W .any base t v := hval0
  have hW' := hW
  obtain ⟨p, q, hA0, hV, rfl, _, _⟩ := hW
  have hA : DataW.TrodAll enc Try.prog W 0 (fun _ => true) true Try.f5.params.toList args.toList ds p := hA0
  rw [Try.params5] at hA hval hsz
  obtain ⟨v0, vs0, d0, ds0, p0, q0, hargs, rfl, rfl, h0, r0⟩ := trodAll_cons hA
  obtain ⟨rfl, rfl, rfl⟩ := trodAll_nil r0
  obtain rfl : args = #[v0] := by cases args; simp_all
  obtain ⟨rfl, rfl⟩ := trodVars_none hV
  have lt0 : ∀ x ∈ p0, x.block < W.heap.size := by obtain ⟨m, hm⟩ := h0; exact DataW.trod_lt m _ _ _ hm
  obtain ⟨A0, n0, c0, l0, rfl, s0⟩ := open_items (weights_at hsz (j := 0) rfl rfl) (hval 0 22 v0 rfl rfl) h0
  clear hA0 hval0
  refine (walk W s0).mono fun e W' ⟨he, bel⟩ => ?_
  subst he
  exact ⟨_, rfl, _, _, _, [], _, [], hW', trodAll_mk1 (shut_bool Try.underlying4 _), (trodAll_cons_mk (Below.trod laidOut (by kernel_rfl) (of_decide_eq_true (by kernel_rfl)) h0 bel lt0) trodAll_mk0), rfl, bel.frame _, fun h => by cases h⟩

theorem over : Rows.tlvBackRow.holds Try.pinned (OpenSpec.ofChange Rows.tlvBackSpec) :=
  OpenClaim.holds_of_wide 5 Try.f5 rfl rfl rfl rfl rfl rfl rfl ⟨rfl, rfl, rfl, rfl, rfl⟩ rfl rfl rfl rfl rfl (by kernel_rfl) Try.func5 (by kernel_rfl)
    (of_decide_eq_true (by kernel_rfl)) (by unfold Func.isWrapper; first | (rw [if_pos (by decide +kernel)]; kernel_rfl) | (rw [if_neg (by decide +kernel)]; exact ⟨rfl, rfl⟩))
    (fun os started H enc _ => lifted os started H enc)

theorem proved : Rows.TlvBackSaid := over
end Go.Proofs.Ythifopkmbbgjnaa.tlvBack
