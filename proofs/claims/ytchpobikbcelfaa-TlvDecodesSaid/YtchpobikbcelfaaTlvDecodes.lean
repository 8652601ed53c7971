/-
  Proved: TlvDecodes answers true for all bytes.
-/
import Derived.Test.YtchpobikbcelfaaOpen
import Derived.Test.YtchpobikbcelfaaTlvFixed
import Derived.Test.YtchpobikbcelfaaTlvSame
import Derived.Test.YtchpobikbcelfaaTlvRefDec
import Derived.Test.YtchpobikbcelfaaTlvTurnS
import Derived.WalkKit
namespace Go.Proofs.Ytchpobikbcelfaa.tlvDecodes
open Go.ChangeShapes Go.WideShapes Go.ChangeAt Go.RowKit

set_option maxRecDepth 100000 in
set_option maxHeartbeats 3200000 in
/-- The walk. -/
theorem walk {A : Option Addr} {n c : Nat} {zs : List Int} (w : World) (hs : Sb w A n zs) (h8 : U8s zs) (hn : n ≤ 140737488351232) (hc : n ≤ c ∧ c ≤ maxLen) :
    Calls Try.prog 4 #[.slice A n c] w fun e w' => e = .returned (.bool true) ∧ Below w.heap.size w w' := by
  have H := Lib.hid (show Sb w A n zs ∧ U8s zs ∧ n ≤ 140737488351232 ∧ n ≤ c ∧ c ≤ maxLen from ⟨hs, h8, hn, hc⟩)
  have hmx : n ≤ 9223372036854775807 := by omega
  clear hs h8 hn hc
  by_cases hbig : (65536 : Int) < (n : Int)
  · go_enter Try.func4, Try.ntmps4
    go_wp2_with fail
    refine (fixed_any _).mono ?_
    rintro e w3 ⟨rfl, hb3⟩
    go_wp2_with fail
    go_ret
    exact ⟨rfl, hb3⟩
  · go_enter Try.func4, Try.ntmps4
    go_wp2_with fail
    refine (copy_any H.out.1 (by omega)).mono ?_
    rintro e w1 ⟨g, rfl, hown, hb1⟩
    have X1 := Lib.hid (show Below w.heap.size w w1 ∧ Sb w1 (some ⟨g, 0, none⟩) n zs from ⟨hb1, Sb.own hown⟩)
    clear hown hb1
    have HD1 := Lib.hid (decode_any (c := n) X1.out.2 H.out.2.1 (by omega))
    go_wp2_with fail
    refine HD1.out.mono ?_
    intro e w2 hpost
    obtain ⟨hb2, A2, n2, c2, rfl, hi2⟩ := hpost.flat
    have X2 := Lib.hid (show Below w1.heap.size w1 w2 ∧ Its w2 (fun b => w1.heap.size ≤ b ∧ Free w2 b) 4 A2 n2 c2 (drL (decS zs)) from ⟨hb2, hi2⟩)
    have hbw2 := X1.out.1.trans (hb2.mono X1.out.1.size)
    have HD2 := Lib.hid (refDecode_any (w := w2) (H.out.1.below hbw2) H.out.2.1 H.out.2.2.2)
    clear hpost hb2 hi2 hbw2 HD1
    go_wp2_with fail
    refine HD2.out.mono ?_
    rintro e w3 ⟨hb3, A3, n3, c3, rfl, hi3⟩
    obtain rfl : n2 = n3 := X2.out.2.len.symm.trans hi3.len
    obtain ⟨E, hE⟩ : ∃ E, E = drE (decS zs) := ⟨_, rfl⟩
    rw [← hE]
    obtain ⟨L, hL⟩ : ∃ L, L = drL (decS zs) := ⟨_, rfl⟩
    have HL := Lib.hid hL
    rw [← hL] at hi3
    have tE : (E != E) = false := by simp
    have X3 := Lib.hid (show DSit w w1 w2.heap.size A2 n2 c2 A3 c3 L w3 from
      ⟨X1.out.1.trans ((X2.out.1.trans (hb3.mono X2.out.1.size)).mono X1.out.1.size), X2.out.1.trans (hb3.mono X2.out.1.size), (by
        rw [hL]
        exact X2.out.2.move hb3.size fun b hf hlt => ⟨hb3.block b hlt, ⟨hf.1, hlt⟩, free_block hf.2 (hb3.block b hlt)⟩), hi3⟩)
    clear hb3 hi3 HD2 hL hE
    go_wp2_with fail
    refine (fixed_any _).mono ?_
    rintro e w4 ⟨rfl, hb4⟩
    have X4 := Lib.hid (X3.out.more hb4)
    clear hb4 X3
    have HC4 := Lib.hid (sameIts_any 4 4 w4 _ _ A2 A3 n2 c2 c3 L X4.out.i2 X4.out.i3)
    go_wp2_with fail
    refine HC4.out.mono ?_
    rintro e w5 ⟨rfl, q, hw5⟩
    have X5 := Lib.hid (X4.out.more (wr' := w5) (by rw [hw5]; exact below_drewN' (Below.refl _ _) q))
    clear hw5 HC4 X4
    have HC5 := Lib.hid (same_true (c := n) (c' := c) (X1.out.2.below X5.out.b1) (H.out.1.below X5.out.b0) hmx)
    go_wp2_with fail
    refine HC5.out.mono ?_
    rintro e w6 ⟨rfl, q2, hw6⟩
    have X6 := Lib.hid (X5.out.more (wr' := w6) (by rw [hw6]; exact below_drewN' (Below.refl _ _) q2))
    clear hw6 HC5 X5
    have HT := Lib.hid (turn_any _ 4 w6 A2 n2 c2 L X6.out.i2)
    go_wp2_with fail
    refine HT.out.mono ?_
    rintro e w7 ⟨rfl, hal⟩
    have X7 := Lib.hid (show Below w.heap.size w w7 ∧ Below w1.heap.size w1 w7 ∧ Its w7 (fun b => w2.heap.size ≤ b) 4 A3 n2 c3 L from by
      have b1 := X6.out.b1.trans (hal.below (B := w1.heap.size) fun b hb => hb.1)
      refine ⟨X1.out.1.trans (b1.mono X1.out.1.size), b1, X6.out.i3.stay (Nat.le_of_eq hal.size.symm) fun b hb _ => hal.out b fun h => by have := h.2; omega⟩)
    clear hal HT X6
    have HD7 := Lib.hid (decode_any (c := n) (X1.out.2.below X7.out.2.1) H.out.2.1 (by omega))
    go_wp2_with fail
    refine HD7.out.mono ?_
    intro e w8 hpost
    obtain ⟨hb8, A8, n8, c8, rfl, hi8⟩ := hpost.flat
    rw [← HL.out] at hi8
    obtain rfl : n2 = n8 := X7.out.2.2.len.symm.trans hi8.len
    have X8 := Lib.hid (show Below w.heap.size w w8 ∧ Below w1.heap.size w1 w8 ∧ Its w8 (fun b => w2.heap.size ≤ b) 4 A3 n2 c3 L ∧ Its w8 (fun b => w7.heap.size ≤ b ∧ Free w8 b) 4 A8 n2 c8 L from
      ⟨X7.out.1.trans (hb8.mono X7.out.1.size), X7.out.2.1.trans (hb8.mono X7.out.2.1.size), X7.out.2.2.stay hb8.size (fun b _ hlt => hb8.block b hlt), hi8⟩)
    clear hpost hb8 hi8 HD7
    have HC8 := Lib.hid (same_true (c := n) (c' := c) (X1.out.2.below X8.out.2.1) (H.out.1.below X8.out.1) hmx)
    obtain ⟨E2, hE2⟩ : ∃ E2, E2 = drE (decS zs) := ⟨_, rfl⟩
    rw [← hE2]
    clear hE2
    go_wp2_with fail
    refine HC8.out.mono ?_
    rintro e w9 ⟨rfl, q3, hw9⟩
    have b9 : Below w8.heap.size w8 w9 := by rw [hw9]; exact below_drewN' (Below.refl _ _) q3
    have X9 := Lib.hid (show Below w.heap.size w w9 ∧ Its w9 (fun b => w2.heap.size ≤ b) 4 A3 n2 c3 L ∧ Its w9 (fun _ => True) 4 A8 n2 c8 L from
      ⟨X8.out.1.trans (b9.mono X8.out.1.size), X8.out.2.2.1.stay b9.size (fun b _ hlt => b9.block b hlt), (X8.out.2.2.2.stay b9.size (fun b _ hlt => b9.block b hlt)).mono fun _ _ _ => trivial⟩)
    clear hw9 b9 HC8 X8
    have HC9 := Lib.hid (sameIts_any 4 4 w9 _ _ A8 A3 n2 c8 c3 L X9.out.2.2 X9.out.2.1)
    go_wp2_with fail
    refine HC9.out.mono ?_
    rintro e w10 ⟨rfl, q4, rfl⟩
    have bb := below_drewN' X9.out.1 q4
    clear HC9
    go_wp2_with fail
    go_ret
    exact ⟨rfl, bb⟩

set_option maxRecDepth 100000 in
theorem lifted (os : Os) (started : os.Started) (H : Type) (enc : TypeId × Value → H) :
    ReturnsInHanded {} Try.checked os 4 .any (Rows.tlvDecodesSpec.pre6 enc Try.prog Try.f4 Rows.tlvDecodesRow.domain false) (Rows.tlvDecodesSpec.post enc Try.prog Try.f4 false true false false) := by
  refine returnsInHanded_of_change_sized (C := Try.checked) own started (by kernel_rfl) Try.func4
    (ChangeSpec.witness6 (enc := enc) (C := Try.checked) false ⟨#[], #[.slice none 0 0], []⟩ 8 (by kernel_rfl) (by kernel_rfl) (by kernel_rfl) (by kernel_rfl)) ?_
  intro W base args ds gs before hval0 hW _ hsz0 _
  have hsz : (DataW.weightsEach Try.prog (Try.f4.params.toList ++ Rows.tlvDecodesSpec.plain.varTypes Try.prog) (ds ++ gs)).all (· ≤ reachBytes) = true := hsz0
  clear hsz0
  have hval : ∀ (j : Nat) t v, Try.f4.params[j]? = some t → args[j]? = some v → Value.okWide Try.prog W .any base t v := hval0
  have hW' := hW
  obtain ⟨p, q, hA0, hV, rfl, _, _⟩ := hW
  have hA : DataW.TrodAll enc Try.prog W 0 (fun _ => true) true Try.f4.params.toList args.toList ds p := hA0
  rw [Try.params4] at hA hval hsz
  obtain ⟨v0, vs0, d0, ds0, p0, q0, hargs, rfl, rfl, h0, r0⟩ := trodAll_cons hA
  obtain ⟨rfl, rfl, rfl⟩ := trodAll_nil r0
  obtain rfl : args = #[v0] := by cases args; simp_all
  obtain ⟨rfl, rfl⟩ := trodVars_none hV
  have lt0 : ∀ x ∈ p0, x.block < W.heap.size := by obtain ⟨m, hm⟩ := h0; exact DataW.trod_lt m _ _ _ hm
  obtain ⟨A0, n0, c0, z0, rfl, s0, u0, l0, g0⟩ := open_bytes_c (hval 0 26 v0 rfl rfl) h0
  have m0 := g0 _ _ 0 hsz rfl rfl
  clear hA0 hval0
  refine (walk W s0 u0 m0 l0).mono fun e W' ⟨he, bel⟩ => ?_
  subst he
  exact ⟨_, rfl, _, _, _, [], _, [], hW', trodAll_mk1 (shut_bool Try.underlying4 _), (trodAll_cons_mk (Below.trod laidOut (by kernel_rfl) (of_decide_eq_true (by kernel_rfl)) h0 bel lt0) trodAll_mk0), rfl, bel.frame _, fun h => by cases h⟩

theorem over : Rows.tlvDecodesRow.holds Try.pinned (OpenSpec.ofChange Rows.tlvDecodesSpec) :=
  OpenClaim.holds_of_wide 4 Try.f4 rfl rfl rfl rfl rfl rfl rfl ⟨rfl, rfl, rfl, rfl, rfl⟩ rfl rfl rfl rfl rfl (by kernel_rfl) Try.func4 (by kernel_rfl)
    (of_decide_eq_true (by kernel_rfl)) (by unfold Func.isWrapper; first | (rw [if_pos (by decide +kernel)]; kernel_rfl) | (rw [if_neg (by decide +kernel)]; exact ⟨rfl, rfl⟩))
    (fun os started H enc _ => lifted os started H enc)

theorem proved : Rows.TlvDecodesSaid := over
end Go.Proofs.Ytchpobikbcelfaa.tlvDecodes
