/-
  Proved: ColorFits answers true for every colour and all features, over the tables that the program lays (a tied card).
-/
import Derived.Test.YtfbfidlgfdnneaaDoorOpen
import Derived.Test.YtfbfidlgfdnneaaDoorCards
import Derived.Test.YtfbfidlgfdnneaaDoorTie
import Derived.SevenTiedAt
import Derived.Test.YtfbfidlgfdnneaaDoorColorFitR
import Derived.Test.YtfbfidlgfdnneaaDoorColorIn
import Derived.WalkKit
import Derived.Deep.RegionHeld3
namespace Go.Proofs.YtfbfidlgfdnneaaDoor.colorFits
open Go.ChangeShapes Go.WideShapes Go.ChangeAt Go.RowKit

set_option maxHeartbeats 3200000 in
set_option maxRecDepth 100000 in
/-- The walk. -/
theorem walk {k f : Int} (w : World) (hT : CTabs w) (h0 : 0 ≤ k ∧ k ≤ 4294967295) (h1 : 0 ≤ f ∧ f ≤ 4294967295) :
    Calls Tryd.prog 4 #[.int .u32 k, .int .u32 f] w fun e w' => e = .returned (.bool true) ∧ Below w.heap.size w w' := by
  obtain ⟨h0, _⟩ := h0
  obtain ⟨hf0, hf1⟩ := h1
  have hf2 : f < 4294967296 := by omega
  have HF := Lib.hid (And.intro hf0 hf2)
  clear hf0 hf1 hf2
  go_enter Tryd.func4, Tryd.ntmps4
  go_wp2_with fail
  refine (fixedC13_any hT).mono ?_
  rintro e w1 ⟨rfl, hb⟩
  have X1 := Lib.hid (show CTabs w1 ∧ Below w.heap.size w w1 from ⟨hT.below hb (Nat.le_refl _), hb⟩)
  clear hb hT
  go_wp2_with fail
  refine (to256_any X1.out.1 h0).mono ?_
  rintro e w2 ⟨rfl, hb⟩
  have X2 := Lib.hid (show CTabs w2 ∧ Below w.heap.size w w2 from ⟨X1.out.1.below hb (Nat.le_refl _), X1.out.2.trans (hb.mono X1.out.2.size)⟩)
  clear hb X1
  go_wp2_with fail
  refine (rto256_any h0).mono ?_
  rintro e w3 ⟨rfl, hb⟩
  have X3 := Lib.hid (show CTabs w3 ∧ Below w.heap.size w w3 from ⟨X2.out.1.below hb (Nat.le_refl _), X2.out.2.trans (hb.mono X2.out.2.size)⟩)
  clear hb X2
  go_wp2_with fail
  refine (to16_any X3.out.1 h0).mono ?_
  rintro e w4 ⟨rfl, hb⟩
  have X4 := Lib.hid (show CTabs w4 ∧ Below w.heap.size w w4 from ⟨X3.out.1.below hb (Nat.le_refl _), X3.out.2.trans (hb.mono X3.out.2.size)⟩)
  clear hb X3
  go_wp2_with fail
  refine (rto16_any h0).mono ?_
  rintro e w5 ⟨rfl, hb⟩
  have X5 := Lib.hid (show CTabs w5 ∧ Below w.heap.size w w5 from ⟨X4.out.1.below hb (Nat.le_refl _), X4.out.2.trans (hb.mono X4.out.2.size)⟩)
  clear hb X4
  go_wp2_with fail
  refine (fit_any X5.out.1 h0 HF.out.1 HF.out.2).mono ?_
  rintro e w6 ⟨rfl, hb⟩
  have X6 := Lib.hid (show CTabs w6 ∧ Below w.heap.size w w6 from ⟨X5.out.1.below hb (Nat.le_refl _), X5.out.2.trans (hb.mono X5.out.2.size)⟩)
  clear hb X5
  go_wp2_with fail
  refine (rfit_any h0 HF.out.1).mono ?_
  rintro e w7 ⟨rfl, hb⟩
  have X7 := Lib.hid (show CTabs w7 ∧ Below w.heap.size w w7 from ⟨X6.out.1.below hb (Nat.le_refl _), X6.out.2.trans (hb.mono X6.out.2.size)⟩)
  clear hb X6
  go_wp2_with fail
  go_ret
  exact ⟨rfl, X7.out.2⟩

set_option maxRecDepth 100000 in
theorem lifted (os : Os) (started : os.Started) (H : Type) (enc : TypeId × Value → H) :
    ReturnsInHanded {} Tryd.checked os 4 .any (fun w args => (Rows.colorFitsSpec.pre enc Tryd.prog Tryd.f4 [] false w args ∧ laidMetH Tryd.prog laidC w) ∧ sizedMet enc Tryd.prog Tryd.f4 (OpenSpec.ofChange Rows.colorFitsSpec) false w args)
      (Rows.colorFitsSpec.post enc Tryd.prog Tryd.f4 false true false false) := by
  refine returnsInHanded_of_change_and (C := Tryd.checked) (X := fun w _ => laidMetH Tryd.prog laidC w) (fun _ _ _ hh h => h.of_heap hh) own started (by kernel_rfl) Tryd.func4
    (ChangeSpec.witness_shaped (enc := enc) (C := Tryd.checked) (os := os) (X := fun w _ => laidMetH Tryd.prog laidC w) false (World.laidAll Tryd.prog os laidC) #[.int .u32 0, .int .u32 0] 8 (World.laidAll_os _ _ _) (startC_shaped os) (by kernel_rfl) (by kernel_rfl) (by kernel_rfl) (startC_met os _)) ?_
  intro W base args ds gs before hval0 hW _ hsz0 hL _
  have hsz : (DataW.weightsEach Tryd.prog (Tryd.f4.params.toList ++ Rows.colorFitsSpec.plain.varTypes Tryd.prog) (ds ++ gs)).all (· ≤ reachBytes) = true := hsz0
  clear hsz0
  have hval : ∀ (j : Nat) t v, Tryd.f4.params[j]? = some t → args[j]? = some v → Value.okWide Tryd.prog W .any base t v := hval0
  have hW' := hW
  obtain ⟨p, q, hA0, hV, rfl, _, _⟩ := hW
  have hA : DataW.TrodAll enc Tryd.prog W 0 (fun _ => true) true Tryd.f4.params.toList args.toList ds p := hA0
  rw [Tryd.params4] at hA hval hsz
  obtain ⟨v0, vs0, d0, ds0, p0, q0, hargs, rfl, rfl, h0, r0⟩ := trodAll_cons hA
  obtain ⟨v1, vs1, d1, ds1, p1, q1, rfl, rfl, rfl, h1, r1⟩ := trodAll_cons r0
  obtain ⟨rfl, rfl, rfl⟩ := trodAll_nil r1
  obtain rfl : args = #[v0, v1] := by cases args; simp_all
  obtain ⟨rfl, rfl⟩ := trodVars_none hV
  have lt0 : ∀ x ∈ p0, x.block < W.heap.size := by obtain ⟨m, hm⟩ := h0; exact DataW.trod_lt m _ _ _ hm
  obtain ⟨k0, rfl, s0⟩ := open_hue (hval 0 23 v0 rfl rfl) h0
  have lt1 : ∀ x ∈ p1, x.block < W.heap.size := by obtain ⟨m, hm⟩ := h1; exact DataW.trod_lt m _ _ _ hm
  obtain ⟨k1, rfl, s1⟩ := open_u32h (hval 1 22 v1 rfl rfl) h1
  clear hA0 hval0
  refine (walk W (ctabs_of_laid hL) s0 s1).mono fun e W' ⟨he, bel⟩ => ?_
  subst he
  exact ⟨_, rfl, _, _, _, [], _, [], hW', trodAll_mk1 (shut_bool Tryd.underlying4 _), (trodAll_cons_mk (Below.trod laidOut (by kernel_rfl) (of_decide_eq_true (by kernel_rfl)) h0 bel lt0) (trodAll_cons_mk (Below.trod laidOut (by kernel_rfl) (of_decide_eq_true (by kernel_rfl)) h1 bel lt1) trodAll_mk0)), rfl, bel.frame _, fun h => by cases h⟩

theorem over : Rows.colorFitsRow.holds Tryd.pinned (OpenSpec.ofChange Rows.colorFitsSpec) :=
  OpenClaim.holds_of_wide 4 Tryd.f4 rfl rfl rfl rfl rfl rfl rfl ⟨rfl, rfl, rfl, rfl, rfl⟩ rfl rfl rfl rfl rfl (by kernel_rfl) Tryd.func4 (by kernel_rfl)
    (of_decide_eq_true (by kernel_rfl)) (by unfold Func.isWrapper; first | (rw [if_pos (by decide +kernel)]; kernel_rfl) | (rw [if_neg (by decide +kernel)]; exact ⟨rfl, rfl⟩))
    (fun os started H enc _ => lifted os started H enc)

theorem proved : Rows.ColorFitsCardSaid :=
  Claim7.holds_tied_plain_at .later [] [.data, .data] true Rows.colorFitsCard.stood.harness false
    over (fun _ h => by cases h) (by kernel_rfl) (fun _ h => by cases h) colorFits_row_tie rfl ⟨rfl, rfl⟩ (by kernel_rfl) rfl
    (fun f fn hf hfn => by
      obtain rfl : f = 4 := Option.some.inj ((show Tryd.prog.funcNamed "spyglass/spyglasslaw13.ColorFits" = some 4 by kernel_rfl).symm.trans hf) |>.symm
      obtain rfl : fn = Tryd.f4 := (Option.some.inj (Tryd.func4.symm.trans hfn)).symm
      exact ⟨by kernel_rfl, fun j t ht => by
        rw [Tryd.params4] at ht
        have hm : t ∈ [23, 22] := by simpa using Array.mem_of_getElem? ht
        have hall : ([23, 22].all fun u => !Tryd.prog.wantsStandIn u) = true := by kernel_rfl
        exact (show Tryd.prog.wantsStandIn t = false by simpa using List.all_eq_true.1 hall t hm)⟩)
    (by kernel_rfl)
end Go.Proofs.YtfbfidlgfdnneaaDoor.colorFits
