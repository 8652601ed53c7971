/-
  Proved: ColorFew answers true for every colour and all features, over the tables that the program lays (a tied card).
-/
import Derived.Test.YtfbfidlgfdnneaaDoorOpen
import Derived.Test.YtfbfidlgfdnneaaDoorCards
import Derived.Test.YtfbfidlgfdnneaaDoorTie
import Derived.SevenTiedAt
import Derived.Test.YtfbfidlgfdnneaaDoorColorFitR
import Derived.Test.YtfbfidlgfdnneaaDoorColorIn
import Derived.WalkKit
import Derived.Deep.RegionHeld3
namespace Go.Proofs.YtfbfidlgfdnneaaDoor.colorFew
open Go.ChangeShapes Go.WideShapes Go.ChangeAt Go.RowKit

theorem or_facts {f m : Int} (h : 0 ≤ f ∧ f < 4294967296 ∧ 0 ≤ m ∧ m < 4294967296) : ∃ g, bits .or .u32 f m = g ∧ 0 ≤ g ∧ g < 4294967296 ∧ (bit0 f = true → bit0 g = true) ∧ (bit1 f = true → bit1 g = true) := by
  refine ⟨_, u32_or f m h.1 h.2.1 h.2.2.1 h.2.2.2, by omega, ?_, ?_, ?_⟩
  · have := Nat.or_lt_two_pow (x := f.toNat) (y := m.toNat) (n := 32) (by omega) (by omega)
    omega
  · unfold bit0
    simp only [decide_eq_true_eq]
    intro hf
    have h1 : f.toNat.testBit 0 = true := by rw [Nat.testBit_zero]; exact decide_eq_true (by omega)
    have h2 : (f.toNat ||| m.toNat).testBit 0 = true := by rw [Nat.testBit_or, h1]; rfl
    rw [Nat.testBit_zero] at h2
    have := of_decide_eq_true h2
    omega
  · unfold bit1
    simp only [decide_eq_true_eq]
    intro hf
    have h1 : f.toNat.testBit 1 = true := by rw [Nat.testBit_succ, Nat.testBit_zero]; exact decide_eq_true (by omega)
    have h2 : (f.toNat ||| m.toNat).testBit 1 = true := by rw [Nat.testBit_or, h1]; rfl
    rw [Nat.testBit_succ, Nat.testBit_zero] at h2
    have := of_decide_eq_true h2
    omega
set_option maxHeartbeats 3200000 in
set_option maxRecDepth 100000 in
/-- The walk. -/
theorem walk {k f m : Int} (w : World) (hT : CTabs w) (h0 : 0 ≤ k ∧ k ≤ 4294967295) (h1 : 0 ≤ f ∧ f ≤ 4294967295) (h2 : 0 ≤ m ∧ m ≤ 4294967295) :
    Calls Tryd.prog 7 #[.int .u32 k, .int .u32 f, .int .u32 m] w fun e w' => e = .returned (.bool true) ∧ Below w.heap.size w w' := by
  obtain ⟨h0, _⟩ := h0
  have HF := Lib.hid (show 0 ≤ f ∧ f < 4294967296 ∧ 0 ≤ m ∧ m < 4294967296 from ⟨by omega, by omega, by omega, by omega⟩)
  obtain ⟨g, hg, g0, g1, g2, g3⟩ := or_facts HF.out
  have HG := Lib.hid (show 0 ≤ g ∧ g < 4294967296 ∧ 0 ≤ fitS k f ∧ fitS (fitS k f) g = fitS k f from ⟨g0, g1, fit_pos h0, fit_more g2 g3⟩)
  have HW := Lib.hid (show bit0 f = false → bit1 f = false → fitS k f ≤ 16 ∨ (fitS k f = k ∧ ¬ threeS k ∧ ¬ (17 ≤ k ∧ k ≤ 256)) from fun a b => fit_few a b)
  have HA := Lib.hid (And.intro (and1_u32 HF.out.1 HF.out.2.1) (and2_u32 HF.out.1 HF.out.2.1))
  clear g0 g1 g2 g3 h1 h2
  by_cases f0 : f % 2 = 1
  · have a1 : bits .and .u32 f 1 = 1 := by rw [HA.out.1]; exact f0
    clear f0
    go_enter Tryd.func7, Tryd.ntmps7
    go_wp2_with fail
    refine (fit_any hT h0 HF.out.1 HF.out.2.1).mono ?_
    rintro e w1 ⟨rfl, hb⟩
    have X1 := Lib.hid (show CTabs w1 ∧ Below w.heap.size w w1 from ⟨hT.below hb (Nat.le_refl _), hb⟩)
    clear hb hT
    generalize fitS k f = x at HG HW ⊢
    go_wp2_with fail
    refine (fixedC13_any X1.out.1).mono ?_
    rintro e w2 ⟨rfl, hb⟩
    have X2 := Lib.hid (show CTabs w2 ∧ Below w.heap.size w w2 from ⟨X1.out.1.below hb (Nat.le_refl _), X1.out.2.trans (hb.mono X1.out.2.size)⟩)
    clear hb X1
    go_wp2_with fail
    refine (fit_any X2.out.1 HG.out.2.2.1 HG.out.1 HG.out.2.1).mono ?_
    rintro e w3 ⟨rfl, hb⟩
    rw [HG.out.2.2.2]
    have X3 := Lib.hid (show CTabs w3 ∧ Below w.heap.size w w3 from ⟨X2.out.1.below hb (Nat.le_refl _), X2.out.2.trans (hb.mono X2.out.2.size)⟩)
    clear hb X2
    go_wp2_with fail
    go_ret
    exact ⟨rfl, X3.out.2⟩
  · have a1 : bits .and .u32 f 1 = 0 := by rw [HA.out.1]; omega
    have b0 : bit0 f = false := decide_eq_false f0
    clear f0
    by_cases f1 : f / 2 % 2 = 1
    · have a2 : bits .and .u32 f 2 = 2 := by rw [HA.out.2, f1]; rfl
      clear f1 b0
      go_enter Tryd.func7, Tryd.ntmps7
      go_wp2_with fail
      refine (fit_any hT h0 HF.out.1 HF.out.2.1).mono ?_
      rintro e w1 ⟨rfl, hb⟩
      have X1 := Lib.hid (show CTabs w1 ∧ Below w.heap.size w w1 from ⟨hT.below hb (Nat.le_refl _), hb⟩)
      clear hb hT
      generalize fitS k f = x at HG HW ⊢
      go_wp2_with fail
      refine (fixedC13_any X1.out.1).mono ?_
      rintro e w2 ⟨rfl, hb⟩
      have X2 := Lib.hid (show CTabs w2 ∧ Below w.heap.size w w2 from ⟨X1.out.1.below hb (Nat.le_refl _), X1.out.2.trans (hb.mono X1.out.2.size)⟩)
      clear hb X1
      go_wp2_with fail
      refine (fit_any X2.out.1 HG.out.2.2.1 HG.out.1 HG.out.2.1).mono ?_
      rintro e w3 ⟨rfl, hb⟩
      rw [HG.out.2.2.2]
      have X3 := Lib.hid (show CTabs w3 ∧ Below w.heap.size w w3 from ⟨X2.out.1.below hb (Nat.le_refl _), X2.out.2.trans (hb.mono X2.out.2.size)⟩)
      clear hb X2
      go_wp2_with fail
      go_ret
      exact ⟨rfl, X3.out.2⟩
    · have a2 : bits .and .u32 f 2 = 0 := by rw [HA.out.2]; omega
      have b1 : bit1 f = false := decide_eq_false f1
      clear f1
      by_cases hx : fitS k f ≤ 16
      · clear HW
        go_enter Tryd.func7, Tryd.ntmps7
        go_wp2_with fail
        refine (fit_any hT h0 HF.out.1 HF.out.2.1).mono ?_
        rintro e w1 ⟨rfl, hb⟩
        have X1 := Lib.hid (show CTabs w1 ∧ Below w.heap.size w w1 from ⟨hT.below hb (Nat.le_refl _), hb⟩)
        clear hb hT
        generalize fitS k f = x at HG hx ⊢
        go_wp2_with fail
        refine (fixedC13_any X1.out.1).mono ?_
        rintro e w2 ⟨rfl, hb⟩
        have X2 := Lib.hid (show CTabs w2 ∧ Below w.heap.size w w2 from ⟨X1.out.1.below hb (Nat.le_refl _), X1.out.2.trans (hb.mono X1.out.2.size)⟩)
        clear hb X1
        go_wp2_with fail
        refine (fit_any X2.out.1 HG.out.2.2.1 HG.out.1 HG.out.2.1).mono ?_
        rintro e w3 ⟨rfl, hb⟩
        rw [HG.out.2.2.2]
        have X3 := Lib.hid (show CTabs w3 ∧ Below w.heap.size w w3 from ⟨X2.out.1.below hb (Nat.le_refl _), X2.out.2.trans (hb.mono X2.out.2.size)⟩)
        clear hb X2
        go_wp2_with fail
        go_ret
        exact ⟨rfl, X3.out.2⟩
      · have hq := (HW.out b0 b1).resolve_left hx
        obtain ⟨q1, q2, q3⟩ := hq
        have hk1 : 256 < k := by omega
        have hq4 : (fitS k f == k) = true := by rw [q1]; simp
        clear q1 q3 HW
        by_cases hk2 : k < 16777216
        · clear q2
          go_enter Tryd.func7, Tryd.ntmps7
          go_wp2_with fail
          refine (fit_any hT h0 HF.out.1 HF.out.2.1).mono ?_
          rintro e w1 ⟨rfl, hb⟩
          have X1 := Lib.hid (show CTabs w1 ∧ Below w.heap.size w w1 from ⟨hT.below hb (Nat.le_refl _), hb⟩)
          clear hb hT
          generalize fitS k f = x at HG hx hq4 ⊢
          go_wp2_with fail
          refine (fixedC13_any X1.out.1).mono ?_
          rintro e w2 ⟨rfl, hb⟩
          have X2 := Lib.hid (show CTabs w2 ∧ Below w.heap.size w w2 from ⟨X1.out.1.below hb (Nat.le_refl _), X1.out.2.trans (hb.mono X1.out.2.size)⟩)
          clear hb X1
          go_wp2_with fail
          refine (fit_any X2.out.1 HG.out.2.2.1 HG.out.1 HG.out.2.1).mono ?_
          rintro e w3 ⟨rfl, hb⟩
          rw [HG.out.2.2.2]
          have X3 := Lib.hid (show CTabs w3 ∧ Below w.heap.size w w3 from ⟨X2.out.1.below hb (Nat.le_refl _), X2.out.2.trans (hb.mono X2.out.2.size)⟩)
          clear hb X2
          go_wp2_with fail
          go_ret
          exact ⟨rfl, X3.out.2⟩
        · have hk3 : 33554432 ≤ k := by unfold threeS at q2; omega
          clear q2
          go_enter Tryd.func7, Tryd.ntmps7
          go_wp2_with fail
          refine (fit_any hT h0 HF.out.1 HF.out.2.1).mono ?_
          rintro e w1 ⟨rfl, hb⟩
          have X1 := Lib.hid (show CTabs w1 ∧ Below w.heap.size w w1 from ⟨hT.below hb (Nat.le_refl _), hb⟩)
          clear hb hT
          generalize fitS k f = x at HG hx hq4 ⊢
          go_wp2_with fail
          refine (fixedC13_any X1.out.1).mono ?_
          rintro e w2 ⟨rfl, hb⟩
          have X2 := Lib.hid (show CTabs w2 ∧ Below w.heap.size w w2 from ⟨X1.out.1.below hb (Nat.le_refl _), X1.out.2.trans (hb.mono X1.out.2.size)⟩)
          clear hb X1
          go_wp2_with fail
          refine (fit_any X2.out.1 HG.out.2.2.1 HG.out.1 HG.out.2.1).mono ?_
          rintro e w3 ⟨rfl, hb⟩
          rw [HG.out.2.2.2]
          have X3 := Lib.hid (show CTabs w3 ∧ Below w.heap.size w w3 from ⟨X2.out.1.below hb (Nat.le_refl _), X2.out.2.trans (hb.mono X2.out.2.size)⟩)
          clear hb X2
          go_wp2_with fail
          go_ret
          exact ⟨rfl, X3.out.2⟩

set_option maxRecDepth 100000 in
theorem lifted (os : Os) (started : os.Started) (H : Type) (enc : TypeId × Value → H) :
    ReturnsInHanded {} Tryd.checked os 7 .any (fun w args => (Rows.colorFewSpec.pre enc Tryd.prog Tryd.f7 [] false w args ∧ laidMetH Tryd.prog laidC w) ∧ sizedMet enc Tryd.prog Tryd.f7 (OpenSpec.ofChange Rows.colorFewSpec) false w args)
      (Rows.colorFewSpec.post enc Tryd.prog Tryd.f7 false true false false) := by
  refine returnsInHanded_of_change_and (C := Tryd.checked) (X := fun w _ => laidMetH Tryd.prog laidC w) (fun _ _ _ hh h => h.of_heap hh) own started (by kernel_rfl) Tryd.func7
    (ChangeSpec.witness_shaped (enc := enc) (C := Tryd.checked) (os := os) (X := fun w _ => laidMetH Tryd.prog laidC w) false (World.laidAll Tryd.prog os laidC) #[.int .u32 0, .int .u32 0, .int .u32 0] 8 (World.laidAll_os _ _ _) (startC_shaped os) (by kernel_rfl) (by kernel_rfl) (by kernel_rfl) (startC_met os _)) ?_
  intro W base args ds gs before hval0 hW _ hsz0 hL _
  have hsz : (DataW.weightsEach Tryd.prog (Tryd.f7.params.toList ++ Rows.colorFewSpec.plain.varTypes Tryd.prog) (ds ++ gs)).all (· ≤ reachBytes) = true := hsz0
  clear hsz0
  have hval : ∀ (j : Nat) t v, Tryd.f7.params[j]? = some t → args[j]? = some v → Value.okWide Tryd.prog W .any base t v := hval0
  have hW' := hW
  obtain ⟨p, q, hA0, hV, rfl, _, _⟩ := hW
  have hA : DataW.TrodAll enc Tryd.prog W 0 (fun _ => true) true Tryd.f7.params.toList args.toList ds p := hA0
  rw [Tryd.params7] at hA hval hsz
  obtain ⟨v0, vs0, d0, ds0, p0, q0, hargs, rfl, rfl, h0, r0⟩ := trodAll_cons hA
  obtain ⟨v1, vs1, d1, ds1, p1, q1, rfl, rfl, rfl, h1, r1⟩ := trodAll_cons r0
  obtain ⟨v2, vs2, d2, ds2, p2, q2, rfl, rfl, rfl, h2, r2⟩ := trodAll_cons r1
  obtain ⟨rfl, rfl, rfl⟩ := trodAll_nil r2
  obtain rfl : args = #[v0, v1, v2] := by cases args; simp_all
  obtain ⟨rfl, rfl⟩ := trodVars_none hV
  have lt0 : ∀ x ∈ p0, x.block < W.heap.size := by obtain ⟨m, hm⟩ := h0; exact DataW.trod_lt m _ _ _ hm
  obtain ⟨k0, rfl, s0⟩ := open_hue (hval 0 23 v0 rfl rfl) h0
  have lt1 : ∀ x ∈ p1, x.block < W.heap.size := by obtain ⟨m, hm⟩ := h1; exact DataW.trod_lt m _ _ _ hm
  obtain ⟨k1, rfl, s1⟩ := open_u32h (hval 1 22 v1 rfl rfl) h1
  have lt2 : ∀ x ∈ p2, x.block < W.heap.size := by obtain ⟨m, hm⟩ := h2; exact DataW.trod_lt m _ _ _ hm
  obtain ⟨k2, rfl, s2⟩ := open_u32h (hval 2 22 v2 rfl rfl) h2
  clear hA0 hval0
  refine (walk W (ctabs_of_laid hL) s0 s1 s2).mono fun e W' ⟨he, bel⟩ => ?_
  subst he
  exact ⟨_, rfl, _, _, _, [], _, [], hW', trodAll_mk1 (shut_bool Tryd.underlying4 _), (trodAll_cons_mk (Below.trod laidOut (by kernel_rfl) (of_decide_eq_true (by kernel_rfl)) h0 bel lt0) (trodAll_cons_mk (Below.trod laidOut (by kernel_rfl) (of_decide_eq_true (by kernel_rfl)) h1 bel lt1) (trodAll_cons_mk (Below.trod laidOut (by kernel_rfl) (of_decide_eq_true (by kernel_rfl)) h2 bel lt2) trodAll_mk0))), rfl, bel.frame _, fun h => by cases h⟩

theorem over : Rows.colorFewRow.holds Tryd.pinned (OpenSpec.ofChange Rows.colorFewSpec) :=
  OpenClaim.holds_of_wide 7 Tryd.f7 rfl rfl rfl rfl rfl rfl rfl ⟨rfl, rfl, rfl, rfl, rfl⟩ rfl rfl rfl rfl rfl (by kernel_rfl) Tryd.func7 (by kernel_rfl)
    (of_decide_eq_true (by kernel_rfl)) (by unfold Func.isWrapper; first | (rw [if_pos (by decide +kernel)]; kernel_rfl) | (rw [if_neg (by decide +kernel)]; exact ⟨rfl, rfl⟩))
    (fun os started H enc _ => lifted os started H enc)

theorem proved : Rows.ColorFewCardSaid :=
  Claim7.holds_tied_plain_at .later [] [.data, .data] true Rows.colorFewCard.stood.harness false
    over (fun _ h => by cases h) (by kernel_rfl) (fun _ h => by cases h) colorFew_row_tie rfl ⟨rfl, rfl⟩ (by kernel_rfl) rfl
    (fun f fn hf hfn => by
      obtain rfl : f = 7 := Option.some.inj ((show Tryd.prog.funcNamed "spyglass/spyglasslaw13.ColorFew" = some 7 by kernel_rfl).symm.trans hf) |>.symm
      obtain rfl : fn = Tryd.f7 := (Option.some.inj (Tryd.func7.symm.trans hfn)).symm
      exact ⟨by kernel_rfl, fun j t ht => by
        rw [Tryd.params7] at ht
        have hm : t ∈ [23, 22, 22] := by simpa using Array.mem_of_getElem? ht
        have hall : ([23, 22, 22].all fun u => !Tryd.prog.wantsStandIn u) = true := by kernel_rfl
        exact (show Tryd.prog.wantsStandIn t = false by simpa using List.all_eq_true.1 hall t hm)⟩)
    (by kernel_rfl)
end Go.Proofs.YtfbfidlgfdnneaaDoor.colorFew
