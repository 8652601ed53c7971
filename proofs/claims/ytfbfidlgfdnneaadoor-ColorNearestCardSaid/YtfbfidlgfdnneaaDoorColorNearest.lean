/-
  Proved: ColorNearest answers true for every three parts and every colour of 256, over the tables that the program lays (a tied card).
-/
import Derived.Test.YtfbfidlgfdnneaaDoorOpen
import Derived.Test.YtfbfidlgfdnneaaDoorCards
import Derived.Test.YtfbfidlgfdnneaaDoorTie
import Derived.SevenTiedAt
import Derived.Test.YtfbfidlgfdnneaaDoorColorFitR
import Derived.Test.YtfbfidlgfdnneaaDoorColorIn
import Derived.WalkKit
import Derived.Deep.RegionHeld3
namespace Go.Proofs.YtfbfidlgfdnneaaDoor.colorNearest
open Go.ChangeShapes Go.WideShapes Go.ChangeAt Go.RowKit

set_option maxHeartbeats 3200000 in
set_option maxRecDepth 100000 in
/-- The walk. -/
theorem walk {p i : Int} (w : World) (hT : CTabs w) (h0 : 0 ≤ p ∧ p ≤ 4294967295) (h1 : 0 ≤ i ∧ i ≤ 255) :
    Calls Tryd.prog 5 #[.int .u32 p, .int .u8 i] w fun e w' => e = .returned (.bool true) ∧ Below w.heap.size w w' := by
  obtain ⟨c, hc⟩ : ∃ c, c = 16777216 + p % 16777216 := ⟨_, rfl⟩
  have h3 : threeS c := by unfold threeS; omega
  have hw1 : IntKind.u32.wrap (16777216 + p % 16777216) = c := by rw [hc, IntKind.wrap_u32]; omega
  have hm : p.tmod 16777216 = p % 16777216 := Int.tmod_eq_emod_of_nonneg h0.1
  have hc0 : 0 ≤ c := by omega
  obtain ⟨k, hk⟩ : ∃ k, k = i + 1 := ⟨_, rfl⟩
  have hw2 : IntKind.u32.wrap (i + 1) = k := by rw [hk, IntKind.wrap_u32]; omega
  have hw3 : IntKind.u32.wrap i = i := by rw [IntKind.wrap_u32]; omega
  have HK := Lib.hid (show 1 ≤ k ∧ k ≤ 256 ∧ 0 ≤ k from ⟨by omega, by omega, by omega⟩)
  obtain ⟨x1, x2⟩ := to256_in h3
  obtain ⟨y1, y2⟩ := to16_in (.inl h3 : threeS c ∨ (17 ≤ c ∧ c ≤ 256))
  have HX := Lib.hid (show (17 ≤ k → farS c (to256S c) < farS c k ∨ (farS c (to256S c) = farS c k ∧ to256S c ≤ k)) ∧ (k ≤ 16 → farS c (to16S c) < farS c k ∨ (farS c (to16S c) = farS c k ∧ to16S c ≤ k)) from
    ⟨fun h => by rw [show to256S c = nearN c 17 239 from if_pos h3]; exact nearN_least c 17 239 k h (by omega), fun h => by rw [show to16S c = nearN c 1 15 from if_pos (.inl h3)]; exact nearN_least c 1 15 k (by omega) (by omega)⟩)
  have HZ := Lib.hid (show 0 ≤ to256S c ∧ 0 ≤ to16S c from ⟨by omega, by omega⟩)
  clear hc hk h0 h1 h3
  go_enter Tryd.func5, Tryd.ntmps5
  go_wp2_with fail
  refine (to256_any hT hc0).mono ?_
  rintro e w1 ⟨rfl, hb⟩
  have X1 := Lib.hid (show CTabs w1 ∧ Below w.heap.size w w1 from ⟨hT.below hb (Nat.le_refl _), hb⟩)
  clear hb hT
  go_wp2_with fail
  refine (to16_any X1.out.1 hc0).mono ?_
  rintro e w2 ⟨rfl, hb⟩
  have X2 := Lib.hid (show CTabs w2 ∧ Below w.heap.size w w2 from ⟨X1.out.1.below hb (Nat.le_refl _), X1.out.2.trans (hb.mono X1.out.2.size)⟩)
  clear hb X1
  go_wp2_with fail
  obtain ⟨X, hX⟩ : ∃ X, to256S c = X := ⟨_, rfl⟩
  obtain ⟨Y, hY⟩ : ∃ Y, to16S c = Y := ⟨_, rfl⟩
  rw [hX] at x1 x2 HX HZ ⊢
  rw [hY] at y1 y2 HX HZ ⊢
  clear hX hY
  by_cases hk17 : 17 ≤ k
  · obtain ⟨F, hF⟩ : ∃ F, farS c X = F := ⟨_, rfl⟩
    obtain ⟨K, hK⟩ : ∃ K, farS c k = K := ⟨_, rfl⟩
    have HO := Lib.hid (show F < K ∨ (F = K ∧ X ≤ k) from by rw [← hF, ← hK]; exact HX.out.1 hk17)
    have HFK := Lib.hid (And.intro hF hK)
    clear HX hF hK
    refine (fixedC13_any X2.out.1).mono ?_
    rintro e w3 ⟨rfl, hb⟩
    have X3 := Lib.hid (show CTabs w3 ∧ Below w.heap.size w w3 from ⟨X2.out.1.below hb (Nat.le_refl _), X2.out.2.trans (hb.mono X2.out.2.size)⟩)
    clear hb X2
    go_wp2_with fail
    refine (far_any X3.out.1 hc0 HZ.out.1).mono ?_
    rintro e w4 ⟨rfl, hb⟩
    rw [HFK.out.1]
    have X4 := Lib.hid (show CTabs w4 ∧ Below w.heap.size w w4 from ⟨X3.out.1.below hb (Nat.le_refl _), X3.out.2.trans (hb.mono X3.out.2.size)⟩)
    clear hb X3
    go_wp2_with fail
    by_cases hlt : F < K
    · refine (far_any X4.out.1 hc0 HK.out.2.2).mono ?_
      rintro e w5 ⟨rfl, hb⟩
      rw [HFK.out.2]
      have X5 := Lib.hid (show CTabs w5 ∧ Below w.heap.size w w5 from ⟨X4.out.1.below hb (Nat.le_refl _), X4.out.2.trans (hb.mono X4.out.2.size)⟩)
      clear hb X4
      go_wp2_with fail
      go_ret
      exact ⟨rfl, X5.out.2⟩
    · have he : F = K ∧ X ≤ k := HO.out.resolve_left hlt
      have he1 : (F == K) = true := by rw [he.1]; simp
      have he2 : X ≤ k := he.2
      clear he HO
      refine (far_any X4.out.1 hc0 HK.out.2.2).mono ?_
      rintro e w5 ⟨rfl, hb⟩
      rw [HFK.out.2]
      have X5 := Lib.hid (show CTabs w5 ∧ Below w.heap.size w w5 from ⟨X4.out.1.below hb (Nat.le_refl _), X4.out.2.trans (hb.mono X4.out.2.size)⟩)
      clear hb X4
      go_wp2_with fail
      refine (far_any X5.out.1 hc0 HZ.out.1).mono ?_
      rintro e w6 ⟨rfl, hb⟩
      rw [HFK.out.1]
      have X6 := Lib.hid (show CTabs w6 ∧ Below w.heap.size w w6 from ⟨X5.out.1.below hb (Nat.le_refl _), X5.out.2.trans (hb.mono X5.out.2.size)⟩)
      clear hb X5
      go_wp2_with fail
      refine (far_any X6.out.1 hc0 HK.out.2.2).mono ?_
      rintro e w7 ⟨rfl, hb⟩
      rw [HFK.out.2]
      have X7 := Lib.hid (show CTabs w7 ∧ Below w.heap.size w w7 from ⟨X6.out.1.below hb (Nat.le_refl _), X6.out.2.trans (hb.mono X6.out.2.size)⟩)
      clear hb X6
      go_wp2_with fail
      go_ret
      exact ⟨rfl, X7.out.2⟩
  · obtain ⟨F, hF⟩ : ∃ F, farS c Y = F := ⟨_, rfl⟩
    obtain ⟨K, hK⟩ : ∃ K, farS c k = K := ⟨_, rfl⟩
    have HO := Lib.hid (show F < K ∨ (F = K ∧ Y ≤ k) from by rw [← hF, ← hK]; exact HX.out.2 (by omega))
    have HFK := Lib.hid (And.intro hF hK)
    clear HX hF hK
    refine (fixedC13_any X2.out.1).mono ?_
    rintro e w3 ⟨rfl, hb⟩
    have X3 := Lib.hid (show CTabs w3 ∧ Below w.heap.size w w3 from ⟨X2.out.1.below hb (Nat.le_refl _), X2.out.2.trans (hb.mono X2.out.2.size)⟩)
    clear hb X2
    go_wp2_with fail
    refine (far_any X3.out.1 hc0 HZ.out.2).mono ?_
    rintro e w4 ⟨rfl, hb⟩
    rw [HFK.out.1]
    have X4 := Lib.hid (show CTabs w4 ∧ Below w.heap.size w w4 from ⟨X3.out.1.below hb (Nat.le_refl _), X3.out.2.trans (hb.mono X3.out.2.size)⟩)
    clear hb X3
    go_wp2_with fail
    by_cases hlt : F < K
    · refine (far_any X4.out.1 hc0 HK.out.2.2).mono ?_
      rintro e w5 ⟨rfl, hb⟩
      rw [HFK.out.2]
      have X5 := Lib.hid (show CTabs w5 ∧ Below w.heap.size w w5 from ⟨X4.out.1.below hb (Nat.le_refl _), X4.out.2.trans (hb.mono X4.out.2.size)⟩)
      clear hb X4
      go_wp2_with fail
      go_ret
      exact ⟨rfl, X5.out.2⟩
    · have he : F = K ∧ Y ≤ k := HO.out.resolve_left hlt
      have he1 : (F == K) = true := by rw [he.1]; simp
      have he2 : Y ≤ k := he.2
      clear he HO
      refine (far_any X4.out.1 hc0 HK.out.2.2).mono ?_
      rintro e w5 ⟨rfl, hb⟩
      rw [HFK.out.2]
      have X5 := Lib.hid (show CTabs w5 ∧ Below w.heap.size w w5 from ⟨X4.out.1.below hb (Nat.le_refl _), X4.out.2.trans (hb.mono X4.out.2.size)⟩)
      clear hb X4
      go_wp2_with fail
      refine (far_any X5.out.1 hc0 HZ.out.2).mono ?_
      rintro e w6 ⟨rfl, hb⟩
      rw [HFK.out.1]
      have X6 := Lib.hid (show CTabs w6 ∧ Below w.heap.size w w6 from ⟨X5.out.1.below hb (Nat.le_refl _), X5.out.2.trans (hb.mono X5.out.2.size)⟩)
      clear hb X5
      go_wp2_with fail
      refine (far_any X6.out.1 hc0 HK.out.2.2).mono ?_
      rintro e w7 ⟨rfl, hb⟩
      rw [HFK.out.2]
      have X7 := Lib.hid (show CTabs w7 ∧ Below w.heap.size w w7 from ⟨X6.out.1.below hb (Nat.le_refl _), X6.out.2.trans (hb.mono X6.out.2.size)⟩)
      clear hb X6
      go_wp2_with fail
      go_ret
      exact ⟨rfl, X7.out.2⟩

set_option maxRecDepth 100000 in
theorem lifted (os : Os) (started : os.Started) (H : Type) (enc : TypeId × Value → H) :
    ReturnsInHanded {} Tryd.checked os 5 .any (fun w args => (Rows.colorNearestSpec.pre enc Tryd.prog Tryd.f5 [] false w args ∧ laidMetH Tryd.prog laidC w) ∧ sizedMet enc Tryd.prog Tryd.f5 (OpenSpec.ofChange Rows.colorNearestSpec) false w args)
      (Rows.colorNearestSpec.post enc Tryd.prog Tryd.f5 false true false false) := by
  refine returnsInHanded_of_change_and (C := Tryd.checked) (X := fun w _ => laidMetH Tryd.prog laidC w) (fun _ _ _ hh h => h.of_heap hh) own started (by kernel_rfl) Tryd.func5
    (ChangeSpec.witness_shaped (enc := enc) (C := Tryd.checked) (os := os) (X := fun w _ => laidMetH Tryd.prog laidC w) false (World.laidAll Tryd.prog os laidC) #[.int .u32 0, .int .u8 0] 8 (World.laidAll_os _ _ _) (startC_shaped os) (by kernel_rfl) (by kernel_rfl) (by kernel_rfl) (startC_met os _)) ?_
  intro W base args ds gs before hval0 hW _ hsz0 hL _
  have hsz : (DataW.weightsEach Tryd.prog (Tryd.f5.params.toList ++ Rows.colorNearestSpec.plain.varTypes Tryd.prog) (ds ++ gs)).all (· ≤ reachBytes) = true := hsz0
  clear hsz0
  have hval : ∀ (j : Nat) t v, Tryd.f5.params[j]? = some t → args[j]? = some v → Value.okWide Tryd.prog W .any base t v := hval0
  have hW' := hW
  obtain ⟨p, q, hA0, hV, rfl, _, _⟩ := hW
  have hA : DataW.TrodAll enc Tryd.prog W 0 (fun _ => true) true Tryd.f5.params.toList args.toList ds p := hA0
  rw [Tryd.params5] at hA hval hsz
  obtain ⟨v0, vs0, d0, ds0, p0, q0, hargs, rfl, rfl, h0, r0⟩ := trodAll_cons hA
  obtain ⟨v1, vs1, d1, ds1, p1, q1, rfl, rfl, rfl, h1, r1⟩ := trodAll_cons r0
  obtain ⟨rfl, rfl, rfl⟩ := trodAll_nil r1
  obtain rfl : args = #[v0, v1] := by cases args; simp_all
  obtain ⟨rfl, rfl⟩ := trodVars_none hV
  have lt0 : ∀ x ∈ p0, x.block < W.heap.size := by obtain ⟨m, hm⟩ := h0; exact DataW.trod_lt m _ _ _ hm
  obtain ⟨k0, rfl, s0⟩ := open_u32h (hval 0 22 v0 rfl rfl) h0
  have lt1 : ∀ x ∈ p1, x.block < W.heap.size := by obtain ⟨m, hm⟩ := h1; exact DataW.trod_lt m _ _ _ hm
  obtain ⟨k1, rfl, s1⟩ := open_u8h (hval 1 5 v1 rfl rfl) h1
  clear hA0 hval0
  refine (walk W (ctabs_of_laid hL) s0 s1).mono fun e W' ⟨he, bel⟩ => ?_
  subst he
  exact ⟨_, rfl, _, _, _, [], _, [], hW', trodAll_mk1 (shut_bool Tryd.underlying4 _), (trodAll_cons_mk (Below.trod laidOut (by kernel_rfl) (of_decide_eq_true (by kernel_rfl)) h0 bel lt0) (trodAll_cons_mk (Below.trod laidOut (by kernel_rfl) (of_decide_eq_true (by kernel_rfl)) h1 bel lt1) trodAll_mk0)), rfl, bel.frame _, fun h => by cases h⟩

theorem over : Rows.colorNearestRow.holds Tryd.pinned (OpenSpec.ofChange Rows.colorNearestSpec) :=
  OpenClaim.holds_of_wide 5 Tryd.f5 rfl rfl rfl rfl rfl rfl rfl ⟨rfl, rfl, rfl, rfl, rfl⟩ rfl rfl rfl rfl rfl (by kernel_rfl) Tryd.func5 (by kernel_rfl)
    (of_decide_eq_true (by kernel_rfl)) (by unfold Func.isWrapper; first | (rw [if_pos (by decide +kernel)]; kernel_rfl) | (rw [if_neg (by decide +kernel)]; exact ⟨rfl, rfl⟩))
    (fun os started H enc _ => lifted os started H enc)

theorem proved : Rows.ColorNearestCardSaid :=
  Claim7.holds_tied_plain_at .later [] [.data, .data] true Rows.colorNearestCard.stood.harness false
    over (fun _ h => by cases h) (by kernel_rfl) (fun _ h => by cases h) colorNearest_row_tie rfl ⟨rfl, rfl⟩ (by kernel_rfl) rfl
    (fun f fn hf hfn => by
      obtain rfl : f = 5 := Option.some.inj ((show Tryd.prog.funcNamed "spyglass/spyglasslaw13.ColorNearest" = some 5 by kernel_rfl).symm.trans hf) |>.symm
      obtain rfl : fn = Tryd.f5 := (Option.some.inj (Tryd.func5.symm.trans hfn)).symm
      exact ⟨by kernel_rfl, fun j t ht => by
        rw [Tryd.params5] at ht
        have hm : t ∈ [22, 5] := by simpa using Array.mem_of_getElem? ht
        have hall : ([22, 5].all fun u => !Tryd.prog.wantsStandIn u) = true := by kernel_rfl
        exact (show Tryd.prog.wantsStandIn t = false by simpa using List.all_eq_true.1 hall t hm)⟩)
    (by kernel_rfl)
end Go.Proofs.YtfbfidlgfdnneaaDoor.colorNearest
