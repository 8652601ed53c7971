/-
  Proved: ColorParts answers true for every two colours, over the tables that the program lays (a tied card).
-/
import Derived.Test.YtfbfidlgfdnneaaDoorOpen
import Derived.Test.YtfbfidlgfdnneaaDoorCards
import Derived.Test.YtfbfidlgfdnneaaDoorTie
import Derived.SevenTiedAt
import Derived.Test.YtfbfidlgfdnneaaDoorColorFitR
import Derived.Test.YtfbfidlgfdnneaaDoorColorIn
import Derived.WalkKit
import Derived.Deep.RegionHeld3
import Derived.ChangeKeysEq
import Derived.Laws.StructEq
namespace Go.Proofs.YtfbfidlgfdnneaaDoor.colorParts
open Go.ChangeShapes Go.WideShapes Go.ChangeAt Go.RowKit

theorem three_eql (a b c : Int) (w : World) : (binOp .eql 26 (.agg #[.int .i64 a, .int .i64 b, .int .i64 c]) (.agg #[.int .i64 a, .int .i64 b, .int .i64 c])).run Tryd.prog w = .ok (.bool true) w := by
  obtain ⟨i, hi⟩ : ∃ i, Tryd.prog.info? 3 = some i := Option.isSome_iff_exists.1 (by kernel_rfl)
  have p0 : ∀ (w : World), (part 3 #[.int .i64 a, .int .i64 b, .int .i64 c] 0).run Tryd.prog w = .ok (.int .i64 a) w := fun w => by kernel_rfl
  have p1 : ∀ (w : World), (part 3 #[.int .i64 a, .int .i64 b, .int .i64 c] 1).run Tryd.prog w = .ok (.int .i64 b) w := fun w => by kernel_rfl
  have p2 : ∀ (w : World), (part 3 #[.int .i64 a, .int .i64 b, .int .i64 c] 2).run Tryd.prog w = .ok (.int .i64 c) w := fun w => by kernel_rfl
  have q0 : ∀ (x y : Int) (w : World), (Op.equalIn 9999 3 (.int .i64 x) (.int .i64 y)).run Tryd.prog w = .ok (x == y) w := fun x y w => run_equalIn_int w 9998 _ _ _ _ _ Tryd.underlying3
  have c1 : Tryd.prog.cellsOf 3 = 1 := by kernel_rfl
  rw [run_eql_struct, run_equalIn_array w 9999 _ _ Tryd.underlying26 hi, c1]
  simp [Op.eqItems, List.range, List.range.loop, p0, p1, p2, q0]
set_option maxHeartbeats 3200000 in
set_option maxRecDepth 100000 in
/-- The walk. -/
theorem walk {x y : Int} (w : World) (hT : CTabs w) (h0 : 0 ≤ x ∧ x ≤ 4294967295) (h1 : 0 ≤ y ∧ y ≤ 4294967295) :
    Calls Tryd.prog 3 #[.int .u32 x, .int .u32 y] w fun e w' => e = .returned (.bool true) ∧ Below w.heap.size w w' := by
  obtain ⟨h0, _⟩ := h0
  obtain ⟨h1, _⟩ := h1
  go_enter Tryd.func3, Tryd.ntmps3
  go_wp2_with fail
  refine (parts_any hT h0).mono ?_
  rintro e w1 ⟨rfl, hb⟩
  have X1 := Lib.hid (show CTabs w1 ∧ Below w.heap.size w w1 from ⟨hT.below hb (Nat.le_refl _), hb⟩)
  clear hb hT
  go_wp2_with fail
  refine (rparts_any h0).mono ?_
  rintro e w2 ⟨rfl, hb⟩
  have X2 := Lib.hid (show CTabs w2 ∧ Below w.heap.size w w2 from ⟨X1.out.1.below hb (Nat.le_refl _), X1.out.2.trans (hb.mono X1.out.2.size)⟩)
  clear hb X1
  go_upto_region 3 with fail
  have HA := Lib.hid (show Three (w2.alloc (.cells #[.int .i64 (pT x).1, .int .i64 (pT x).2.1, .int .i64 (pT x).2.2] 26)) w2.heap.size (pT x) ∧ CTabs (w2.alloc (.cells #[.int .i64 (pT x).1, .int .i64 (pT x).2.1, .int .i64 (pT x).2.2] 26)) ∧ Below w.heap.size w (w2.alloc (.cells #[.int .i64 (pT x).1, .int .i64 (pT x).2.1, .int .i64 (pT x).2.2] 26)) from
    ⟨three_new _ _ _, X2.out.1.below ((Below.refl _ _).alloc (Nat.le_refl _) _) (Nat.le_refl _), X2.out.2.alloc X2.out.2.size _⟩)
  generalize hW : w2.alloc (.cells #[.int .i64 (pT x).1, .int .i64 (pT x).2.1, .int .i64 (pT x).2.2] 26) = w3 at HA ⊢
  clear hW
  generalize w2.heap.size = b at HA ⊢
  clear X2
  go_wp2_with fail
  refine (fixedC13_any HA.out.2.1).mono ?_
  rintro e w4 ⟨rfl, hb⟩
  have HB := Lib.hid (show Three w4 b (pT x) ∧ CTabs w4 ∧ Below w.heap.size w w4 from ⟨HA.out.1.below hb, HA.out.2.1.below hb (Nat.le_refl _), HA.out.2.2.trans (hb.mono HA.out.2.2.size)⟩)
  clear hb HA
  have c0 : w4.cell? ⟨b, 0, none⟩ = some (.int .i64 (pT x).1) := HB.out.1 0 (by omega)
  have c1 : w4.cell? ⟨b, 1, none⟩ = some (.int .i64 (pT x).2.1) := HB.out.1 1 (by omega)
  have c2 : w4.cell? ⟨b, 2, none⟩ = some (.int .i64 (pT x).2.2) := HB.out.1 2 (by omega)
  have X4 := Lib.hid HB.out.2
  clear HB
  generalize pT x = q at c0 c1 c2 ⊢
  obtain ⟨q1, q2, q3⟩ := q
  generalize hasS x = hs
  have heq := three_eql q1 q2 q3
  go_wp2_with fail
  refine (far_any X4.out.1 h0 h1).mono ?_
  rintro e w5 ⟨rfl, hb⟩
  have X5 := Lib.hid (show CTabs w5 ∧ Below w.heap.size w w5 from ⟨X4.out.1.below hb (Nat.le_refl _), X4.out.2.trans (hb.mono X4.out.2.size)⟩)
  clear hb X4
  go_wp2_with fail
  refine (rfar_any h0 h1).mono ?_
  rintro e w6 ⟨rfl, hb⟩
  have X6 := Lib.hid (show CTabs w6 ∧ Below w.heap.size w w6 from ⟨X5.out.1.below hb (Nat.le_refl _), X5.out.2.trans (hb.mono X5.out.2.size)⟩)
  clear hb X5
  go_wp2_with fail
  go_ret
  exact ⟨rfl, X6.out.2⟩

set_option maxRecDepth 100000 in
theorem lifted (os : Os) (started : os.Started) (H : Type) (enc : TypeId × Value → H) :
    ReturnsInHanded {} Tryd.checked os 3 .any (fun w args => (Rows.colorPartsSpec.pre enc Tryd.prog Tryd.f3 [] false w args ∧ laidMetH Tryd.prog laidC w) ∧ sizedMet enc Tryd.prog Tryd.f3 (OpenSpec.ofChange Rows.colorPartsSpec) false w args)
      (Rows.colorPartsSpec.post enc Tryd.prog Tryd.f3 false true false false) := by
  refine returnsInHanded_of_change_and (C := Tryd.checked) (X := fun w _ => laidMetH Tryd.prog laidC w) (fun _ _ _ hh h => h.of_heap hh) own started (by kernel_rfl) Tryd.func3
    (ChangeSpec.witness_shaped (enc := enc) (C := Tryd.checked) (os := os) (X := fun w _ => laidMetH Tryd.prog laidC w) false (World.laidAll Tryd.prog os laidC) #[.int .u32 0, .int .u32 0] 8 (World.laidAll_os _ _ _) (startC_shaped os) (by kernel_rfl) (by kernel_rfl) (by kernel_rfl) (startC_met os _)) ?_
  intro W base args ds gs before hval0 hW _ hsz0 hL _
  have hsz : (DataW.weightsEach Tryd.prog (Tryd.f3.params.toList ++ Rows.colorPartsSpec.plain.varTypes Tryd.prog) (ds ++ gs)).all (· ≤ reachBytes) = true := hsz0
  clear hsz0
  have hval : ∀ (j : Nat) t v, Tryd.f3.params[j]? = some t → args[j]? = some v → Value.okWide Tryd.prog W .any base t v := hval0
  have hW' := hW
  obtain ⟨p, q, hA0, hV, rfl, _, _⟩ := hW
  have hA : DataW.TrodAll enc Tryd.prog W 0 (fun _ => true) true Tryd.f3.params.toList args.toList ds p := hA0
  rw [Tryd.params3] at hA hval hsz
  obtain ⟨v0, vs0, d0, ds0, p0, q0, hargs, rfl, rfl, h0, r0⟩ := trodAll_cons hA
  obtain ⟨v1, vs1, d1, ds1, p1, q1, rfl, rfl, rfl, h1, r1⟩ := trodAll_cons r0
  obtain ⟨rfl, rfl, rfl⟩ := trodAll_nil r1
  obtain rfl : args = #[v0, v1] := by cases args; simp_all
  obtain ⟨rfl, rfl⟩ := trodVars_none hV
  have lt0 : ∀ x ∈ p0, x.block < W.heap.size := by obtain ⟨m, hm⟩ := h0; exact DataW.trod_lt m _ _ _ hm
  obtain ⟨k0, rfl, s0⟩ := open_hue (hval 0 23 v0 rfl rfl) h0
  have lt1 : ∀ x ∈ p1, x.block < W.heap.size := by obtain ⟨m, hm⟩ := h1; exact DataW.trod_lt m _ _ _ hm
  obtain ⟨k1, rfl, s1⟩ := open_hue (hval 1 23 v1 rfl rfl) h1
  clear hA0 hval0
  refine (walk W (ctabs_of_laid hL) s0 s1).mono fun e W' ⟨he, bel⟩ => ?_
  subst he
  exact ⟨_, rfl, _, _, _, [], _, [], hW', trodAll_mk1 (shut_bool Tryd.underlying4 _), (trodAll_cons_mk (Below.trod laidOut (by kernel_rfl) (of_decide_eq_true (by kernel_rfl)) h0 bel lt0) (trodAll_cons_mk (Below.trod laidOut (by kernel_rfl) (of_decide_eq_true (by kernel_rfl)) h1 bel lt1) trodAll_mk0)), rfl, bel.frame _, fun h => by cases h⟩

theorem over : Rows.colorPartsRow.holds Tryd.pinned (OpenSpec.ofChange Rows.colorPartsSpec) :=
  OpenClaim.holds_of_wide 3 Tryd.f3 rfl rfl rfl rfl rfl rfl rfl ⟨rfl, rfl, rfl, rfl, rfl⟩ rfl rfl rfl rfl rfl (by kernel_rfl) Tryd.func3 (by kernel_rfl)
    (of_decide_eq_true (by kernel_rfl)) (by unfold Func.isWrapper; first | (rw [if_pos (by decide +kernel)]; kernel_rfl) | (rw [if_neg (by decide +kernel)]; exact ⟨rfl, rfl⟩))
    (fun os started H enc _ => lifted os started H enc)

theorem proved : Rows.ColorPartsCardSaid :=
  Claim7.holds_tied_plain_at .later [] [.data, .data] true Rows.colorPartsCard.stood.harness false
    over (fun _ h => by cases h) (by kernel_rfl) (fun _ h => by cases h) colorParts_row_tie rfl ⟨rfl, rfl⟩ (by kernel_rfl) rfl
    (fun f fn hf hfn => by
      obtain rfl : f = 3 := Option.some.inj ((show Tryd.prog.funcNamed "spyglass/spyglasslaw13.ColorParts" = some 3 by kernel_rfl).symm.trans hf) |>.symm
      obtain rfl : fn = Tryd.f3 := (Option.some.inj (Tryd.func3.symm.trans hfn)).symm
      exact ⟨by kernel_rfl, fun j t ht => by
        rw [Tryd.params3] at ht
        have hm : t ∈ [23, 23] := by simpa using Array.mem_of_getElem? ht
        have hall : ([23, 23].all fun u => !Tryd.prog.wantsStandIn u) = true := by kernel_rfl
        exact (show Tryd.prog.wantsStandIn t = false by simpa using List.all_eq_true.1 hall t hm)⟩)
    (by kernel_rfl)
end Go.Proofs.YtfbfidlgfdnneaaDoor.colorParts
