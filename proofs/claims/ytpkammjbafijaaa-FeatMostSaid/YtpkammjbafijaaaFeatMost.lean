/-
  Proved: FeatMost answers true for every two offers and every choice, whatever numbers and features they hold.
-/
import Derived.Test.YtpkammjbafijaaaOpen
import Derived.Test.YtpkammjbafijaaaFeatIn
import Derived.WalkKit
import Derived.Deep.RegionHeld3
namespace Go.Proofs.Ytpkammjbafijaaa.featMost
open Go.ChangeShapes Go.WideShapes Go.ChangeAt Go.RowKit

set_option maxHeartbeats 3200000 in
set_option maxRecDepth 100000 in
/-- The walk. -/
theorem walk {a x b y v f : Int} (w : World) (h0 : (-9223372036854775808 ≤ a ∧ a ≤ 9223372036854775807) ∧ (0 ≤ x ∧ x < 4294967296)) (h1 : (-9223372036854775808 ≤ b ∧ b ≤ 9223372036854775807) ∧ (0 ≤ y ∧ y < 4294967296)) (h2 : (-9223372036854775808 ≤ v ∧ v ≤ 9223372036854775807) ∧ (0 ≤ f ∧ f < 4294967296)) :
    Calls Try.prog 4 #[.agg #[.int .i64 a, .int .u32 x], .agg #[.int .i64 b, .int .u32 y], .agg #[.int .i64 v, .int .u32 f]] w fun e w' => e = .returned (.bool true) ∧ Below w.heap.size w w' := by
  have HN := Lib.hid (And.intro h0.2 (And.intro h1.2 h2.2))
  clear h0 h1 h2
  obtain ⟨w0, hw0⟩ : ∃ w0, w0 = ((w.alloc (.cells #[.int .i64 a, .int .u32 x] 24)).alloc (.cells #[.int .i64 b, .int .u32 y] 24)).alloc (.cells #[.int .i64 v, .int .u32 f] 26) := ⟨_, rfl⟩
  obtain ⟨b0, hb0⟩ : ∃ b0, b0 = w.heap.size := ⟨_, rfl⟩
  obtain ⟨b1, hb1⟩ : ∃ b1, b1 = w.heap.size + 1 := ⟨_, rfl⟩
  obtain ⟨b2, hb2⟩ : ∃ b2, b2 = w.heap.size + 1 + 1 := ⟨_, rfl⟩
  have X0 := Lib.hid (show Two w0 b0 (.int .i64 a) (.int .u32 x) ∧ Two w0 b1 (.int .i64 b) (.int .u32 y) ∧ Two w0 b2 (.int .i64 v) (.int .u32 f) ∧ Below w.heap.size w w0 from by
    rw [hw0, hb0, hb1, hb2]
    exact three_boxes _ _ _ _ _ _ _ _ _ _)
  go_enter Try.func4, Try.ntmps4
  go_upto_region 1 with fail
  rw [← hw0, ← hb2, ← hb1, ← hb0]
  clear hw0 hb0 hb1 hb2
  obtain ⟨⟨a0, a1, _⟩, ⟨c0, c1, _⟩, _, _⟩ := X0.out
  go_wp2_with fail
  refine (choose_any _ HN.out.1 HN.out.2.1).mono ?_
  rintro e w1 ⟨rfl, hb⟩
  have hgd := guardCh
  cases hB : (verS a && verS b)
  · rw [chS_no hB]
    have hq : ∀ w, (binOp .eql 26 (.agg #[.int .i64 0, .int .u32 0]) (.agg #[.int .i64 0, .int .u32 0])).run Try.prog w = .ok (.bool true) w := fun w => ch_eql 0 0 w
    clear hB
    obtain ⟨b3, hb3⟩ : ∃ b3, b3 = w1.heap.size := ⟨_, rfl⟩
    obtain ⟨w2, hw2⟩ : ∃ w2, w2 = w1.alloc (.cells #[.int .i64 0, .int .u32 0] 26) := ⟨_, rfl⟩
    have X1 := Lib.hid (show Two w2 b0 (.int .i64 a) (.int .u32 x) ∧ Two w2 b1 (.int .i64 b) (.int .u32 y) ∧ Two w2 b2 (.int .i64 v) (.int .u32 f) ∧ Two w2 b3 (.int .i64 0) (.int .u32 0) ∧ Below w.heap.size w w2 from by
      rw [hw2, hb3]
      exact ⟨(X0.out.1.on hb).alloc _, (X0.out.2.1.on hb).alloc _, (X0.out.2.2.1.on hb).alloc _, two_new _ _ _ _, (X0.out.2.2.2.trans (hb.mono X0.out.2.2.2.size)).alloc (Nat.le_trans X0.out.2.2.2.size hb.size) _⟩)
    clear hb a0 a1 c0 c1 X0
    go_upto_region 2 with fail
    rw [← hw2, ← hb3]
    clear hw2 hb3
    go_wp2_with fail
    refine (fixedF_any _).mono ?_
    rintro e w3 ⟨rfl, hb⟩
    have t3 := X1.out.2.2.2.1.on hb
    have X2 := Lib.hid (X1.out.2.2.2.2.trans (hb.mono X1.out.2.2.2.2.size))
    clear hb X1
    obtain ⟨d0, d1, _⟩ := t3
    go_wp2_with fail
    go_ret
    exact ⟨rfl, X2.out⟩
  · rw [chS_yes hB]
    obtain ⟨V, hV⟩ : ∃ V, min a b = V := ⟨_, rfl⟩
    obtain ⟨F, hF⟩ : ∃ F : Int, ((bothN x y V : Nat) : Int) = F := ⟨_, rfl⟩
    rw [hV, hF]
    have hvV : verS V = true := by
      simp only [Bool.and_eq_true] at hB
      rw [← hV, Int.min_def]
      split
      · exact hB.1
      · exact hB.2
    have hF0 : 0 ≤ F ∧ F < 4294967296 := by have := both_lt x y V; omega
    have HV := Lib.hid (show verS V = true ∧ (bothN x y V : Int) = F ∧ min a b = V ∧ (0 ≤ F ∧ F < 4294967296) from ⟨hvV, hF, hV, hF0⟩)
    have hm : mayS V F = true := by rw [← hF]; exact both_may hvV
    have n1 : ¬ a < V := by rw [← hV, Int.min_def]; split <;> omega
    have n2 : ¬ b < V := by rw [← hV, Int.min_def]; split <;> omega
    have n3 : bits .andNot .u32 F x = 0 := (outs_zero hF0 HN.out.1).2 (by rw [← hF]; exact both_x x y V)
    have n4 : bits .andNot .u32 F y = 0 := (outs_zero hF0 HN.out.2.1).2 (by rw [← hF]; exact both_y x y V)
    clear hB hvV hF hF0 hV
    obtain ⟨b3, hb3⟩ : ∃ b3, b3 = w1.heap.size := ⟨_, rfl⟩
    obtain ⟨w2, hw2⟩ : ∃ w2, w2 = w1.alloc (.cells #[.int .i64 V, .int .u32 F] 26) := ⟨_, rfl⟩
    have X1 := Lib.hid (show Two w2 b0 (.int .i64 a) (.int .u32 x) ∧ Two w2 b1 (.int .i64 b) (.int .u32 y) ∧ Two w2 b2 (.int .i64 v) (.int .u32 f) ∧ Two w2 b3 (.int .i64 V) (.int .u32 F) ∧ Below w.heap.size w w2 from by
      rw [hw2, hb3]
      exact ⟨(X0.out.1.on hb).alloc _, (X0.out.2.1.on hb).alloc _, (X0.out.2.2.1.on hb).alloc _, two_new _ _ _ _, (X0.out.2.2.2.trans (hb.mono X0.out.2.2.2.size)).alloc (Nat.le_trans X0.out.2.2.2.size hb.size) _⟩)
    clear hb a0 a1 c0 c1 X0
    go_upto_region 2 with fail
    rw [← hw2, ← hb3]
    clear hw2 hb3
    go_wp2_with fail
    refine (fixedF_any _).mono ?_
    rintro e w3 ⟨rfl, hb⟩
    have X2 := Lib.hid (show Two w3 b0 (.int .i64 a) (.int .u32 x) ∧ Two w3 b1 (.int .i64 b) (.int .u32 y) ∧ Two w3 b2 (.int .i64 v) (.int .u32 f) ∧ Two w3 b3 (.int .i64 V) (.int .u32 F) ∧ Below w.heap.size w w3 from ⟨X1.out.1.on hb, X1.out.2.1.on hb, X1.out.2.2.1.on hb, X1.out.2.2.2.1.on hb, X1.out.2.2.2.2.trans (hb.mono X1.out.2.2.2.2.size)⟩)
    clear hb X1
    obtain ⟨d0, d1, _⟩ := X2.out.2.2.2.1
    go_wp2_with fail
    refine (fMay_any _ HV.out.2.2.2).mono ?_
    rintro e w4 ⟨rfl, hb⟩
    rw [hm]
    clear hm
    have X3 := Lib.hid (show Two w4 b0 (.int .i64 a) (.int .u32 x) ∧ Two w4 b1 (.int .i64 b) (.int .u32 y) ∧ Two w4 b2 (.int .i64 v) (.int .u32 f) ∧ Two w4 b3 (.int .i64 V) (.int .u32 F) ∧ Below w.heap.size w w4 from ⟨X2.out.1.on hb, X2.out.2.1.on hb, X2.out.2.2.1.on hb, X2.out.2.2.2.1.on hb, X2.out.2.2.2.2.trans (hb.mono X2.out.2.2.2.2.size)⟩)
    clear hb X2 d0 d1
    obtain ⟨⟨a0, a1, _⟩, ⟨c0, c1, _⟩, ⟨e0, e1, _⟩, ⟨d0, d1, _⟩, _⟩ := X3.out
    go_wp2_with fail
    refine (fMay_any _ HN.out.2.2).mono ?_
    rintro e w5 ⟨rfl, hb⟩
    have X4 := Lib.hid (show Two w5 b0 (.int .i64 a) (.int .u32 x) ∧ Two w5 b1 (.int .i64 b) (.int .u32 y) ∧ Two w5 b2 (.int .i64 v) (.int .u32 f) ∧ Two w5 b3 (.int .i64 V) (.int .u32 F) ∧ Below w.heap.size w w5 from ⟨X3.out.1.on hb, X3.out.2.1.on hb, X3.out.2.2.1.on hb, X3.out.2.2.2.1.on hb, X3.out.2.2.2.2.trans (hb.mono X3.out.2.2.2.2.size)⟩)
    clear hb X3 d0 d1 a0 a1 c0 c1 e0 e1 n1 n2 n3 n4
    obtain ⟨⟨a0, a1, _⟩, ⟨c0, c1, _⟩, ⟨e0, e1, _⟩, ⟨d0, d1, _⟩, _⟩ := X4.out
    obtain ⟨m, hm⟩ : ∃ m, mayS v f = m := ⟨_, rfl⟩
    rw [hm]
    have HM := Lib.hid hm
    clear hm
    cases m
    · go_wp2_with fail
      go_ret
      exact ⟨rfl, X4.out.2.2.2.2⟩
    · by_cases k1 : v ≤ a
      · by_cases k2 : v ≤ b
        · obtain ⟨Z1, hZ1⟩ : ∃ Z1, bits .andNot .u32 f x = Z1 := ⟨_, rfl⟩
          by_cases k3 : Z1 = 0
          · obtain ⟨Z2, hZ2⟩ : ∃ Z2, bits .andNot .u32 f y = Z2 := ⟨_, rfl⟩
            by_cases k4 : Z2 = 0
            · have hvV : v ≤ V := by have := HV.out.2.2.1; rw [← this, Int.min_def]; split <;> omega
              have n5 : bits .andNot .u32 f F = 0 := (outs_zero HN.out.2.2 HV.out.2.2.2).2 (by
                have hq := most HM.out HV.out.1 hvV ((outs_zero HN.out.2.2 HN.out.1).1 (hZ1.trans k3)) ((outs_zero HN.out.2.2 HN.out.2.1).1 (hZ2.trans k4))
                rw [← HV.out.2.1]
                exact hq)
              subst k3 k4
              go_wp2_with fail
              go_ret
              exact ⟨rfl, X4.out.2.2.2.2⟩
            · have k5 : (Z2 == 0) = false := by simpa using k4
              subst k3
              clear k4
              go_wp2_with fail
              go_ret
              exact ⟨rfl, X4.out.2.2.2.2⟩
          · have k5 : (Z1 == 0) = false := by simpa using k3
            clear k3
            go_wp2_with fail
            go_ret
            exact ⟨rfl, X4.out.2.2.2.2⟩
        · go_wp2_with fail
          go_ret
          exact ⟨rfl, X4.out.2.2.2.2⟩
      · go_wp2_with fail
        go_ret
        exact ⟨rfl, X4.out.2.2.2.2⟩

set_option maxRecDepth 100000 in
theorem lifted (os : Os) (started : os.Started) (H : Type) (enc : TypeId × Value → H) :
    ReturnsInHanded {} Try.checked os 4 .any (Rows.featMostSpec.pre6 enc Try.prog Try.f4 Rows.featMostRow.domain false) (Rows.featMostSpec.post enc Try.prog Try.f4 false true false false) := by
  refine returnsInHanded_of_change_sized (C := Try.checked) own started (by kernel_rfl) Try.func4
    (ChangeSpec.witness6 (enc := enc) (C := Try.checked) false ⟨#[], #[.agg #[.int .i64 0, .int .u32 0], .agg #[.int .i64 0, .int .u32 0], .agg #[.int .i64 0, .int .u32 0]], []⟩ 8 (by kernel_rfl) (by kernel_rfl) (by kernel_rfl) (by kernel_rfl)) ?_
  intro W base args ds gs before hval0 hW _ hsz0 _
  have hsz : (DataW.weightsEach Try.prog (Try.f4.params.toList ++ Rows.featMostSpec.plain.varTypes Try.prog) (ds ++ gs)).all (· ≤ reachBytes) = true := hsz0
  clear hsz0
  have hval : ∀ (j : Nat) t v, Try.f4.params[j]? = some t → args[j]? = some v → Value.okWide Try.prog W .any base t v := hval0
  have hW' := hW
  obtain ⟨p, q, hA0, hV, rfl, _, _⟩ := hW
  have hA : DataW.TrodAll enc Try.prog W 0 (fun _ => true) true Try.f4.params.toList args.toList ds p := hA0
  rw [Try.params4] at hA hval hsz
  obtain ⟨v0, vs0, d0, ds0, p0, q0, hargs, rfl, rfl, h0, r0⟩ := trodAll_cons hA
  obtain ⟨v1, vs1, d1, ds1, p1, q1, rfl, rfl, rfl, h1, r1⟩ := trodAll_cons r0
  obtain ⟨v2, vs2, d2, ds2, p2, q2, rfl, rfl, rfl, h2, r2⟩ := trodAll_cons r1
  obtain ⟨rfl, rfl, rfl⟩ := trodAll_nil r2
  obtain rfl : args = #[v0, v1, v2] := by cases args; simp_all
  obtain ⟨rfl, rfl⟩ := trodVars_none hV
  have lt0 : ∀ x ∈ p0, x.block < W.heap.size := by obtain ⟨m, hm⟩ := h0; exact DataW.trod_lt m _ _ _ hm
  obtain ⟨k0, f0, rfl, s0⟩ := open_offer (hval 0 24 v0 rfl rfl) h0
  have lt1 : ∀ x ∈ p1, x.block < W.heap.size := by obtain ⟨m, hm⟩ := h1; exact DataW.trod_lt m _ _ _ hm
  obtain ⟨k1, f1, rfl, s1⟩ := open_offer (hval 1 24 v1 rfl rfl) h1
  have lt2 : ∀ x ∈ p2, x.block < W.heap.size := by obtain ⟨m, hm⟩ := h2; exact DataW.trod_lt m _ _ _ hm
  obtain ⟨k2, f2, rfl, s2⟩ := open_choice (hval 2 26 v2 rfl rfl) h2
  clear hA0 hval0
  refine (walk W s0 s1 s2).mono fun e W' ⟨he, bel⟩ => ?_
  subst he
  exact ⟨_, rfl, _, _, _, [], _, [], hW', trodAll_mk1 (shut_bool Try.underlying4 _), (trodAll_cons_mk (Below.trod laidOut (by kernel_rfl) (of_decide_eq_true (by kernel_rfl)) h0 bel lt0) (trodAll_cons_mk (Below.trod laidOut (by kernel_rfl) (of_decide_eq_true (by kernel_rfl)) h1 bel lt1) (trodAll_cons_mk (Below.trod laidOut (by kernel_rfl) (of_decide_eq_true (by kernel_rfl)) h2 bel lt2) trodAll_mk0))), rfl, bel.frame _, fun h => by cases h⟩

theorem over : Rows.featMostRow.holds Try.pinned (OpenSpec.ofChange Rows.featMostSpec) :=
  OpenClaim.holds_of_wide 4 Try.f4 rfl rfl rfl rfl rfl rfl rfl ⟨rfl, rfl, rfl, rfl, rfl⟩ rfl rfl rfl rfl rfl (by kernel_rfl) Try.func4 (by kernel_rfl)
    (of_decide_eq_true (by kernel_rfl)) (by unfold Func.isWrapper; first | (rw [if_pos (by decide +kernel)]; kernel_rfl) | (rw [if_neg (by decide +kernel)]; exact ⟨rfl, rfl⟩))
    (fun os started H enc _ => lifted os started H enc)

theorem proved : Rows.FeatMostSaid := over
end Go.Proofs.Ytpkammjbafijaaa.featMost
