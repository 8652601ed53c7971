/-
  Proved: FeatGrows answers true for every two offers and all further features.
-/
import Derived.Test.YtpkammjbafijaaaOpen
import Derived.Test.YtpkammjbafijaaaFeatIn
import Derived.WalkKit
import Derived.Deep.RegionHeld3
namespace Go.Proofs.Ytpkammjbafijaaa.featGrows
open Go.ChangeShapes Go.WideShapes Go.ChangeAt Go.RowKit

theorem or_in {x m : Int} (h : 0 ≤ x ∧ x < 4294967296) (h' : 0 ≤ m ∧ m ≤ 4294967295) : ∃ g, bits .or .u32 x m = g ∧ (0 ≤ g ∧ g < 4294967296) ∧ inN x.toNat g.toNat := by
  refine ⟨_, u32_or x m h.1 h.2 h'.1 (by omega), ?_, ?_⟩
  · have := Nat.or_lt_two_pow (x := x.toNat) (y := m.toNat) (n := 32) (by omega) (by omega)
    omega
  · rw [inN_bits, Int.toNat_natCast]
    intro i hi
    rw [Nat.testBit_or, hi]; rfl
set_option maxHeartbeats 3200000 in
set_option maxRecDepth 100000 in
/-- The walk. -/
theorem walk {a x b y m : Int} (w : World) (h0 : (-9223372036854775808 ≤ a ∧ a ≤ 9223372036854775807) ∧ (0 ≤ x ∧ x < 4294967296)) (h1 : (-9223372036854775808 ≤ b ∧ b ≤ 9223372036854775807) ∧ (0 ≤ y ∧ y < 4294967296)) (h2 : 0 ≤ m ∧ m ≤ 4294967295) :
    Calls Try.prog 6 #[.agg #[.int .i64 a, .int .u32 x], .agg #[.int .i64 b, .int .u32 y], .int .u32 m] w fun e w' => e = .returned (.bool true) ∧ Below w.heap.size w w' := by
  obtain ⟨g, hg, hg0, hg1⟩ := or_in h0.2 h2
  have HN := Lib.hid (And.intro h0.2 (And.intro h1.2 (And.intro hg0 hg1)))
  clear h0 h1 h2 hg0 hg1
  obtain ⟨w0, hw0⟩ : ∃ w0, w0 = (w.alloc (.cells #[.int .i64 a, .int .u32 x] 24)).alloc (.cells #[.int .i64 b, .int .u32 y] 24) := ⟨_, rfl⟩
  obtain ⟨b0, hb0⟩ : ∃ b0, b0 = w.heap.size := ⟨_, rfl⟩
  obtain ⟨b1, hb1⟩ : ∃ b1, b1 = w.heap.size + 1 := ⟨_, rfl⟩
  have X0 := Lib.hid (show Two w0 b0 (.int .i64 a) (.int .u32 x) ∧ Two w0 b1 (.int .i64 b) (.int .u32 y) ∧ Below w.heap.size w w0 from by
    rw [hw0, hb0, hb1]
    exact two_boxes _ _ _ _ _ _ _)
  go_enter Try.func6, Try.ntmps6
  go_upto_region 1 with fail
  rw [← hw0, ← hb1, ← hb0]
  clear hw0 hb0 hb1
  obtain ⟨⟨a0, a1, _⟩, ⟨c0, c1, _⟩, _⟩ := X0.out
  go_wp2_with fail
  refine (choose_any _ HN.out.1 HN.out.2.1).mono ?_
  rintro e w1 ⟨rfl, hb⟩
  cases hB : (verS a && verS b)
  · rw [chS_no hB]
    clear hB
    obtain ⟨b3, hb3⟩ : ∃ b3, b3 = w1.heap.size := ⟨_, rfl⟩
    obtain ⟨w2, hw2⟩ : ∃ w2, w2 = w1.alloc (.cells #[.int .i64 0, .int .u32 0] 26) := ⟨_, rfl⟩
    have X1 := Lib.hid (show Two w2 b0 (.int .i64 a) (.int .u32 x) ∧ Two w2 b1 (.int .i64 b) (.int .u32 y) ∧ Two w2 b3 (.int .i64 0) (.int .u32 0) ∧ Below w.heap.size w w2 from by
      rw [hw2, hb3]
      exact ⟨(X0.out.1.on hb).alloc _, (X0.out.2.1.on hb).alloc _, two_new _ _ _ _, (X0.out.2.2.trans (hb.mono X0.out.2.2.size)).alloc (Nat.le_trans X0.out.2.2.size hb.size) _⟩)
    clear hb a0 a1 c0 c1 X0
    go_upto_region 2 with fail
    rw [← hw2, ← hb3]
    clear hw2 hb3
    go_wp2_with fail
    refine (fixedF_any _).mono ?_
    rintro e w3 ⟨rfl, hb⟩
    have X2 := Lib.hid (X1.out.2.2.2.trans (hb.mono X1.out.2.2.2.size))
    clear hb X1
    go_wp2_with fail
    go_ret
    exact ⟨rfl, X2.out⟩
  · rw [chS_yes hB]
    obtain ⟨V, hV⟩ : ∃ V, min a b = V := ⟨_, rfl⟩
    obtain ⟨F, hF⟩ : ∃ F : Int, ((bothN x y V : Nat) : Int) = F := ⟨_, rfl⟩
    rw [hV, hF]
    have HB := Lib.hid (And.intro hB (And.intro hV hF))
    clear hB hV hF
    obtain ⟨b3, hb3⟩ : ∃ b3, b3 = w1.heap.size := ⟨_, rfl⟩
    obtain ⟨w2, hw2⟩ : ∃ w2, w2 = w1.alloc (.cells #[.int .i64 V, .int .u32 F] 26) := ⟨_, rfl⟩
    have X1 := Lib.hid (show Two w2 b0 (.int .i64 a) (.int .u32 x) ∧ Two w2 b1 (.int .i64 b) (.int .u32 y) ∧ Two w2 b3 (.int .i64 V) (.int .u32 F) ∧ Below w.heap.size w w2 from by
      rw [hw2, hb3]
      exact ⟨(X0.out.1.on hb).alloc _, (X0.out.2.1.on hb).alloc _, two_new _ _ _ _, (X0.out.2.2.trans (hb.mono X0.out.2.2.size)).alloc (Nat.le_trans X0.out.2.2.size hb.size) _⟩)
    clear hb a0 a1 c0 c1 X0
    go_upto_region 2 with fail
    rw [← hw2, ← hb3]
    clear hw2 hb3
    obtain ⟨⟨a0, a1, _⟩, ⟨c0, c1, _⟩, _⟩ := X1.out
    by_cases h2 : 2 < a
    · go_wp2_with fail
      refine (fixedF_any _).mono ?_
      rintro e w3 ⟨rfl, hb⟩
      have X2 := Lib.hid (X1.out.2.2.2.trans (hb.mono X1.out.2.2.2.size))
      clear hb X1
      go_wp2_with fail
      go_ret
      exact ⟨rfl, X2.out⟩
    · have hw : IntKind.i64.wrap (a + 1) = a + 1 := by
        have h3 := HB.out.1
        simp only [Bool.and_eq_true] at h3
        rcases ver_cases h3.1 with rfl | rfl | rfl <;> rfl
      have hv' : (verS (a + 1) && verS b) = true := by
        have h3 := HB.out.1
        simp only [Bool.and_eq_true] at h3
        rw [h3.2, Bool.and_true]
        rcases ver_cases h3.1 with rfl | rfl | rfl
        · rfl
        · rfl
        · omega
      obtain ⟨V', hV'⟩ : ∃ V', min (a + 1) b = V' := ⟨_, rfl⟩
      obtain ⟨F', hF'⟩ : ∃ F' : Int, ((bothN g y V' : Nat) : Int) = F' := ⟨_, rfl⟩
      have hS : chS (a + 1) g b y = .tuple #[.agg #[.int .i64 V', .int .u32 F'], .int .i64 0] := by rw [chS_yes hv', hV', hF']
      have hver : verS V = true := by
        have h3 := HB.out.1
        simp only [Bool.and_eq_true] at h3
        rw [← HB.out.2.1, Int.min_def]
        split
        · exact h3.1
        · exact h3.2
      have hver' : verS V' = true := by
        simp only [Bool.and_eq_true] at hv'
        rw [← hV', Int.min_def]
        split
        · exact hv'.1
        · exact hv'.2
      have hVV : V ≤ V' := by
        rw [← HB.out.2.1, ← hV', Int.min_def, Int.min_def]
        split <;> split <;> omega
      have n5 : bits .andNot .u32 F F' = 0 := by
        have p := both_lt x y V
        have q := both_lt g y V'
        refine (outs_zero (by rw [← HB.out.2.2]; omega) (by rw [← hF']; omega)).2 ?_
        rw [← HB.out.2.2, ← hF', Int.toNat_natCast, Int.toNat_natCast]
        exact grows hver hver' hVV HN.out.2.2.2
      have HS := Lib.hid hS
      clear hS hV' hF' hv' hver hver'
      go_wp2_with fail
      refine (choose_any _ HN.out.2.2.1 HN.out.2.1).mono ?_
      rintro e w3 ⟨rfl, hb⟩
      rw [HS.out]
      obtain ⟨b4, hb4⟩ : ∃ b4, b4 = w3.heap.size := ⟨_, rfl⟩
      obtain ⟨w4, hw4⟩ : ∃ w4, w4 = w3.alloc (.cells #[.int .i64 V', .int .u32 F'] 26) := ⟨_, rfl⟩
      have X2 := Lib.hid (show Two w4 b3 (.int .i64 V) (.int .u32 F) ∧ Two w4 b4 (.int .i64 V') (.int .u32 F') ∧ Below w.heap.size w w4 from by
        rw [hw4, hb4]
        exact ⟨(X1.out.2.2.1.on hb).alloc _, two_new _ _ _ _, (X1.out.2.2.2.trans (hb.mono X1.out.2.2.2.size)).alloc (Nat.le_trans X1.out.2.2.2.size hb.size) _⟩)
      clear hb a0 a1 c0 c1 X1
      go_upto_region 5 with fail
      rw [← hw4, ← hb4]
      clear hw4 hb4
      go_wp2_with fail
      refine (fixedF_any _).mono ?_
      rintro e w5 ⟨rfl, hb⟩
      have X3 := Lib.hid (show Two w5 b3 (.int .i64 V) (.int .u32 F) ∧ Two w5 b4 (.int .i64 V') (.int .u32 F') ∧ Below w.heap.size w w5 from ⟨X2.out.1.on hb, X2.out.2.1.on hb, X2.out.2.2.trans (hb.mono X2.out.2.2.size)⟩)
      clear hb X2
      obtain ⟨⟨a0, a1, _⟩, ⟨c0, c1, _⟩, _⟩ := X3.out
      go_wp2_with fail
      go_ret
      exact ⟨rfl, X3.out.2.2⟩

set_option maxRecDepth 100000 in
theorem lifted (os : Os) (started : os.Started) (H : Type) (enc : TypeId × Value → H) :
    ReturnsInHanded {} Try.checked os 6 .any (Rows.featGrowsSpec.pre6 enc Try.prog Try.f6 Rows.featGrowsRow.domain false) (Rows.featGrowsSpec.post enc Try.prog Try.f6 false true false false) := by
  refine returnsInHanded_of_change_sized (C := Try.checked) own started (by kernel_rfl) Try.func6
    (ChangeSpec.witness6 (enc := enc) (C := Try.checked) false ⟨#[], #[.agg #[.int .i64 0, .int .u32 0], .agg #[.int .i64 0, .int .u32 0], .int .u32 0], []⟩ 8 (by kernel_rfl) (by kernel_rfl) (by kernel_rfl) (by kernel_rfl)) ?_
  intro W base args ds gs before hval0 hW _ hsz0 _
  have hsz : (DataW.weightsEach Try.prog (Try.f6.params.toList ++ Rows.featGrowsSpec.plain.varTypes Try.prog) (ds ++ gs)).all (· ≤ reachBytes) = true := hsz0
  clear hsz0
  have hval : ∀ (j : Nat) t v, Try.f6.params[j]? = some t → args[j]? = some v → Value.okWide Try.prog W .any base t v := hval0
  have hW' := hW
  obtain ⟨p, q, hA0, hV, rfl, _, _⟩ := hW
  have hA : DataW.TrodAll enc Try.prog W 0 (fun _ => true) true Try.f6.params.toList args.toList ds p := hA0
  rw [Try.params6] at hA hval hsz
  obtain ⟨v0, vs0, d0, ds0, p0, q0, hargs, rfl, rfl, h0, r0⟩ := trodAll_cons hA
  obtain ⟨v1, vs1, d1, ds1, p1, q1, rfl, rfl, rfl, h1, r1⟩ := trodAll_cons r0
  obtain ⟨v2, vs2, d2, ds2, p2, q2, rfl, rfl, rfl, h2, r2⟩ := trodAll_cons r1
  obtain ⟨rfl, rfl, rfl⟩ := trodAll_nil r2
  obtain rfl : args = #[v0, v1, v2] := by cases args; simp_all
  obtain ⟨rfl, rfl⟩ := trodVars_none hV
  have lt0 : ∀ x ∈ p0, x.block < W.heap.size := by obtain ⟨m, hm⟩ := h0; exact DataW.trod_lt m _ _ _ hm
  obtain ⟨k0, f0, rfl, s0⟩ := open_offer (hval 0 24 v0 rfl rfl) h0
  have lt1 : ∀ x ∈ p1, x.block < W.heap.size := by obtain ⟨m, hm⟩ := h1; exact DataW.trod_lt m _ _ _ hm
  obtain ⟨k1, f1, rfl, s1⟩ := open_offer (hval 1 24 v1 rfl rfl) h1
  have lt2 : ∀ x ∈ p2, x.block < W.heap.size := by obtain ⟨m, hm⟩ := h2; exact DataW.trod_lt m _ _ _ hm
  obtain ⟨k2, rfl, s2⟩ := open_u32h (hval 2 22 v2 rfl rfl) h2
  clear hA0 hval0
  refine (walk W s0 s1 s2).mono fun e W' ⟨he, bel⟩ => ?_
  subst he
  exact ⟨_, rfl, _, _, _, [], _, [], hW', trodAll_mk1 (shut_bool Try.underlying4 _), (trodAll_cons_mk (Below.trod laidOut (by kernel_rfl) (of_decide_eq_true (by kernel_rfl)) h0 bel lt0) (trodAll_cons_mk (Below.trod laidOut (by kernel_rfl) (of_decide_eq_true (by kernel_rfl)) h1 bel lt1) (trodAll_cons_mk (Below.trod laidOut (by kernel_rfl) (of_decide_eq_true (by kernel_rfl)) h2 bel lt2) trodAll_mk0))), rfl, bel.frame _, fun h => by cases h⟩

theorem over : Rows.featGrowsRow.holds Try.pinned (OpenSpec.ofChange Rows.featGrowsSpec) :=
  OpenClaim.holds_of_wide 6 Try.f6 rfl rfl rfl rfl rfl rfl rfl ⟨rfl, rfl, rfl, rfl, rfl⟩ rfl rfl rfl rfl rfl (by kernel_rfl) Try.func6 (by kernel_rfl)
    (of_decide_eq_true (by kernel_rfl)) (by unfold Func.isWrapper; first | (rw [if_pos (by decide +kernel)]; kernel_rfl) | (rw [if_neg (by decide +kernel)]; exact ⟨rfl, rfl⟩))
    (fun os started H enc _ => lifted os started H enc)

theorem proved : Rows.FeatGrowsSaid := over
end Go.Proofs.Ytpkammjbafijaaa.featGrows
