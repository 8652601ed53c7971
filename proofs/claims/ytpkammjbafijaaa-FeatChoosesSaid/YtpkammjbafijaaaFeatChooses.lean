/-
  Proved: FeatChooses answers true for every two offers and every choice, whatever numbers and features they hold.
-/
import Derived.Test.YtpkammjbafijaaaOpen
import Derived.Test.YtpkammjbafijaaaFeatIn
import Derived.WalkKit
import Derived.Deep.RegionHeld3
namespace Go.Proofs.Ytpkammjbafijaaa.featChooses
open Go.ChangeShapes Go.WideShapes Go.ChangeAt Go.RowKit

set_option maxHeartbeats 3200000 in
set_option maxRecDepth 100000 in
/-- The walk. -/
theorem walk {a x b y v f : Int} (w : World) (h0 : (-9223372036854775808 ≤ a ∧ a ≤ 9223372036854775807) ∧ (0 ≤ x ∧ x < 4294967296)) (h1 : (-9223372036854775808 ≤ b ∧ b ≤ 9223372036854775807) ∧ (0 ≤ y ∧ y < 4294967296)) (h2 : (-9223372036854775808 ≤ v ∧ v ≤ 9223372036854775807) ∧ (0 ≤ f ∧ f < 4294967296)) :
    Calls Try.prog 3 #[.agg #[.int .i64 a, .int .u32 x], .agg #[.int .i64 b, .int .u32 y], .agg #[.int .i64 v, .int .u32 f]] w fun e w' => e = .returned (.bool true) ∧ Below w.heap.size w w' := by
  have HN := Lib.hid (And.intro h0.2 (And.intro h1.2 h2.2))
  clear h0 h1 h2
  obtain ⟨w0, hw0⟩ : ∃ w0, w0 = ((w.alloc (.cells #[.int .i64 a, .int .u32 x] 24)).alloc (.cells #[.int .i64 b, .int .u32 y] 24)).alloc (.cells #[.int .i64 v, .int .u32 f] 26) := ⟨_, rfl⟩
  obtain ⟨b0, hb0⟩ : ∃ b0, b0 = w.heap.size := ⟨_, rfl⟩
  obtain ⟨b1, hb1⟩ : ∃ b1, b1 = w.heap.size + 1 := ⟨_, rfl⟩
  obtain ⟨b2, hb2⟩ : ∃ b2, b2 = w.heap.size + 1 + 1 := ⟨_, rfl⟩
  have X0 := Lib.hid (show Two w0 b0 (.int .i64 a) (.int .u32 x) ∧ Two w0 b1 (.int .i64 b) (.int .u32 y) ∧ Two w0 b2 (.int .i64 v) (.int .u32 f) ∧ Below w.heap.size w w0 from by
    have s1 : (w.alloc (.cells #[.int .i64 a, .int .u32 x] 24)).heap.size = w.heap.size + 1 := by simp
    have s2 : ((w.alloc (.cells #[.int .i64 a, .int .u32 x] 24)).alloc (.cells #[.int .i64 b, .int .u32 y] 24)).heap.size = w.heap.size + 1 + 1 := by simp
    rw [hw0, hb0, hb1, hb2]
    refine ⟨((two_new w _ _ _).alloc _).alloc _, ?_, ?_, (((Below.refl _ _).alloc (Nat.le_refl _) _).alloc (by simp) _).alloc (by simp; omega) _⟩
    · have := (two_new (w.alloc (.cells #[.int .i64 a, .int .u32 x] 24)) (.int .i64 b) (.int .u32 y) 24).alloc (.cells #[.int .i64 v, .int .u32 f] 26)
      rw [s1] at this
      exact this
    · have := two_new ((w.alloc (.cells #[.int .i64 a, .int .u32 x] 24)).alloc (.cells #[.int .i64 b, .int .u32 y] 24)) (.int .i64 v) (.int .u32 f) 26
      rw [s2] at this
      exact this)
  go_enter Try.func3, Try.ntmps3
  go_upto_region 1 with fail
  rw [← hw0, ← hb2, ← hb1, ← hb0]
  clear hw0 hb0 hb1 hb2
  obtain ⟨⟨a0, a1, _⟩, ⟨c0, c1, _⟩, _, _⟩ := X0.out
  go_wp2_with fail
  refine (choose_any _ HN.out.1 HN.out.2.1).mono ?_
  rintro e w1 ⟨rfl, hb⟩
  obtain ⟨V, F, E, hS⟩ : ∃ V F E, chS a x b y = .tuple #[.agg #[.int .i64 V, .int .u32 F], .int .i64 E] := ⟨_, _, _, rfl⟩
  rw [hS]
  have HS := Lib.hid hS
  clear hS
  obtain ⟨b3, hb3⟩ : ∃ b3, b3 = w1.heap.size := ⟨_, rfl⟩
  obtain ⟨w2, hw2⟩ : ∃ w2, w2 = w1.alloc (.cells #[.int .i64 V, .int .u32 F] 26) := ⟨_, rfl⟩
  have X1 := Lib.hid (show Two w2 b0 (.int .i64 a) (.int .u32 x) ∧ Two w2 b1 (.int .i64 b) (.int .u32 y) ∧ Two w2 b2 (.int .i64 v) (.int .u32 f) ∧ Two w2 b3 (.int .i64 V) (.int .u32 F) ∧ Below w.heap.size w w2 from by
    rw [hw2, hb3]
    exact ⟨(X0.out.1.on hb).alloc _, (X0.out.2.1.on hb).alloc _, (X0.out.2.2.1.on hb).alloc _, two_new _ _ _ _, (X0.out.2.2.2.trans (hb.mono X0.out.2.2.2.size)).alloc (Nat.le_trans X0.out.2.2.2.size hb.size) _⟩)
  clear hb a0 a1 c0 c1 X0
  go_upto_region 2 with fail
  rw [← hw2, ← hb3]
  clear hw2 hb3
  obtain ⟨⟨a0, a1, _⟩, ⟨c0, c1, _⟩, _, _⟩ := X1.out
  go_wp2_with fail
  refine (rChoose_any _ HN.out.1 HN.out.2.1).mono ?_
  rintro e w3 ⟨rfl, hb⟩
  rw [HS.out]
  obtain ⟨b4, hb4⟩ : ∃ b4, b4 = w3.heap.size := ⟨_, rfl⟩
  obtain ⟨w4, hw4⟩ : ∃ w4, w4 = w3.alloc (.cells #[.int .i64 V, .int .u32 F] 26) := ⟨_, rfl⟩
  have X2 := Lib.hid (show Two w4 b2 (.int .i64 v) (.int .u32 f) ∧ Two w4 b3 (.int .i64 V) (.int .u32 F) ∧ Two w4 b4 (.int .i64 V) (.int .u32 F) ∧ Below w.heap.size w w4 from by
    rw [hw4, hb4]
    exact ⟨(X1.out.2.2.1.on hb).alloc _, (X1.out.2.2.2.1.on hb).alloc _, two_new _ _ _ _, (X1.out.2.2.2.2.trans (hb.mono X1.out.2.2.2.2.size)).alloc (Nat.le_trans X1.out.2.2.2.2.size hb.size) _⟩)
  clear hb a0 a1 c0 c1 X1
  go_upto_region 3 with fail
  rw [← hw4, ← hb4]
  clear hw4 hb4
  have SX := Lib.hid (show ∀ w', Below w4.heap.size w4 w' → (Below w4.heap.size w4 w' ∧ (w'.cell? ⟨b2, 0, none⟩ = some (.int .i64 v) ∧ w'.cell? ⟨b2, 1, none⟩ = some (.int .u32 f) ∧ w'.cell? ⟨b3, 0, none⟩ = some (.int .i64 V) ∧ w'.cell? ⟨b3, 1, none⟩ = some (.int .u32 F) ∧ w'.cell? ⟨b4, 0, none⟩ = some (.int .i64 V) ∧ w'.cell? ⟨b4, 1, none⟩ = some (.int .u32 F))) from fun w' hb => by
    have t2 := X2.out.1.on hb
    have t3 := X2.out.2.1.on hb
    have t4 := X2.out.2.2.1.on hb
    exact ⟨hb, t2.c0, t2.c1, t3.c0, t3.c1, t4.c0, t4.c1⟩)
  have P0 := Lib.hid (show ∀ w', Below w4.heap.size w4 w' → Calls Try.prog 9 #[] w' fun e w'' => e = .returned (.bool true) ∧ Below w4.heap.size w4 w'' from fun w' hb => (fixedF_any w').mono fun _ _ h => ⟨h.1, hb.trans (h.2.mono hb.size)⟩)
  have P1 := Lib.hid (show ∀ w', Below w4.heap.size w4 w' → Calls Try.prog 10 #[.agg #[.int .i64 v, .int .u32 f]] w' fun e w'' => e = .returned (.bool (mayS v f)) ∧ Below w4.heap.size w4 w'' from fun w' hb => (fMay_any w' HN.out.2.2).mono fun _ _ h => ⟨h.1, hb.trans (h.2.mono hb.size)⟩)
  have P2 := Lib.hid (show ∀ w', Below w4.heap.size w4 w' → Calls Try.prog 11 #[.agg #[.int .i64 v, .int .u32 f]] w' fun e w'' => e = .returned (.bool (mayS v f)) ∧ Below w4.heap.size w4 w'' from fun w' hb => (rMay_any w' HN.out.2.2).mono fun _ _ h => ⟨h.1, hb.trans (h.2.mono hb.size)⟩)
  have P3 := Lib.hid (show ∀ w', Calls Try.prog 12 #[.int .i64 v] w' fun e w'' => e = .returned (.int .u32 (ceilN v)) ∧ w' = w'' from fun w' => ceil_any w')
  have P4 := Lib.hid (show ∀ w', Calls Try.prog 13 #[.int .i64 v] w' fun e w'' => e = .returned (.int .u32 (ceilN v)) ∧ w' = w'' from fun w' => (rceil_any w').mono fun _ _ h => ⟨h.1, h.2.symm⟩)
  have hq : ∀ w, (binOp .eql 26 (.agg #[.int .i64 V, .int .u32 F]) (.agg #[.int .i64 V, .int .u32 F])).run Try.prog w = .ok (.bool true) w := fun w => ch_eql V F w
  have hgd := guardCh
  have hb0 : Below w4.heap.size w4 w4 := Below.refl _ _
  generalize mayS v f = B1 at P1 P2
  generalize ((ceilN v : Nat) : Int) = B3 at P3 P4
  go_region_held3 (fun w' => Below w4.heap.size w4 w' ∧ (w'.cell? ⟨b2, 0, none⟩ = some (.int .i64 v) ∧ w'.cell? ⟨b2, 1, none⟩ = some (.int .u32 f) ∧ w'.cell? ⟨b3, 0, none⟩ = some (.int .i64 V) ∧ w'.cell? ⟨b3, 1, none⟩ = some (.int .u32 F) ∧ w'.cell? ⟨b4, 0, none⟩ = some (.int .i64 V) ∧ w'.cell? ⟨b4, 1, none⟩ = some (.int .u32 F)))
    ((refine SX.out _ ?_; (try go_split_ands); first | assumption | exact belowNf (by assumption) 1))
    ((first
      | (go_at_call 9; (try go_split_ands); refine (P0.out _ (by assumption)).mono ?_; rintro e w5 ⟨rfl, hb5⟩)
      | (go_at_call 10; (try go_split_ands); refine (P1.out _ (by assumption)).mono ?_; rintro e w6 ⟨rfl, hb6⟩)
      | (go_at_call 11; (try go_split_ands); refine (P2.out _ (by assumption)).mono ?_; rintro e w7 ⟨rfl, hb7⟩)
      | (go_at_call 12; (try go_split_ands); refine (P3.out _).mono ?_; rintro e w8 ⟨rfl, rfl⟩)
      | (go_at_call 13; (try go_split_ands); refine (P4.out _).mono ?_; rintro e w9 ⟨rfl, rfl⟩)))
  go_wp2_with fail
  go_ret
  exact ⟨rfl, X2.out.2.2.2.trans (hb7.mono X2.out.2.2.2.size)⟩

set_option maxRecDepth 100000 in
theorem lifted (os : Os) (started : os.Started) (H : Type) (enc : TypeId × Value → H) :
    ReturnsInHanded {} Try.checked os 3 .any (Rows.featChoosesSpec.pre6 enc Try.prog Try.f3 Rows.featChoosesRow.domain false) (Rows.featChoosesSpec.post enc Try.prog Try.f3 false true false false) := by
  refine returnsInHanded_of_change_sized (C := Try.checked) own started (by kernel_rfl) Try.func3
    (ChangeSpec.witness6 (enc := enc) (C := Try.checked) false ⟨#[], #[.agg #[.int .i64 0, .int .u32 0], .agg #[.int .i64 0, .int .u32 0], .agg #[.int .i64 0, .int .u32 0]], []⟩ 8 (by kernel_rfl) (by kernel_rfl) (by kernel_rfl) (by kernel_rfl)) ?_
  intro W base args ds gs before hval0 hW _ hsz0 _
  have hsz : (DataW.weightsEach Try.prog (Try.f3.params.toList ++ Rows.featChoosesSpec.plain.varTypes Try.prog) (ds ++ gs)).all (· ≤ reachBytes) = true := hsz0
  clear hsz0
  have hval : ∀ (j : Nat) t v, Try.f3.params[j]? = some t → args[j]? = some v → Value.okWide Try.prog W .any base t v := hval0
  have hW' := hW
  obtain ⟨p, q, hA0, hV, rfl, _, _⟩ := hW
  have hA : DataW.TrodAll enc Try.prog W 0 (fun _ => true) true Try.f3.params.toList args.toList ds p := hA0
  rw [Try.params3] at hA hval hsz
  obtain ⟨v0, vs0, d0, ds0, p0, q0, hargs, rfl, rfl, h0, r0⟩ := trodAll_cons hA
  obtain ⟨v1, vs1, d1, ds1, p1, q1, rfl, rfl, rfl, h1, r1⟩ := trodAll_cons r0
  obtain ⟨v2, vs2, d2, ds2, p2, q2, rfl, rfl, rfl, h2, r2⟩ := trodAll_cons r1
  obtain ⟨rfl, rfl, rfl⟩ := trodAll_nil r2
  obtain rfl : args = #[v0, v1, v2] := by cases args; simp_all
  obtain ⟨rfl, rfl⟩ := trodVars_none hV
  have lt0 : ∀ x ∈ p0, x.block < W.heap.size := by obtain ⟨m, hm⟩ := h0; exact DataW.trod_lt m _ _ _ hm
  obtain ⟨k0, f0, rfl, s0⟩ := open_offer (hval 0 24 v0 rfl rfl) h0
  have lt1 : ∀ x ∈ p1, x.block < W.heap.size := by obtain ⟨m, hm⟩ := h1; exact DataW.trod_lt m _ _ _ hm
  obtain ⟨k1, f1, rfl, s1⟩ := open_offer (hval 1 24 v1 rfl rfl) h1
  have lt2 : ∀ x ∈ p2, x.block < W.heap.size := by obtain ⟨m, hm⟩ := h2; exact DataW.trod_lt m _ _ _ hm
  obtain ⟨k2, f2, rfl, s2⟩ := open_choice (hval 2 26 v2 rfl rfl) h2
  clear hA0 hval0
  refine (walk W s0 s1 s2).mono fun e W' ⟨he, bel⟩ => ?_
  subst he
  exact ⟨_, rfl, _, _, _, [], _, [], hW', trodAll_mk1 (shut_bool Try.underlying4 _), (trodAll_cons_mk (Below.trod laidOut (by kernel_rfl) (of_decide_eq_true (by kernel_rfl)) h0 bel lt0) (trodAll_cons_mk (Below.trod laidOut (by kernel_rfl) (of_decide_eq_true (by kernel_rfl)) h1 bel lt1) (trodAll_cons_mk (Below.trod laidOut (by kernel_rfl) (of_decide_eq_true (by kernel_rfl)) h2 bel lt2) trodAll_mk0))), rfl, bel.frame _, fun h => by cases h⟩

theorem over : Rows.featChoosesRow.holds Try.pinned (OpenSpec.ofChange Rows.featChoosesSpec) :=
  OpenClaim.holds_of_wide 3 Try.f3 rfl rfl rfl rfl rfl rfl rfl ⟨rfl, rfl, rfl, rfl, rfl⟩ rfl rfl rfl rfl rfl (by kernel_rfl) Try.func3 (by kernel_rfl)
    (of_decide_eq_true (by kernel_rfl)) (by unfold Func.isWrapper; first | (rw [if_pos (by decide +kernel)]; kernel_rfl) | (rw [if_neg (by decide +kernel)]; exact ⟨rfl, rfl⟩))
    (fun os started H enc _ => lifted os started H enc)

theorem proved : Rows.FeatChoosesSaid := over
end Go.Proofs.Ytpkammjbafijaaa.featChooses
