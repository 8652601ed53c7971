/-
  Proved: FeatEither answers true for every two offers, whatever numbers and features they hold.
-/
import Derived.Test.YtpkammjbafijaaaOpen
import Derived.Test.YtpkammjbafijaaaFeatIn
import Derived.WalkKit
import Derived.Deep.RegionHeld3
namespace Go.Proofs.Ytpkammjbafijaaa.featEither
open Go.ChangeShapes Go.WideShapes Go.ChangeAt Go.RowKit

theorem chS_swap (a x b y : Int) : chS b y a x = chS a x b y := by
  unfold chS chV chF chE
  rw [Bool.and_comm (verS b), Int.min_comm b a, both_comm y x]
theorem chS_self {a x : Int} (h : verS a = true) (h0 : 0 ≤ x ∧ x < 4294967296) : chS a x a x = .tuple #[.agg #[.int .i64 a, .int .u32 (bits .and .u32 x (ceilN a : Int))], .int .i64 0] := by
  have hc := ceil_lt a
  rw [chS_yes (by rw [h]; rfl), Int.min_self, and_nat h0 ⟨by omega, by omega⟩]
  unfold bothN
  rw [Nat.and_self, Int.toNat_natCast]
set_option maxHeartbeats 3200000 in
set_option maxRecDepth 100000 in
/-- The walk. -/
theorem walk {a x b y : Int} (w : World) (h0 : (-9223372036854775808 ≤ a ∧ a ≤ 9223372036854775807) ∧ (0 ≤ x ∧ x < 4294967296)) (h1 : (-9223372036854775808 ≤ b ∧ b ≤ 9223372036854775807) ∧ (0 ≤ y ∧ y < 4294967296)) :
    Calls Try.prog 5 #[.agg #[.int .i64 a, .int .u32 x], .agg #[.int .i64 b, .int .u32 y]] w fun e w' => e = .returned (.bool true) ∧ Below w.heap.size w w' := by
  have HN := Lib.hid (And.intro h0.2 h1.2)
  clear h0 h1
  obtain ⟨w0, hw0⟩ : ∃ w0, w0 = (w.alloc (.cells #[.int .i64 a, .int .u32 x] 24)).alloc (.cells #[.int .i64 b, .int .u32 y] 24) := ⟨_, rfl⟩
  obtain ⟨b0, hb0⟩ : ∃ b0, b0 = w.heap.size := ⟨_, rfl⟩
  obtain ⟨b1, hb1⟩ : ∃ b1, b1 = w.heap.size + 1 := ⟨_, rfl⟩
  have X0 := Lib.hid (show Two w0 b0 (.int .i64 a) (.int .u32 x) ∧ Two w0 b1 (.int .i64 b) (.int .u32 y) ∧ Below w.heap.size w w0 from by
    rw [hw0, hb0, hb1]
    exact two_boxes _ _ _ _ _ _ _)
  go_enter Try.func5, Try.ntmps5
  go_upto_region 1 with fail
  rw [← hw0, ← hb1, ← hb0]
  clear hw0 hb0 hb1
  obtain ⟨⟨a0, a1, _⟩, ⟨c0, c1, _⟩, _⟩ := X0.out
  go_wp2_with fail
  refine (choose_any _ HN.out.1 HN.out.2).mono ?_
  rintro e w1 ⟨rfl, hb⟩
  obtain ⟨V, F, E, hS⟩ : ∃ V F E, chS a x b y = .tuple #[.agg #[.int .i64 V, .int .u32 F], .int .i64 E] := ⟨_, _, _, rfl⟩
  rw [hS]
  have HS := Lib.hid hS
  clear hS
  obtain ⟨b2, hb2⟩ : ∃ b2, b2 = w1.heap.size := ⟨_, rfl⟩
  obtain ⟨w2, hw2⟩ : ∃ w2, w2 = w1.alloc (.cells #[.int .i64 V, .int .u32 F] 26) := ⟨_, rfl⟩
  have X1 := Lib.hid (show Two w2 b0 (.int .i64 a) (.int .u32 x) ∧ Two w2 b1 (.int .i64 b) (.int .u32 y) ∧ Two w2 b2 (.int .i64 V) (.int .u32 F) ∧ Below w.heap.size w w2 from by
    rw [hw2, hb2]
    exact ⟨(X0.out.1.on hb).alloc _, (X0.out.2.1.on hb).alloc _, two_new _ _ _ _, (X0.out.2.2.trans (hb.mono X0.out.2.2.size)).alloc (Nat.le_trans X0.out.2.2.size hb.size) _⟩)
  clear hb a0 a1 c0 c1 X0
  go_upto_region 2 with fail
  rw [← hw2, ← hb2]
  clear hw2 hb2
  obtain ⟨⟨a0, a1, _⟩, ⟨c0, c1, _⟩, _⟩ := X1.out
  go_wp2_with fail
  refine (choose_any _ HN.out.2 HN.out.1).mono ?_
  rintro e w3 ⟨rfl, hb⟩
  rw [chS_swap, HS.out]
  obtain ⟨b3, hb3⟩ : ∃ b3, b3 = w3.heap.size := ⟨_, rfl⟩
  obtain ⟨w4, hw4⟩ : ∃ w4, w4 = w3.alloc (.cells #[.int .i64 V, .int .u32 F] 26) := ⟨_, rfl⟩
  have X2 := Lib.hid (show Two w4 b0 (.int .i64 a) (.int .u32 x) ∧ Two w4 b2 (.int .i64 V) (.int .u32 F) ∧ Two w4 b3 (.int .i64 V) (.int .u32 F) ∧ Below w.heap.size w w4 from by
    rw [hw4, hb3]
    exact ⟨(X1.out.1.on hb).alloc _, (X1.out.2.2.1.on hb).alloc _, two_new _ _ _ _, (X1.out.2.2.2.trans (hb.mono X1.out.2.2.2.size)).alloc (Nat.le_trans X1.out.2.2.2.size hb.size) _⟩)
  clear hb a0 a1 c0 c1 X1
  go_upto_region 3 with fail
  rw [← hw4, ← hb3]
  clear hw4 hb3
  obtain ⟨⟨a0, a1, _⟩, _⟩ := X2.out
  go_wp2_with fail
  refine (choose_any _ HN.out.1 HN.out.1).mono ?_
  rintro e w5 ⟨rfl, hb⟩
  have hgd := guardCh
  have hq : ∀ w, (binOp .eql 26 (.agg #[.int .i64 V, .int .u32 F]) (.agg #[.int .i64 V, .int .u32 F])).run Try.prog w = .ok (.bool true) w := fun w => ch_eql V F w
  cases hB : verS a
  · rw [chS_no (by rw [hB]; rfl)]
    clear hB
    obtain ⟨b4, hb4⟩ : ∃ b4, b4 = w5.heap.size := ⟨_, rfl⟩
    obtain ⟨w6, hw6⟩ : ∃ w6, w6 = w5.alloc (.cells #[.int .i64 0, .int .u32 0] 26) := ⟨_, rfl⟩
    have X3 := Lib.hid (show Two w6 b0 (.int .i64 a) (.int .u32 x) ∧ Two w6 b2 (.int .i64 V) (.int .u32 F) ∧ Two w6 b3 (.int .i64 V) (.int .u32 F) ∧ Two w6 b4 (.int .i64 0) (.int .u32 0) ∧ Below w.heap.size w w6 from by
      rw [hw6, hb4]
      exact ⟨(X2.out.1.on hb).alloc _, (X2.out.2.1.on hb).alloc _, (X2.out.2.2.1.on hb).alloc _, two_new _ _ _ _, (X2.out.2.2.2.trans (hb.mono X2.out.2.2.2.size)).alloc (Nat.le_trans X2.out.2.2.2.size hb.size) _⟩)
    clear hb a0 a1 X2
    go_upto_region 4 with fail
    rw [← hw6, ← hb4]
    clear hw6 hb4
    have SX := Lib.hid (show ∀ w', Below w6.heap.size w6 w' → (Below w6.heap.size w6 w' ∧ (w'.cell? ⟨b0, 0, none⟩ = some (.int .i64 a) ∧ w'.cell? ⟨b0, 1, none⟩ = some (.int .u32 x) ∧ w'.cell? ⟨b2, 0, none⟩ = some (.int .i64 V) ∧ w'.cell? ⟨b2, 1, none⟩ = some (.int .u32 F) ∧ w'.cell? ⟨b3, 0, none⟩ = some (.int .i64 V) ∧ w'.cell? ⟨b3, 1, none⟩ = some (.int .u32 F) ∧ w'.cell? ⟨b4, 0, none⟩ = some (.int .i64 0) ∧ w'.cell? ⟨b4, 1, none⟩ = some (.int .u32 0))) from fun w' hb => by
      have t1 := X3.out.1.on hb
      have t2 := X3.out.2.1.on hb
      have t3 := X3.out.2.2.1.on hb
      have t4 := X3.out.2.2.2.1.on hb
      exact ⟨hb, t1.c0, t1.c1, t2.c0, t2.c1, t3.c0, t3.c1, t4.c0, t4.c1⟩)
    have P0 := Lib.hid (show ∀ w', Below w6.heap.size w6 w' → Calls Try.prog 9 #[] w' fun e w'' => e = .returned (.bool true) ∧ Below w6.heap.size w6 w'' from fun w' hb => (fixedF_any w').mono fun _ _ h => ⟨h.1, hb.trans (h.2.mono hb.size)⟩)
    have P3 := Lib.hid (show ∀ w', Calls Try.prog 12 #[.int .i64 a] w' fun e w'' => e = .returned (.int .u32 (ceilN a)) ∧ w' = w'' from fun w' => ceil_any w')
    have hbb : Below w6.heap.size w6 w6 := Below.refl _ _
    refine wp_region_noPanic ?_
    refine wp_region_held_drew (S := fun w' => Below w6.heap.size w6 w' ∧ (w'.cell? ⟨b0, 0, none⟩ = some (.int .i64 a) ∧ w'.cell? ⟨b0, 1, none⟩ = some (.int .u32 x) ∧ w'.cell? ⟨b2, 0, none⟩ = some (.int .i64 V) ∧ w'.cell? ⟨b2, 1, none⟩ = some (.int .u32 F) ∧ w'.cell? ⟨b3, 0, none⟩ = some (.int .i64 V) ∧ w'.cell? ⟨b3, 1, none⟩ = some (.int .u32 F) ∧ w'.cell? ⟨b4, 0, none⟩ = some (.int .i64 0) ∧ w'.cell? ⟨b4, 1, none⟩ = some (.int .u32 0))) (by kernel_rfl) (SX.out _ (Below.refl _ _).drew) (fun hHeld => ?_)
    refine wpAnyH_ready (rs := [0]) (by kernel_rfl) (by simp) (AllReadyH.cons rfl (fun K hK => ?_) AllReadyH.nil)
    rw [if_pos (by rfl)]
    go_simp
    refine (P0.out _ hHeld.1).mono ?_
    rintro e w7 ⟨rfl, hb⟩
    refine hK.out _ _ (SX.out _ hb) (fun hHeld => ?_)
    clear hK K
    try simp only [Act.put, List.getElem_toArray, List.getElem_cons_succ, List.getElem_cons_zero] 
    try simp only [List.setIfInBounds_toArray] 
    try simp only [List.set_cons_succ] 
    try simp only [List.set_cons_zero]
    have HX := Lib.hid hb
    clear hb
    refine wpAnyH_take (i := 1) (v := .bool true) rfl (by kernel_rfl) (by kernel_rfl) (by kernel_rfl) (fun _ _ _ h => h) (Or.inl ⟨by rfl, fun wz hSz => ?_⟩) hHeld ?_
    · go_simp
    simp only [Act.put, List.getElem_toArray, List.getElem_cons_succ, List.getElem_cons_zero]
    try simp only [List.setIfInBounds_toArray]
    try simp only [List.set_cons_succ]
    try simp only [List.set_cons_zero]
    refine wpAnyH_take (i := 2) (v := .agg #[.int .i64 V, .int .u32 F]) rfl (by kernel_rfl) (by kernel_rfl) (by kernel_rfl) (fun _ _ _ h => h) (Or.inl ⟨by rfl, fun wz hSz => ?_⟩) hHeld ?_
    · obtain ⟨_, d1, d2, d3, d4, d5, d6, d7, d8⟩ := hSz
      go_simp
    simp only [Act.put, List.getElem_toArray, List.getElem_cons_succ, List.getElem_cons_zero]
    try simp only [List.setIfInBounds_toArray]
    try simp only [List.set_cons_succ]
    try simp only [List.set_cons_zero]
    refine wpAnyH_take (i := 3) (v := .agg #[.int .i64 V, .int .u32 F]) rfl (by kernel_rfl) (by kernel_rfl) (by kernel_rfl) (fun _ _ _ h => h) (Or.inl ⟨by rfl, fun wz hSz => ?_⟩) hHeld ?_
    · obtain ⟨_, d1, d2, d3, d4, d5, d6, d7, d8⟩ := hSz
      go_simp
    simp only [Act.put, List.getElem_toArray, List.getElem_cons_succ, List.getElem_cons_zero]
    try simp only [List.setIfInBounds_toArray]
    try simp only [List.set_cons_succ]
    try simp only [List.set_cons_zero]
    refine wpAnyH_take (i := 4) (v := .bool true) rfl (by kernel_rfl) (by kernel_rfl) (by kernel_rfl) (fun _ _ _ h => h) (Or.inl ⟨by rfl, fun wz hSz => ?_⟩) hHeld ?_
    · go_simp
    simp only [Act.put, List.getElem_toArray, List.getElem_cons_succ, List.getElem_cons_zero]
    try simp only [List.setIfInBounds_toArray]
    try simp only [List.set_cons_succ]
    try simp only [List.set_cons_zero]
    refine wpAnyH_take (i := 5) (v := .bool true) rfl (by kernel_rfl) (by kernel_rfl) (by kernel_rfl) (fun _ _ _ h => h) (Or.inl ⟨by rfl, fun wz hSz => ?_⟩) hHeld ?_
    · go_simp
    simp only [Act.put, List.getElem_toArray, List.getElem_cons_succ, List.getElem_cons_zero]
    try simp only [List.setIfInBounds_toArray]
    try simp only [List.set_cons_succ]
    try simp only [List.set_cons_zero]
    refine wpAnyH_take (i := 6) (v := .bool true) rfl (by kernel_rfl) (by kernel_rfl) (by kernel_rfl) (fun _ _ _ h => h) (Or.inl ⟨by rfl, fun wz hSz => ?_⟩) hHeld ?_
    · go_simp
    simp only [Act.put, List.getElem_toArray, List.getElem_cons_succ, List.getElem_cons_zero]
    try simp only [List.setIfInBounds_toArray]
    try simp only [List.set_cons_succ]
    try simp only [List.set_cons_zero]
    refine wpAnyH_take (i := 7) (v := .int .i64 E) rfl (by kernel_rfl) (by kernel_rfl) (by kernel_rfl) (fun _ _ _ h => h) (Or.inl ⟨by rfl, fun wz hSz => ?_⟩) hHeld ?_
    · go_simp
    simp only [Act.put, List.getElem_toArray, List.getElem_cons_succ, List.getElem_cons_zero]
    try simp only [List.setIfInBounds_toArray]
    try simp only [List.set_cons_succ]
    try simp only [List.set_cons_zero]
    refine wpAnyH_take (i := 8) (v := .int .i64 E) rfl (by kernel_rfl) (by kernel_rfl) (by kernel_rfl) (fun _ _ _ h => h) (Or.inl ⟨by rfl, fun wz hSz => ?_⟩) hHeld ?_
    · go_simp
    simp only [Act.put, List.getElem_toArray, List.getElem_cons_succ, List.getElem_cons_zero]
    try simp only [List.setIfInBounds_toArray]
    try simp only [List.set_cons_succ]
    try simp only [List.set_cons_zero]
    refine wpAnyH_take (i := 9) (v := .bool true) rfl (by kernel_rfl) (by kernel_rfl) (by kernel_rfl) (fun _ _ _ h => h) (Or.inl ⟨by rfl, fun wz hSz => ?_⟩) hHeld ?_
    · go_simp
    simp only [Act.put, List.getElem_toArray, List.getElem_cons_succ, List.getElem_cons_zero]
    try simp only [List.setIfInBounds_toArray]
    try simp only [List.set_cons_succ]
    try simp only [List.set_cons_zero]
    refine wpAnyH_take (i := 10) (v := .bool true) rfl (by kernel_rfl) (by kernel_rfl) (by kernel_rfl) (fun _ _ _ h => h) (Or.inl ⟨by rfl, fun wz hSz => ?_⟩) hHeld ?_
    · go_simp
    simp only [Act.put, List.getElem_toArray, List.getElem_cons_succ, List.getElem_cons_zero]
    try simp only [List.setIfInBounds_toArray]
    try simp only [List.set_cons_succ]
    try simp only [List.set_cons_zero]
    refine wpAnyH_take (i := 11) (v := .bool true) rfl (by kernel_rfl) (by kernel_rfl) (by kernel_rfl) (fun _ _ _ h => h) (Or.inl ⟨by rfl, fun wz hSz => ?_⟩) hHeld ?_
    · go_simp
    simp only [Act.put, List.getElem_toArray, List.getElem_cons_succ, List.getElem_cons_zero]
    try simp only [List.setIfInBounds_toArray]
    try simp only [List.set_cons_succ]
    try simp only [List.set_cons_zero]
    refine wpAnyH_take (i := 12) (v := .int .i64 1) rfl (by kernel_rfl) (by kernel_rfl) (by kernel_rfl) (fun _ _ _ h => h) (Or.inl ⟨by rfl, fun wz hSz => ?_⟩) hHeld ?_
    · go_simp
    simp only [Act.put, List.getElem_toArray, List.getElem_cons_succ, List.getElem_cons_zero]
    try simp only [List.setIfInBounds_toArray]
    try simp only [List.set_cons_succ]
    try simp only [List.set_cons_zero]
    refine wpAnyH_take (i := 13) (v := .bool true) rfl (by kernel_rfl) (by kernel_rfl) (by kernel_rfl) (fun _ _ _ h => h) (Or.inl ⟨by rfl, fun wz hSz => ?_⟩) hHeld ?_
    · go_simp
    simp only [Act.put, List.getElem_toArray, List.getElem_cons_succ, List.getElem_cons_zero]
    try simp only [List.setIfInBounds_toArray]
    try simp only [List.set_cons_succ]
    try simp only [List.set_cons_zero]
    refine wpAnyH_take (i := 14) (v := .bool true) rfl (by kernel_rfl) (by kernel_rfl) (by kernel_rfl) (fun _ _ _ h => h) (Or.inl ⟨by rfl, fun wz hSz => ?_⟩) hHeld ?_
    · go_simp
    simp only [Act.put, List.getElem_toArray, List.getElem_cons_succ, List.getElem_cons_zero]
    try simp only [List.setIfInBounds_toArray]
    try simp only [List.set_cons_succ]
    try simp only [List.set_cons_zero]
    refine wpAnyH_take (i := 15) (v := undef) rfl (by kernel_rfl) (by kernel_rfl) (by kernel_rfl) (fun _ _ _ h => h) (Or.inr ⟨by rfl, rfl⟩) hHeld ?_
    simp only [Act.put, List.getElem_toArray, List.getElem_cons_succ, List.getElem_cons_zero]
    try simp only [List.setIfInBounds_toArray]
    try simp only [List.set_cons_succ]
    try simp only [List.set_cons_zero]
    refine wpAnyH_take (i := 16) (v := undef) rfl (by kernel_rfl) (by kernel_rfl) (by kernel_rfl) (fun _ _ _ h => h) (Or.inr ⟨by rfl, rfl⟩) hHeld ?_
    simp only [Act.put, List.getElem_toArray, List.getElem_cons_succ, List.getElem_cons_zero]
    try simp only [List.setIfInBounds_toArray]
    try simp only [List.set_cons_succ]
    try simp only [List.set_cons_zero]
    refine wpAnyH_take (i := 17) (v := undef) rfl (by kernel_rfl) (by kernel_rfl) (by kernel_rfl) (fun _ _ _ h => h) (Or.inr ⟨by rfl, rfl⟩) hHeld ?_
    simp only [Act.put, List.getElem_toArray, List.getElem_cons_succ, List.getElem_cons_zero]
    try simp only [List.setIfInBounds_toArray]
    try simp only [List.set_cons_succ]
    try simp only [List.set_cons_zero]
    refine wpAnyH_take (i := 18) (v := undef) rfl (by kernel_rfl) (by kernel_rfl) (by kernel_rfl) (fun _ _ _ h => h) (Or.inr ⟨by rfl, rfl⟩) hHeld ?_
    simp only [Act.put, List.getElem_toArray, List.getElem_cons_succ, List.getElem_cons_zero]
    try simp only [List.setIfInBounds_toArray]
    try simp only [List.set_cons_succ]
    try simp only [List.set_cons_zero]
    refine wpAnyH_take (i := 19) (v := undef) rfl (by kernel_rfl) (by kernel_rfl) (by kernel_rfl) (fun _ _ _ h => h) (Or.inr ⟨by rfl, rfl⟩) hHeld ?_
    simp only [Act.put, List.getElem_toArray, List.getElem_cons_succ, List.getElem_cons_zero]
    try simp only [List.setIfInBounds_toArray]
    try simp only [List.set_cons_succ]
    try simp only [List.set_cons_zero]
    refine wpAnyH_take (i := 20) (v := undef) rfl (by kernel_rfl) (by kernel_rfl) (by kernel_rfl) (fun _ _ _ h => h) (Or.inr ⟨by rfl, rfl⟩) hHeld ?_
    simp only [Act.put, List.getElem_toArray, List.getElem_cons_succ, List.getElem_cons_zero]
    try simp only [List.setIfInBounds_toArray]
    try simp only [List.set_cons_succ]
    try simp only [List.set_cons_zero]
    refine wpAnyH_take (i := 21) (v := undef) rfl (by kernel_rfl) (by kernel_rfl) (by kernel_rfl) (fun _ _ _ h => h) (Or.inr ⟨by rfl, rfl⟩) hHeld ?_
    simp only [Act.put, List.getElem_toArray, List.getElem_cons_succ, List.getElem_cons_zero]
    try simp only [List.setIfInBounds_toArray]
    try simp only [List.set_cons_succ]
    try simp only [List.set_cons_zero]
    refine wpAnyH_take (i := 22) (v := undef) rfl (by kernel_rfl) (by kernel_rfl) (by kernel_rfl) (fun _ _ _ h => h) (Or.inr ⟨by rfl, rfl⟩) hHeld ?_
    simp only [Act.put, List.getElem_toArray, List.getElem_cons_succ, List.getElem_cons_zero]
    try simp only [List.setIfInBounds_toArray]
    try simp only [List.set_cons_succ]
    try simp only [List.set_cons_zero]
    refine wpAnyH_take (i := 23) (v := undef) rfl (by kernel_rfl) (by kernel_rfl) (by kernel_rfl) (fun _ _ _ h => h) (Or.inr ⟨by rfl, rfl⟩) hHeld ?_
    simp only [Act.put, List.getElem_toArray, List.getElem_cons_succ, List.getElem_cons_zero]
    try simp only [List.setIfInBounds_toArray]
    try simp only [List.set_cons_succ]
    try simp only [List.set_cons_zero]
    refine wpAnyH_take (i := 24) (v := undef) rfl (by kernel_rfl) (by kernel_rfl) (by kernel_rfl) (fun _ _ _ h => h) (Or.inr ⟨by rfl, rfl⟩) hHeld ?_
    simp only [Act.put, List.getElem_toArray, List.getElem_cons_succ, List.getElem_cons_zero]
    try simp only [List.setIfInBounds_toArray]
    try simp only [List.set_cons_succ]
    try simp only [List.set_cons_zero]
    refine wpAnyH_take (i := 25) (v := undef) rfl (by kernel_rfl) (by kernel_rfl) (by kernel_rfl) (fun _ _ _ h => h) (Or.inr ⟨by rfl, rfl⟩) hHeld ?_
    simp only [Act.put, List.getElem_toArray, List.getElem_cons_succ, List.getElem_cons_zero]
    try simp only [List.setIfInBounds_toArray]
    try simp only [List.set_cons_succ]
    try simp only [List.set_cons_zero]
    refine wpAnyH_take (i := 26) (v := .bool true) rfl (by kernel_rfl) (by kernel_rfl) (by kernel_rfl) (fun _ _ _ h => h) (Or.inl ⟨by rfl, fun wz hSz => ?_⟩) hHeld ?_
    · go_simp
    simp only [Act.put, List.getElem_toArray, List.getElem_cons_succ, List.getElem_cons_zero]
    try simp only [List.setIfInBounds_toArray]
    try simp only [List.set_cons_succ]
    try simp only [List.set_cons_zero]
    refine wpAnyH_take (i := 27) (v := .bool true) rfl (by kernel_rfl) (by kernel_rfl) (by kernel_rfl) (fun _ _ _ h => h) (Or.inl ⟨by rfl, fun wz hSz => ?_⟩) hHeld ?_
    · go_simp
    simp only [Act.put, List.getElem_toArray, List.getElem_cons_succ, List.getElem_cons_zero]
    try simp only [List.setIfInBounds_toArray]
    try simp only [List.set_cons_succ]
    try simp only [List.set_cons_zero]
    refine wpAnyH_take (i := 28) (v := .bool true) rfl (by kernel_rfl) (by kernel_rfl) (by kernel_rfl) (fun _ _ _ h => h) (Or.inl ⟨by rfl, fun wz hSz => ?_⟩) hHeld ?_
    · go_simp
    simp only [Act.put, List.getElem_toArray, List.getElem_cons_succ, List.getElem_cons_zero]
    try simp only [List.setIfInBounds_toArray]
    try simp only [List.set_cons_succ]
    try simp only [List.set_cons_zero]
    refine wpAnyH_done (by kernel_rfl) ?_ _
    refine NoPanic.normal ?_
    go_wp2_with fail
    go_ret
    exact ⟨rfl, X3.out.2.2.2.2.trans (HX.out.mono X3.out.2.2.2.2.size)⟩
  · rw [chS_self hB HN.out.1]
    obtain ⟨G, hG⟩ : ∃ G, bits .and .u32 x (ceilN a : Int) = G := ⟨_, rfl⟩
    rw [hG]
    have hq2 : ∀ w, (binOp .eql 26 (.agg #[.int .i64 a, .int .u32 G]) (.agg #[.int .i64 a, .int .u32 G])).run Try.prog w = .ok (.bool true) w := fun w => ch_eql a G w
    clear hB
    obtain ⟨b4, hb4⟩ : ∃ b4, b4 = w5.heap.size := ⟨_, rfl⟩
    obtain ⟨w6, hw6⟩ : ∃ w6, w6 = w5.alloc (.cells #[.int .i64 a, .int .u32 G] 26) := ⟨_, rfl⟩
    have X3 := Lib.hid (show Two w6 b0 (.int .i64 a) (.int .u32 x) ∧ Two w6 b2 (.int .i64 V) (.int .u32 F) ∧ Two w6 b3 (.int .i64 V) (.int .u32 F) ∧ Two w6 b4 (.int .i64 a) (.int .u32 G) ∧ Below w.heap.size w w6 from by
      rw [hw6, hb4]
      exact ⟨(X2.out.1.on hb).alloc _, (X2.out.2.1.on hb).alloc _, (X2.out.2.2.1.on hb).alloc _, two_new _ _ _ _, (X2.out.2.2.2.trans (hb.mono X2.out.2.2.2.size)).alloc (Nat.le_trans X2.out.2.2.2.size hb.size) _⟩)
    clear hb a0 a1 X2
    go_upto_region 4 with fail
    rw [← hw6, ← hb4]
    clear hw6 hb4
    have SX := Lib.hid (show ∀ w', Below w6.heap.size w6 w' → (Below w6.heap.size w6 w' ∧ (w'.cell? ⟨b0, 0, none⟩ = some (.int .i64 a) ∧ w'.cell? ⟨b0, 1, none⟩ = some (.int .u32 x) ∧ w'.cell? ⟨b2, 0, none⟩ = some (.int .i64 V) ∧ w'.cell? ⟨b2, 1, none⟩ = some (.int .u32 F) ∧ w'.cell? ⟨b3, 0, none⟩ = some (.int .i64 V) ∧ w'.cell? ⟨b3, 1, none⟩ = some (.int .u32 F) ∧ w'.cell? ⟨b4, 0, none⟩ = some (.int .i64 a) ∧ w'.cell? ⟨b4, 1, none⟩ = some (.int .u32 G))) from fun w' hb => by
      have t1 := X3.out.1.on hb
      have t2 := X3.out.2.1.on hb
      have t3 := X3.out.2.2.1.on hb
      have t4 := X3.out.2.2.2.1.on hb
      exact ⟨hb, t1.c0, t1.c1, t2.c0, t2.c1, t3.c0, t3.c1, t4.c0, t4.c1⟩)
    have P0 := Lib.hid (show ∀ w', Below w6.heap.size w6 w' → Calls Try.prog 9 #[] w' fun e w'' => e = .returned (.bool true) ∧ Below w6.heap.size w6 w'' from fun w' hb => (fixedF_any w').mono fun _ _ h => ⟨h.1, hb.trans (h.2.mono hb.size)⟩)
    have P3 := Lib.hid (show ∀ w', Calls Try.prog 12 #[.int .i64 a] w' fun e w'' => e = .returned (.int .u32 (ceilN a)) ∧ w' = w'' from fun w' => ceil_any w')
    have hbb : Below w6.heap.size w6 w6 := Below.refl _ _
    generalize ((ceilN a : Nat) : Int) = C at hG P3
    go_region_held3 (fun w' => Below w6.heap.size w6 w' ∧ (w'.cell? ⟨b0, 0, none⟩ = some (.int .i64 a) ∧ w'.cell? ⟨b0, 1, none⟩ = some (.int .u32 x) ∧ w'.cell? ⟨b2, 0, none⟩ = some (.int .i64 V) ∧ w'.cell? ⟨b2, 1, none⟩ = some (.int .u32 F) ∧ w'.cell? ⟨b3, 0, none⟩ = some (.int .i64 V) ∧ w'.cell? ⟨b3, 1, none⟩ = some (.int .u32 F) ∧ w'.cell? ⟨b4, 0, none⟩ = some (.int .i64 a) ∧ w'.cell? ⟨b4, 1, none⟩ = some (.int .u32 G)))
      ((refine SX.out _ ?_; (try go_split_ands); first | assumption | exact belowNf (by assumption) 1))
      ((first
        | (go_at_call 9; (try go_split_ands); refine (P0.out _ (by assumption)).mono ?_; rintro e w7 ⟨rfl, hb7⟩)
        | (go_at_call 12; (try go_split_ands); refine (P3.out _).mono ?_; rintro e w8 ⟨rfl, rfl⟩)))
    go_wp2_with fail
    go_ret
    exact ⟨rfl, X3.out.2.2.2.2.trans (hb7.mono X3.out.2.2.2.2.size)⟩

set_option maxRecDepth 100000 in
theorem lifted (os : Os) (started : os.Started) (H : Type) (enc : TypeId × Value → H) :
    ReturnsInHanded {} Try.checked os 5 .any (Rows.featEitherSpec.pre6 enc Try.prog Try.f5 Rows.featEitherRow.domain false) (Rows.featEitherSpec.post enc Try.prog Try.f5 false true false false) := by
  refine returnsInHanded_of_change_sized (C := Try.checked) own started (by kernel_rfl) Try.func5
    (ChangeSpec.witness6 (enc := enc) (C := Try.checked) false ⟨#[], #[.agg #[.int .i64 0, .int .u32 0], .agg #[.int .i64 0, .int .u32 0]], []⟩ 8 (by kernel_rfl) (by kernel_rfl) (by kernel_rfl) (by kernel_rfl)) ?_
  intro W base args ds gs before hval0 hW _ hsz0 _
  have hsz : (DataW.weightsEach Try.prog (Try.f5.params.toList ++ Rows.featEitherSpec.plain.varTypes Try.prog) (ds ++ gs)).all (· ≤ reachBytes) = true := hsz0
  clear hsz0
  have hval : ∀ (j : Nat) t v, Try.f5.params[j]? = some t → args[j]? = some v → Value.okWide Try.prog W .any base t v := hval0
  have hW' := hW
  obtain ⟨p, q, hA0, hV, rfl, _, _⟩ := hW
  have hA : DataW.TrodAll enc Try.prog W 0 (fun _ => true) true Try.f5.params.toList args.toList ds p := hA0
  rw [Try.params5] at hA hval hsz
  obtain ⟨v0, vs0, d0, ds0, p0, q0, hargs, rfl, rfl, h0, r0⟩ := trodAll_cons hA
  obtain ⟨v1, vs1, d1, ds1, p1, q1, rfl, rfl, rfl, h1, r1⟩ := trodAll_cons r0
  obtain ⟨rfl, rfl, rfl⟩ := trodAll_nil r1
  obtain rfl : args = #[v0, v1] := by cases args; simp_all
  obtain ⟨rfl, rfl⟩ := trodVars_none hV
  have lt0 : ∀ x ∈ p0, x.block < W.heap.size := by obtain ⟨m, hm⟩ := h0; exact DataW.trod_lt m _ _ _ hm
  obtain ⟨k0, f0, rfl, s0⟩ := open_offer (hval 0 24 v0 rfl rfl) h0
  have lt1 : ∀ x ∈ p1, x.block < W.heap.size := by obtain ⟨m, hm⟩ := h1; exact DataW.trod_lt m _ _ _ hm
  obtain ⟨k1, f1, rfl, s1⟩ := open_offer (hval 1 24 v1 rfl rfl) h1
  clear hA0 hval0
  refine (walk W s0 s1).mono fun e W' ⟨he, bel⟩ => ?_
  subst he
  exact ⟨_, rfl, _, _, _, [], _, [], hW', trodAll_mk1 (shut_bool Try.underlying4 _), (trodAll_cons_mk (Below.trod laidOut (by kernel_rfl) (of_decide_eq_true (by kernel_rfl)) h0 bel lt0) (trodAll_cons_mk (Below.trod laidOut (by kernel_rfl) (of_decide_eq_true (by kernel_rfl)) h1 bel lt1) trodAll_mk0)), rfl, bel.frame _, fun h => by cases h⟩

theorem over : Rows.featEitherRow.holds Try.pinned (OpenSpec.ofChange Rows.featEitherSpec) :=
  OpenClaim.holds_of_wide 5 Try.f5 rfl rfl rfl rfl rfl rfl rfl ⟨rfl, rfl, rfl, rfl, rfl⟩ rfl rfl rfl rfl rfl (by kernel_rfl) Try.func5 (by kernel_rfl)
    (of_decide_eq_true (by kernel_rfl)) (by unfold Func.isWrapper; first | (rw [if_pos (by decide +kernel)]; kernel_rfl) | (rw [if_neg (by decide +kernel)]; exact ⟨rfl, rfl⟩))
    (fun os started H enc _ => lifted os started H enc)

theorem proved : Rows.FeatEitherSaid := over
end Go.Proofs.Ytpkammjbafijaaa.featEither
