/-
  The reference of layer 14: feature by feature.
-/
import Derived.Test.YtpkammjbafijaaaFeatCode
namespace Go.Proofs.Ytpkammjbafijaaa
open Go.RowKit

theorem since_any {k : Nat} (w : World) : Calls Try.prog 15 #[.int .i64 (k : Int)] w fun e w' => e = .returned (.int .i64 (sinceN k)) ∧ w' = w := by
  obtain ⟨B, hB⟩ : ∃ B, sinceN k = B := ⟨_, rfl⟩
  rw [hB]
  by_cases h : k < 6
  · have hk : k = 0 ∨ k = 1 ∨ k = 2 ∨ k = 3 ∨ k = 4 ∨ k = 5 := by omega
    rcases hk with rfl | rfl | rfl | rfl | rfl | rfl <;> (
      obtain rfl := hB
      go_enter Try.func15, Try.ntmps15
      go_wp2_with fail
      go_ret
      exact ⟨rfl, rfl⟩)
  · have hb : B = 0 := by rw [← hB]; unfold sinceN; rw [if_neg (by omega), if_neg (by omega), if_neg (by omega)]
    subst hb
    have n0 : ((k : Int) == 0) = false := by simp; omega
    have n1 : ((k : Int) == 1) = false := by simp; omega
    have n2 : ((k : Int) == 2) = false := by simp; omega
    have n3 : ((k : Int) == 3) = false := by simp; omega
    have n4 : ((k : Int) == 4) = false := by simp; omega
    have n5 : ((k : Int) == 5) = false := by simp; omega
    clear hB h
    go_enter Try.func15, Try.ntmps15
    go_wp2_with fail
    go_ret
    exact ⟨rfl, rfl⟩
/-- A number that a place's slot holds. -/
def placeOf : Value → Nat
  | .int _ k => k.toNat
  | _ => 0
theorem rceil_any {v : Int} (w : World) : Calls Try.prog 13 #[.int .i64 v] w fun e w' => e = .returned (.int .u32 (ceilN v)) ∧ w' = w := by
  obtain ⟨B, hB⟩ : ∃ B, verS v = B := ⟨_, rfl⟩
  cases B
  · rw [ver_no hB]
    unfold verS at hB
    simp at hB
    by_cases h1 : v < 1
    · clear hB
      go_enter Try.func13, Try.ntmps13
      go_wp2_with fail
      go_ret
      exact ⟨rfl, rfl⟩
    · have h3 : 3 < v := hB (by omega)
      clear hB
      go_enter Try.func13, Try.ntmps13
      go_wp2_with fail
      go_ret
      exact ⟨rfl, rfl⟩
  · have HB := Lib.hid hB
    have h1 : ¬ v < 1 := by rcases ver_cases hB with rfl | rfl | rfl <;> omega
    have h3 : ¬ 3 < v := by rcases ver_cases hB with rfl | rfl | rfl <;> omega
    clear hB
    obtain ⟨X, hX⟩ : ∃ X, ceilN v = X := ⟨_, rfl⟩
    have HX := Lib.hid hX
    rw [hX]
    clear hX
    go_enter Try.func13, Try.ntmps13
    go_wp2_with fail
    go_loopw [3, 4] (fun n i wr => ∃ k : Nat, k ≤ 32 ∧ i = .int .i64 k ∧ n = .int .u32 ((X % 2 ^ k : Nat) : Int) ∧ wr = w) (fun _ i _ => 32 - placeOf i)
    case atStart => exact ⟨0, by omega, rfl, by simp [Nat.mod_one], rfl⟩
    case round =>
      obtain ⟨k, hk, rfl, rfl, rfl⟩ := hrel
      by_cases hlt : k < 32
      · have hkl : (k : Int) < 32 := by omega
        have hbit := Lib.hid (show X.testBit k = (decide (0 < sinceN k) && decide ((sinceN k : Int) ≤ v)) from by rw [← HX.out]; exact ceil_bits HB.out hlt)
        obtain ⟨S, hS⟩ : ∃ S, sinceN k = S := ⟨_, rfl⟩
        have PS := Lib.hid (show ∀ w, Calls Try.prog 15 #[.int .i64 (k : Int)] w fun e w' => e = .returned (.int .i64 S) ∧ w = w' from fun w => by rw [← hS]; exact (since_any w).mono fun _ _ h => ⟨h.1, h.2.symm⟩)
        rw [hS] at hbit
        clear hS
        by_cases h0 : 0 < S
        · have h0' : (0 : Int) < S := by omega
          clear h0
          by_cases h4 : (S : Int) ≤ v
          · have hE := Lib.hid (or_walk hlt (by rw [hbit.out, decide_eq_true (by omega), decide_eq_true h4]; rfl))
            go_wp2_with fail
            refine (PS.out _).mono ?_
            rintro e w1 ⟨rfl, rfl⟩
            go_wp2_with fail
            refine (PS.out _).mono ?_
            rintro e w1 ⟨rfl, rfl⟩
            go_wp2_with fail
            go_roundw
            case rel => exact ⟨k + 1, by omega, by go_num, by rw [hE.out], trivial⟩
            case measure => simp [placeOf]; omega
          · have hE := Lib.hid (bit_no (show X.testBit k = false by rw [hbit.out, decide_eq_false h4, Bool.and_false]))
            go_wp2_with fail
            refine (PS.out _).mono ?_
            rintro e w1 ⟨rfl, rfl⟩
            go_wp2_with fail
            refine (PS.out _).mono ?_
            rintro e w1 ⟨rfl, rfl⟩
            go_wp2_with fail
            go_roundw
            case rel => exact ⟨k + 1, by omega, by go_num, by rw [hE.out]; simp, trivial⟩
            case measure => simp [placeOf]; omega
        · have hE := Lib.hid (bit_no (show X.testBit k = false by rw [hbit.out, decide_eq_false h0]; rfl))
          have h0' : ¬ (0 : Int) < S := by omega
          clear h0
          go_wp2_with fail
          refine (PS.out _).mono ?_
          rintro e w1 ⟨rfl, rfl⟩
          go_wp2_with fail
          go_roundw
          case rel => exact ⟨k + 1, by omega, by go_num, by rw [hE.out]; simp, trivial⟩
          case measure => simp [placeOf]; omega
      · obtain rfl : k = 32 := by omega
        go_wp2_with fail
        go_ret
        exact ⟨by rw [bit_all (by rw [← HX.out]; exact ceil_lt v)]; rfl, rfl⟩
/-- A choice in a block. -/
structure Ch2 (w : World) (v f : Int) (w2 : World) : Prop where
  c0 : w2.cell? ⟨w.heap.size, 0, none⟩ = some (.int .i64 v)
  c1 : w2.cell? ⟨w.heap.size, 1, none⟩ = some (.int .u32 f)
  bel : Below w.heap.size w w2
theorem Ch2.drewN {w : World} {v f : Int} {w2 : World} (h : Ch2 w v f w2) (q : Nat) : Ch2 w v f (w2.drewN q) := ⟨h.c0, h.c1, belowNf h.bel q⟩
theorem ch2_new (w : World) (v f : Int) (t : TypeId) : Ch2 w v f (w.alloc (.cells #[.int .i64 v, .int .u32 f] t)) := by
  have g := heap_alloc_new w (.cells #[.int .i64 v, .int .u32 f] t)
  refine ⟨?_, ?_, (Below.refl _ _).alloc (Nat.le_refl _) _⟩
  · rw [cell_of_row _ _ 0 _ _ _ g]; rfl
  · rw [cell_of_row _ _ 1 _ _ _ g]; rfl
set_option maxHeartbeats 800000 in
theorem rMay_any {v f : Int} (w : World) (h0 : 0 ≤ f ∧ f < 4294967296) : Calls Try.prog 11 #[.agg #[.int .i64 v, .int .u32 f]] w fun e w' => e = .returned (.bool (mayS v f)) ∧ Below w.heap.size w w' := by
  obtain ⟨B, hB⟩ : ∃ B, verS v = B := ⟨_, rfl⟩
  have HO := Lib.hid (ch2_new w v f 26)
  cases B
  · rw [show mayS v f = false by unfold mayS; rw [hB]; rfl]
    unfold verS at hB
    simp at hB
    by_cases h1 : v < 1
    · clear hB
      go_enter Try.func11, Try.ntmps11
      go_wp2_with fail
      go_ret
      exact ⟨rfl, HO.out.bel⟩
    · have h3 : 3 < v := hB (by omega)
      clear hB
      go_enter Try.func11, Try.ntmps11
      go_wp2_with fail
      go_ret
      exact ⟨rfl, HO.out.bel⟩
  · have HB := Lib.hid hB
    have h1 : ¬ v < 1 := by rcases ver_cases hB with rfl | rfl | rfl <;> omega
    have h3 : ¬ 3 < v := by rcases ver_cases hB with rfl | rfl | rfl <;> omega
    clear hB
    obtain ⟨M, hM⟩ : ∃ M, mayS v f = M := ⟨_, rfl⟩
    have HM := Lib.hid hM
    rw [hM]
    clear hM
    have H0 := Lib.hid h0
    obtain ⟨h0, h5⟩ := h0
    go_enter Try.func11, Try.ntmps11
    go_wp2_with fail
    generalize w.alloc _ = w2 at HO ⊢
    go_loopw [3] (fun i wr => ∃ k : Nat, k ≤ 32 ∧ i = .int .i64 k ∧ (∀ j, j < k → f.toNat.testBit j = true → (ceilN v).testBit j = true) ∧ Ch2 w v f wr) (fun i _ => 32 - placeOf i)
    case atStart => exact ⟨0, by omega, rfl, fun j hj => by omega, HO.out⟩
    case round =>
      obtain ⟨k, hk, rfl, hA, hC⟩ := hrel
      have HC := Lib.hid hC
      have HA := Lib.hid hA
      clear hA hC HO
      have c0 := HC.out.c0
      have c1 := HC.out.c1
      by_cases hlt : k < 32
      · have hkl : (k : Int) < 32 := by omega
        obtain ⟨S, hS⟩ : ∃ S, sinceN k = S := ⟨_, rfl⟩
        have PS := Lib.hid (show ∀ w, Calls Try.prog 15 #[.int .i64 (k : Int)] w fun e w' => e = .returned (.int .i64 S) ∧ w' = w from fun w => by rw [← hS]; exact since_any w)
        have hbit := Lib.hid (ceil_bits HB.out hlt)
        rw [hS] at hbit
        clear hS
        have hw : IntKind.u64.wrap (k : Int) = k := by rw [IntKind.wrap_u64]; omega
        have hm : min k 32 = k := by omega
        have hq : (f / 2 ^ k).tmod 2 = f / 2 ^ k % 2 := Int.tmod_eq_emod_of_nonneg (Int.ediv_nonneg h0 (by have := Int.pow_pos (n := 2) (m := k) (by omega); omega))
        cases hT : f.toNat.testBit k
        · have hf2 : ((f / 2 ^ k).tmod 2 == 1) = false := by rw [hq, ← bit_int h0, hT]
          have HE := Lib.hid (show ∀ j, j < k + 1 → f.toNat.testBit j = true → (ceilN v).testBit j = true from fun j hj ht => by
            rcases Nat.lt_or_ge j k with h | h
            · exact HA.out j h ht
            · obtain rfl : j = k := by omega
              rw [hT] at ht; cases ht)
          clear hq hT
          go_wp2_with fail
          go_quiet ((first | (go_at_call 15; with_reducible exact Calls.quiet_of_same (PS.out _))))
          generalize hwn : wr.drewN _ = wn
          have HN := Lib.hid (show Ch2 w v f wn from hwn ▸ HC.out.drewN _)
          clear hwn c0 c1 HC
          go_wp2_with fail
          go_roundw
          case rel => exact ⟨k + 1, by omega, by go_num, HE.out, HN.out⟩
          case measure => simp [placeOf]; omega
        · have hf2 : ((f / 2 ^ k).tmod 2 == 1) = true := by rw [hq, ← bit_int h0, hT]
          have HT := Lib.hid hT
          clear hq hT
          by_cases hs0 : S = 0
          · have hE := Lib.hid (show (ceilN v).testBit k = false by rw [hbit.out, decide_eq_false (by omega)]; rfl)
            subst hs0
            have hM : M = false := by
              rw [← HM.out]
              have hn : ¬ (f.toNat &&& ceilN v = f.toNat) := fun e => by
                have := inN_bits.1 e k HT.out
                rw [hE.out] at this
                cases this
              unfold mayS
              rw [HB.out, decide_eq_false hn]; rfl
            subst hM
            go_wp2_with fail
            go_quiet ((first | (go_at_call 15; with_reducible exact Calls.quiet_of_same (PS.out _))))
            go_wp2_with fail
            go_ret
            exact ⟨rfl, (HC.out.drewN _).bel⟩
          · have hs : ((S : Int) == 0) = false := by simpa using hs0
            by_cases hs4 : (S : Int) ≤ v
            · have hs5 : ¬ v < (S : Int) := by omega
              have HE := Lib.hid (show ∀ j, j < k + 1 → f.toNat.testBit j = true → (ceilN v).testBit j = true from fun j hj ht => by
                rcases Nat.lt_or_ge j k with h | h
                · exact HA.out j h ht
                · obtain rfl : j = k := by omega
                  rw [hbit.out, decide_eq_true (by omega), decide_eq_true hs4]; rfl)
              clear hs0 hs4
              go_wp2_with fail
              go_quiet ((first | (go_at_call 15; with_reducible exact Calls.quiet_of_same (PS.out _))))
              generalize hwn : wr.drewN _ = wn
              have HN := Lib.hid (show Ch2 w v f wn from hwn ▸ HC.out.drewN _)
              clear hwn c0 c1 HC
              go_wp2_with fail
              go_roundw
              case rel => exact ⟨k + 1, by omega, by go_num, HE.out, HN.out⟩
              case measure => simp [placeOf]; omega
            · have hs5 : v < (S : Int) := by omega
              have hE := Lib.hid (show (ceilN v).testBit k = false by rw [hbit.out, decide_eq_false hs4, Bool.and_false])
              clear hs0 hs4
              have hM : M = false := by
                rw [← HM.out]
                have hn : ¬ (f.toNat &&& ceilN v = f.toNat) := fun e => by
                  have := inN_bits.1 e k HT.out
                  rw [hE.out] at this
                  cases this
                unfold mayS
                rw [HB.out, decide_eq_false hn]; rfl
              subst hM
              go_wp2_with fail
              go_quiet ((first | (go_at_call 15; with_reducible exact Calls.quiet_of_same (PS.out _))))
              go_wp2_with fail
              go_ret
              exact ⟨rfl, (HC.out.drewN _).bel⟩
      · obtain rfl : k = 32 := by omega
        have hM : M = true := by
          rw [← HM.out]
          have hy : f.toNat &&& ceilN v = f.toNat := inN_bits.2 fun j hj => HA.out j (by
            have := Nat.ge_two_pow_of_testBit hj
            rcases Nat.lt_or_ge j 32 with h2 | h2
            · exact h2
            · have h3 : 2 ^ 32 ≤ 2 ^ j := Nat.pow_le_pow_right (by omega) h2
              have := H0.out
              omega) hj
          unfold mayS
          rw [HB.out, decide_eq_true hy]; rfl
        subst hM
        go_wp2_with fail
        go_ret
        exact ⟨rfl, HC.out.bel⟩
/-- Two offers, room for a choice, and the choice that is made. -/
structure Of4 (w : World) (a x b y V F : Int) (w2 : World) : Prop where
  a0 : w2.cell? ⟨w.heap.size, 0, none⟩ = some (.int .i64 a)
  a1 : w2.cell? ⟨w.heap.size, 1, none⟩ = some (.int .u32 x)
  b0 : w2.cell? ⟨w.heap.size + 1, 0, none⟩ = some (.int .i64 b)
  b1 : w2.cell? ⟨w.heap.size + 1, 1, none⟩ = some (.int .u32 y)
  r2 : w2.heap[w.heap.size + 1 + 1]? = some (.cells #[.int .i64 0, .int .u32 0] 26 (0, 0))
  r3 : w2.heap[w.heap.size + 1 + 1 + 1]? = some (.cells #[.int .i64 V, .int .u32 F] 26 (0, 0))
  bel : Below w.heap.size w w2
theorem Of4.drewN {w : World} {a x b y V F : Int} {w2 : World} (h : Of4 w a x b y V F w2) (q : Nat) : Of4 w a x b y V F (w2.drewN q) := ⟨h.a0, h.a1, h.b0, h.b1, h.r2, h.r3, belowNf h.bel q⟩
theorem Off3.of4 {w : World} {a x b y : Int} {w2 : World} (h : Off3 w a x b y w2) (hs : w2.heap.size = w.heap.size + 1 + 1 + 1) (V F : Int) : Of4 w a x b y V F (w2.alloc (.cells #[.int .i64 V, .int .u32 F] 26)) := by
  have c : ∀ k o, k < w2.heap.size → (w2.alloc (.cells #[.int .i64 V, .int .u32 F] 26)).cell? ⟨k, o, none⟩ = w2.cell? ⟨k, o, none⟩ := fun k o hk => by
    simp only [World.cell?]; rw [heap_alloc_old _ _ hk]
  refine ⟨(c _ _ (by omega)).trans h.a0, (c _ _ (by omega)).trans h.a1, (c _ _ (by omega)).trans h.b0, (c _ _ (by omega)).trans h.b1, ?_, ?_, h.bel.alloc (by omega) _⟩
  · rw [heap_alloc_old _ _ (by omega)]; exact h.r2
  · rw [← hs]; exact heap_alloc_new _ _
theorem Of4.row3 {w : World} {a x b y V F : Int} {w2 : World} (h : Of4 w a x b y V F w2) (V' F' : Int) : Of4 w a x b y V' F' (w2.setRow (w.heap.size + 1 + 1 + 1) #[.int .i64 V', .int .u32 F']) := by
  refine ⟨?_, ?_, ?_, ?_, ?_, setRow_heap _ _ _ _ _ _ h.r3, below_setRow h.bel (by omega) _⟩
  · rw [setRow_cellF _ _ (by omega)]; exact h.a0
  · rw [setRow_cellF _ _ (by omega)]; exact h.a1
  · rw [setRow_cellF _ _ (by omega)]; exact h.b0
  · rw [setRow_cellF _ _ (by omega)]; exact h.b1
  · rw [setRow_other _ _ _ _ (by omega)]; exact h.r2
theorem Of4.c3 {w : World} {a x b y V F : Int} {w2 : World} (h : Of4 w a x b y V F w2) : w2.cell? ⟨w.heap.size + 1 + 1 + 1, 0, none⟩ = some (.int .i64 V) ∧ w2.cell? ⟨w.heap.size + 1 + 1 + 1, 1, none⟩ = some (.int .u32 F) ∧ (∀ o, w2.frozen? ⟨w.heap.size + 1 + 1 + 1, o, none⟩ = false) := by
  refine ⟨?_, ?_, fun o => ?_⟩
  · rw [cell_of_row _ _ 0 _ _ _ h.r3]; rfl
  · rw [cell_of_row _ _ 1 _ _ _ h.r3]; rfl
  · simp [World.frozen?, h.r3]
theorem Of4.ver {w : World} {a x b y V F : Int} {w2 : World} (h : Of4 w a x b y V F w2) (V' : Int) : Of4 w a x b y V' F (w2.setCell ⟨w.heap.size + 1 + 1 + 1, 0, none⟩ (.int .i64 V')) := by
  rw [setCell_eq_setRow w2 _ 0 _ _ (0, 0) _ h.r3]
  exact h.row3 V' F
theorem Of4.feat {w : World} {a x b y V F : Int} {w2 : World} (h : Of4 w a x b y V F w2) (F' : Int) : Of4 w a x b y V F' (w2.setCell ⟨w.heap.size + 1 + 1 + 1, 1, none⟩ (.int .u32 F')) := by
  rw [setCell_eq_setRow w2 _ 1 _ _ (0, 0) _ h.r3]
  exact h.row3 V F'
set_option maxHeartbeats 1600000 in
theorem rChoose_any {a x b y : Int} (w : World) (h0 : 0 ≤ x ∧ x < 4294967296) (h1 : 0 ≤ y ∧ y < 4294967296) : Calls Try.prog 8 #[.agg #[.int .i64 a, .int .u32 x], .agg #[.int .i64 b, .int .u32 y]] w fun e w' => e = .returned (chS a x b y) ∧ Below w.heap.size w w' := by
  have HO := Lib.hid (And.intro (off3_new w a x b y 24 24) (show (((w.alloc (.cells #[.int .i64 a, .int .u32 x] 24)).alloc (.cells #[.int .i64 b, .int .u32 y] 24)).alloc (.cells #[.int .i64 0, .int .u32 0] 26)).heap.size = w.heap.size + 1 + 1 + 1 by simp))
  --RC
  obtain ⟨B, hB⟩ : ∃ B, verS a = B := ⟨_, rfl⟩
  obtain ⟨D, hD⟩ : ∃ D, verS b = D := ⟨_, rfl⟩
  cases B
  · rw [chS_no (by rw [hB]; rfl)]
    unfold verS at hB
    simp at hB
    clear hD
    by_cases h2 : a < 1
    · clear hB
      go_enter Try.func8, Try.ntmps8
      go_wp2_with fail
      exact bodyPost_ret (retCh Try.results8 (HO.out.1.r2) rfl rfl) rfl ⟨rfl, HO.out.1.bel⟩
    · have h3 : 3 < a := hB (by omega)
      clear hB
      go_enter Try.func8, Try.ntmps8
      go_wp2_with fail
      exact bodyPost_ret (retCh Try.results8 (HO.out.1.r2) rfl rfl) rfl ⟨rfl, HO.out.1.bel⟩
  · have g1 : ¬ a < 1 := by rcases ver_cases hB with rfl | rfl | rfl <;> omega
    have g3 : ¬ 3 < a := by rcases ver_cases hB with rfl | rfl | rfl <;> omega
    cases D
    · rw [chS_no (by rw [hB, hD]; rfl)]
      unfold verS at hD
      simp at hD
      clear hB
      by_cases h2 : b < 1
      · clear hD
        go_enter Try.func8, Try.ntmps8
        go_wp2_with fail
        exact bodyPost_ret (retCh Try.results8 (HO.out.1.r2) rfl rfl) rfl ⟨rfl, HO.out.1.bel⟩
      · have h3 : 3 < b := hD (by omega)
        clear hD
        go_enter Try.func8, Try.ntmps8
        go_wp2_with fail
        exact bodyPost_ret (retCh Try.results8 (HO.out.1.r2) rfl rfl) rfl ⟨rfl, HO.out.1.bel⟩
    · have k1 : ¬ b < 1 := by rcases ver_cases hD with rfl | rfl | rfl <;> omega
      have k3 : ¬ 3 < b := by rcases ver_cases hD with rfl | rfl | rfl <;> omega
      rw [chS_yes (by rw [hB, hD]; rfl)]
      obtain ⟨V, hV⟩ : ∃ V, min a b = V := ⟨_, rfl⟩
      obtain ⟨X, hX⟩ : ∃ X, bothN x y V = X := ⟨_, rfl⟩
      rw [hV, hX]
      have HV := Lib.hid (show verS V = true from by
        rw [← hV, Int.min_def]
        split
        · exact hB
        · exact hD)
      have HX := Lib.hid hX
      have H0 := Lib.hid (And.intro h0 h1)
      clear hX hB hD
      obtain ⟨h0, h5⟩ := h0
      obtain ⟨h1, h6⟩ := h1
      have HI := Lib.hid (HO.out.1.of4 HO.out.2 V 0)
      by_cases hba : b < a
      · have hVb : V = b := by rw [← hV, Int.min_def]; split <;> omega
        subst hVb
        clear hV
        go_enter Try.func8, Try.ntmps8
        go_upto_region 6 with fail
        generalize (((w.alloc _).alloc _).alloc _).alloc _ = w2 at HI ⊢
        have HW := HI
        clear HI
        go_wp2_with fail
        go_loopw [7] (fun i wr => ∃ k : Nat, k ≤ 32 ∧ i = .int .i64 k ∧ Of4 w a x V y V ((X % 2 ^ k : Nat) : Int) wr) (fun i _ => 32 - placeOf i)
        case atStart => exact ⟨0, by omega, rfl, by simpa [Nat.mod_one] using HW.out⟩
        case round =>
          obtain ⟨k, hk, rfl, hC⟩ := hrel
          have HC := Lib.hid hC
          clear hC HW HO
          by_cases hlt : k < 32
          · obtain ⟨ac0, ac1, bc0, bc1, _, _, _⟩ := HC.out
            obtain ⟨cc0, cc1, ccf⟩ := HC.out.c3
            have ccf1 := ccf 1
            clear ccf
            have hkl : (k : Int) < 32 := by omega
            obtain ⟨S, hS⟩ : ∃ S : Int, (sinceN k : Int) = S := ⟨_, rfl⟩
            have PS := Lib.hid (show ∀ w, Calls Try.prog 15 #[.int .i64 (k : Int)] w fun e w' => e = .returned (.int .i64 S) ∧ w' = w from fun w => by rw [← hS]; exact since_any w)
            have hbit := Lib.hid (show X.testBit k = (x.toNat.testBit k && y.toNat.testBit k && (decide (0 < S) && decide (S ≤ V))) from by rw [← HX.out, ← hS]; unfold bothN; rw [Nat.testBit_and, Nat.testBit_and, ceil_bits HV.out hlt, show decide (0 < sinceN k) = decide ((0 : Int) < (sinceN k : Int)) from decide_eq_decide.2 (by omega)])
            clear hS
            have hw : IntKind.u64.wrap (k : Int) = k := by rw [IntKind.wrap_u64]; omega
            have hm : min k 32 = k := by omega
            have hq : ∀ f : Int, 0 ≤ f → (f / 2 ^ k).tmod 2 = f / 2 ^ k % 2 := fun f h => Int.tmod_eq_emod_of_nonneg (Int.ediv_nonneg h (by have := Int.pow_pos (n := 2) (m := k) (by omega); omega))
            generalize hF : ((X % 2 ^ k : Nat) : Int) = Fk at HC cc1
            have HF := Lib.hid hF
            clear hF
            cases hx : x.toNat.testBit k
            · have hf2 : ((x / 2 ^ k).tmod 2 == 1) = false := by rw [hq x h0, ← bit_int h0, hx]
              have HT := Lib.hid (show X.testBit k = false from by rw [hbit.out, hx]; rfl)
              clear hx hq
              go_wp2_with fail
              go_quiet ((first | (go_at_call 15; with_reducible exact Calls.quiet_of_same (PS.out _))))
              generalize hwn : wr.drewN _ = wn
              have HN := Lib.hid (show Of4 w a x V y V Fk wn from hwn ▸ HC.out.drewN _)
              clear hwn ac0 ac1 bc0 bc1 cc0 cc1 ccf1 HC
              go_wp2_with fail
              go_roundw
              case rel => exact ⟨k + 1, by omega, by go_num, by rw [bit_no HT.out, HF.out]; exact HN.out⟩
              case measure => simp [placeOf]; omega
            · have hf2 : ((x / 2 ^ k).tmod 2 == 1) = true := by rw [hq x h0, ← bit_int h0, hx]
              cases hy : y.toNat.testBit k
              · have hf3 : ((y / 2 ^ k).tmod 2 == 1) = false := by rw [hq y h1, ← bit_int h1, hy]
                have HT := Lib.hid (show X.testBit k = false from by rw [hbit.out, hx, hy]; rfl)
                clear hx hy hq
                go_wp2_with fail
                go_quiet ((first | (go_at_call 15; with_reducible exact Calls.quiet_of_same (PS.out _))))
                generalize hwn : wr.drewN _ = wn
                have HN := Lib.hid (show Of4 w a x V y V Fk wn from hwn ▸ HC.out.drewN _)
                clear hwn ac0 ac1 bc0 bc1 cc0 cc1 ccf1 HC
                go_wp2_with fail
                go_roundw
                case rel => exact ⟨k + 1, by omega, by go_num, by rw [bit_no HT.out, HF.out]; exact HN.out⟩
                case measure => simp [placeOf]; omega
              · have hf3 : ((y / 2 ^ k).tmod 2 == 1) = true := by rw [hq y h1, ← bit_int h1, hy]
                by_cases hs0 : 0 < S
                · have hs1 : (0 : Int) < S := by omega
                  by_cases hs4 : S ≤ V
                  · have hs5 : decide (S ≤ V) = true := decide_eq_true hs4
                    have HT := Lib.hid (show X.testBit k = true from by rw [hbit.out, hx, hy, decide_eq_true hs0, decide_eq_true hs4]; rfl)
                    clear hx hy hq
                    have HE := Lib.hid (show bits .or .u32 Fk (2 ^ k % 4294967296) = ((X % 2 ^ (k + 1) : Nat) : Int) from by rw [← HF.out]; exact or_walkF hlt HT.out)
                    go_wp2_with fail
                    go_quiet ((first | (go_at_call 15; with_reducible exact Calls.quiet_of_same (PS.out _))))
                    generalize hwn : wr.drewN _ = wn
                    have HN := Lib.hid (show Of4 w a x V y V Fk wn from hwn ▸ HC.out.drewN _)
                    clear hwn ac0 ac1 bc0 bc1 cc0 cc1 ccf1 HC
                    obtain ⟨cc0, cc1, ccf⟩ := HN.out.c3
                    have ccf1 := ccf 1
                    clear ccf
                    go_wp2_with fail
                    go_roundw
                    case rel => exact ⟨k + 1, by omega, by go_num, by rw [← HE.out]; exact HN.out.feat _⟩
                    case measure => simp [placeOf]; omega
                  · have hs5 : decide (S ≤ V) = false := decide_eq_false hs4
                    have HT := Lib.hid (show X.testBit k = false from by rw [hbit.out, hx, hy, decide_eq_false hs4]; simp)
                    clear hx hy hq
                    go_wp2_with fail
                    go_quiet ((first | (go_at_call 15; with_reducible exact Calls.quiet_of_same (PS.out _))))
                    generalize hwn : wr.drewN _ = wn
                    have HN := Lib.hid (show Of4 w a x V y V Fk wn from hwn ▸ HC.out.drewN _)
                    clear hwn ac0 ac1 bc0 bc1 cc0 cc1 ccf1 HC
                    go_wp2_with fail
                    go_roundw
                    case rel => exact ⟨k + 1, by omega, by go_num, by rw [bit_no HT.out, HF.out]; exact HN.out⟩
                    case measure => simp [placeOf]; omega
                · have HT := Lib.hid (show X.testBit k = false from by rw [hbit.out, hx, hy, decide_eq_false hs0]; rfl)
                  have hs1 : decide (0 < S) = false := decide_eq_false hs0
                  clear hx hy hq
                  go_wp2_with fail
                  go_quiet ((first | (go_at_call 15; with_reducible exact Calls.quiet_of_same (PS.out _))))
                  generalize hwn : wr.drewN _ = wn
                  have HN := Lib.hid (show Of4 w a x V y V Fk wn from hwn ▸ HC.out.drewN _)
                  clear hwn ac0 ac1 bc0 bc1 cc0 cc1 ccf1 HC
                  go_wp2_with fail
                  go_roundw
                  case rel => exact ⟨k + 1, by omega, by go_num, by rw [bit_no HT.out, HF.out]; exact HN.out⟩
                  case measure => simp [placeOf]; omega
          · obtain rfl : k = 32 := by omega
            have hX32 := Lib.hid (show X % 2 ^ 32 = X from bit_all (by rw [← HX.out]; exact both_lt x y V))
            rw [hX32.out] at HC
            obtain ⟨cc0, cc1, _⟩ := HC.out.c3
            go_wp2_with (refine wpList_store_row rfl 26 (.tmp 4) (.tmp 77) rfl (w.heap.size + 1 + 1) #[.int .i64 V, .int .u32 (X : Int)] rfl rfl 26 #[.int .i64 0, .int .u32 0] HC.out.r2 infoCh rfl (by simp [Value.oneCell']) ?_)
            exact bodyPost_ret (retCh Try.results8 (setRow_heap _ _ _ _ _ _ HC.out.r2) rfl rfl) rfl ⟨rfl, below_setRow HC.out.bel (by omega) _⟩
      · have hVa : V = a := by rw [← hV, Int.min_def]; split <;> omega
        subst hVa
        clear hV
        go_enter Try.func8, Try.ntmps8
        go_upto_region 6 with fail
        generalize (((w.alloc _).alloc _).alloc _).alloc _ = w2 at HI ⊢
        have HW := HI
        clear HI
        go_wp2_with fail
        go_loopw [7] (fun i wr => ∃ k : Nat, k ≤ 32 ∧ i = .int .i64 k ∧ Of4 w V x b y V ((X % 2 ^ k : Nat) : Int) wr) (fun i _ => 32 - placeOf i)
        case atStart => exact ⟨0, by omega, rfl, by simpa [Nat.mod_one] using HW.out⟩
        case round =>
          obtain ⟨k, hk, rfl, hC⟩ := hrel
          have HC := Lib.hid hC
          clear hC HW HO
          by_cases hlt : k < 32
          · obtain ⟨ac0, ac1, bc0, bc1, _, _, _⟩ := HC.out
            obtain ⟨cc0, cc1, ccf⟩ := HC.out.c3
            have ccf1 := ccf 1
            clear ccf
            have hkl : (k : Int) < 32 := by omega
            obtain ⟨S, hS⟩ : ∃ S : Int, (sinceN k : Int) = S := ⟨_, rfl⟩
            have PS := Lib.hid (show ∀ w, Calls Try.prog 15 #[.int .i64 (k : Int)] w fun e w' => e = .returned (.int .i64 S) ∧ w' = w from fun w => by rw [← hS]; exact since_any w)
            have hbit := Lib.hid (show X.testBit k = (x.toNat.testBit k && y.toNat.testBit k && (decide (0 < S) && decide (S ≤ V))) from by rw [← HX.out, ← hS]; unfold bothN; rw [Nat.testBit_and, Nat.testBit_and, ceil_bits HV.out hlt, show decide (0 < sinceN k) = decide ((0 : Int) < (sinceN k : Int)) from decide_eq_decide.2 (by omega)])
            clear hS
            have hw : IntKind.u64.wrap (k : Int) = k := by rw [IntKind.wrap_u64]; omega
            have hm : min k 32 = k := by omega
            have hq : ∀ f : Int, 0 ≤ f → (f / 2 ^ k).tmod 2 = f / 2 ^ k % 2 := fun f h => Int.tmod_eq_emod_of_nonneg (Int.ediv_nonneg h (by have := Int.pow_pos (n := 2) (m := k) (by omega); omega))
            generalize hF : ((X % 2 ^ k : Nat) : Int) = Fk at HC cc1
            have HF := Lib.hid hF
            clear hF
            cases hx : x.toNat.testBit k
            · have hf2 : ((x / 2 ^ k).tmod 2 == 1) = false := by rw [hq x h0, ← bit_int h0, hx]
              have HT := Lib.hid (show X.testBit k = false from by rw [hbit.out, hx]; rfl)
              clear hx hq
              go_wp2_with fail
              go_quiet ((first | (go_at_call 15; with_reducible exact Calls.quiet_of_same (PS.out _))))
              generalize hwn : wr.drewN _ = wn
              have HN := Lib.hid (show Of4 w V x b y V Fk wn from hwn ▸ HC.out.drewN _)
              clear hwn ac0 ac1 bc0 bc1 cc0 cc1 ccf1 HC
              go_wp2_with fail
              go_roundw
              case rel => exact ⟨k + 1, by omega, by go_num, by rw [bit_no HT.out, HF.out]; exact HN.out⟩
              case measure => simp [placeOf]; omega
            · have hf2 : ((x / 2 ^ k).tmod 2 == 1) = true := by rw [hq x h0, ← bit_int h0, hx]
              cases hy : y.toNat.testBit k
              · have hf3 : ((y / 2 ^ k).tmod 2 == 1) = false := by rw [hq y h1, ← bit_int h1, hy]
                have HT := Lib.hid (show X.testBit k = false from by rw [hbit.out, hx, hy]; rfl)
                clear hx hy hq
                go_wp2_with fail
                go_quiet ((first | (go_at_call 15; with_reducible exact Calls.quiet_of_same (PS.out _))))
                generalize hwn : wr.drewN _ = wn
                have HN := Lib.hid (show Of4 w V x b y V Fk wn from hwn ▸ HC.out.drewN _)
                clear hwn ac0 ac1 bc0 bc1 cc0 cc1 ccf1 HC
                go_wp2_with fail
                go_roundw
                case rel => exact ⟨k + 1, by omega, by go_num, by rw [bit_no HT.out, HF.out]; exact HN.out⟩
                case measure => simp [placeOf]; omega
              · have hf3 : ((y / 2 ^ k).tmod 2 == 1) = true := by rw [hq y h1, ← bit_int h1, hy]
                by_cases hs0 : 0 < S
                · have hs1 : (0 : Int) < S := by omega
                  by_cases hs4 : S ≤ V
                  · have hs5 : decide (S ≤ V) = true := decide_eq_true hs4
                    have HT := Lib.hid (show X.testBit k = true from by rw [hbit.out, hx, hy, decide_eq_true hs0, decide_eq_true hs4]; rfl)
                    clear hx hy hq
                    have HE := Lib.hid (show bits .or .u32 Fk (2 ^ k % 4294967296) = ((X % 2 ^ (k + 1) : Nat) : Int) from by rw [← HF.out]; exact or_walkF hlt HT.out)
                    go_wp2_with fail
                    go_quiet ((first | (go_at_call 15; with_reducible exact Calls.quiet_of_same (PS.out _))))
                    generalize hwn : wr.drewN _ = wn
                    have HN := Lib.hid (show Of4 w V x b y V Fk wn from hwn ▸ HC.out.drewN _)
                    clear hwn ac0 ac1 bc0 bc1 cc0 cc1 ccf1 HC
                    obtain ⟨cc0, cc1, ccf⟩ := HN.out.c3
                    have ccf1 := ccf 1
                    clear ccf
                    go_wp2_with fail
                    go_roundw
                    case rel => exact ⟨k + 1, by omega, by go_num, by rw [← HE.out]; exact HN.out.feat _⟩
                    case measure => simp [placeOf]; omega
                  · have hs5 : decide (S ≤ V) = false := decide_eq_false hs4
                    have HT := Lib.hid (show X.testBit k = false from by rw [hbit.out, hx, hy, decide_eq_false hs4]; simp)
                    clear hx hy hq
                    go_wp2_with fail
                    go_quiet ((first | (go_at_call 15; with_reducible exact Calls.quiet_of_same (PS.out _))))
                    generalize hwn : wr.drewN _ = wn
                    have HN := Lib.hid (show Of4 w V x b y V Fk wn from hwn ▸ HC.out.drewN _)
                    clear hwn ac0 ac1 bc0 bc1 cc0 cc1 ccf1 HC
                    go_wp2_with fail
                    go_roundw
                    case rel => exact ⟨k + 1, by omega, by go_num, by rw [bit_no HT.out, HF.out]; exact HN.out⟩
                    case measure => simp [placeOf]; omega
                · have HT := Lib.hid (show X.testBit k = false from by rw [hbit.out, hx, hy, decide_eq_false hs0]; rfl)
                  have hs1 : decide (0 < S) = false := decide_eq_false hs0
                  clear hx hy hq
                  go_wp2_with fail
                  go_quiet ((first | (go_at_call 15; with_reducible exact Calls.quiet_of_same (PS.out _))))
                  generalize hwn : wr.drewN _ = wn
                  have HN := Lib.hid (show Of4 w V x b y V Fk wn from hwn ▸ HC.out.drewN _)
                  clear hwn ac0 ac1 bc0 bc1 cc0 cc1 ccf1 HC
                  go_wp2_with fail
                  go_roundw
                  case rel => exact ⟨k + 1, by omega, by go_num, by rw [bit_no HT.out, HF.out]; exact HN.out⟩
                  case measure => simp [placeOf]; omega
          · obtain rfl : k = 32 := by omega
            have hX32 := Lib.hid (show X % 2 ^ 32 = X from bit_all (by rw [← HX.out]; exact both_lt x y V))
            rw [hX32.out] at HC
            obtain ⟨cc0, cc1, _⟩ := HC.out.c3
            go_wp2_with (refine wpList_store_row rfl 26 (.tmp 4) (.tmp 77) rfl (w.heap.size + 1 + 1) #[.int .i64 V, .int .u32 (X : Int)] rfl rfl 26 #[.int .i64 0, .int .u32 0] HC.out.r2 infoCh rfl (by simp [Value.oneCell']) ?_)
            exact bodyPost_ret (retCh Try.results8 (setRow_heap _ _ _ _ _ _ HC.out.r2) rfl rfl) rfl ⟨rfl, below_setRow HC.out.bel (by omega) _⟩
end Go.Proofs.Ytpkammjbafijaaa
