/-
  feat: what a version can have, whether a choice may be, and Choose.
-/
import Derived.Test.YtpkammjbafijaaaFeatSpec
import Derived.Test.YtpkammjbafijaaaWireLeaf
import Derived.BigQuiet
import Derived.Handy
import Derived.Deep.RegionHeld3
import Derived.Deep.DeepCutAuto
import Derived.Laws.CopyOwn
import Derived.Laws.ResultCell
import Derived.Deep.RegionWith
namespace Go.Proofs.Ytpkammjbafijaaa
open Go.RowKit

theorem belowNf {B : Nat} {a w : World} (h : Below B a w) (n : Nat) : Below B a (w.drewN n) := ⟨h.os, h.tape, h.output, h.size, h.block⟩
theorem isVer_any {v : Int} (w : World) : Calls Try.prog 14 #[.int .i64 v] w fun e w' => e = .returned (.bool (verS v)) ∧ w = w' := by
  obtain ⟨B, hB⟩ : ∃ B, verS v = B := ⟨_, rfl⟩
  rw [hB]
  have HB := Lib.hid hB
  clear hB
  by_cases h1 : 1 ≤ v
  · by_cases h2 : v ≤ 3
    · have hb : B = true := by rw [← HB.out]; simp [verS]; omega
      subst hb
      go_enter Try.func14, Try.ntmps14
      go_wp2_with fail
      go_ret
      exact ⟨rfl, rfl⟩
    · have hb : B = false := by rw [← HB.out]; simp [verS]; omega
      subst hb
      go_enter Try.func14, Try.ntmps14
      go_wp2_with fail
      go_ret
      exact ⟨rfl, rfl⟩
  · have hb : B = false := by rw [← HB.out]; simp [verS]; omega
    subst hb
    go_enter Try.func14, Try.ntmps14
    go_wp2_with fail
    go_ret
    exact ⟨rfl, rfl⟩
theorem ceil_any {v : Int} (w : World) : Calls Try.prog 12 #[.int .i64 v] w fun e w' => e = .returned (.int .u32 (ceilN v)) ∧ w = w' := by
  obtain ⟨B, hB⟩ : ∃ B, ceilN v = B := ⟨_, rfl⟩
  rw [hB]
  have HB := Lib.hid hB
  clear hB
  by_cases h3 : v = 3
  · subst h3
    have hb : B = 63 := by rw [← HB.out]; rfl
    subst hb
    go_enter Try.func12, Try.ntmps12
    go_wp2_with fail
    go_ret
    exact ⟨rfl, rfl⟩
  by_cases h2 : v = 2
  · subst h2
    have hb : B = 51 := by rw [← HB.out]; rfl
    subst hb
    go_enter Try.func12, Try.ntmps12
    go_wp2_with fail
    go_ret
    exact ⟨rfl, rfl⟩
  by_cases h1 : v = 1
  · subst h1
    have hb : B = 17 := by rw [← HB.out]; rfl
    subst hb
    go_enter Try.func12, Try.ntmps12
    go_wp2_with fail
    go_ret
    exact ⟨rfl, rfl⟩
  have hb : B = 0 := by rw [← HB.out]; unfold ceilN; rw [if_neg h1, if_neg h2, if_neg h3]
  subst hb
  have n3 : (v == 3) = false := by simpa using h3
  have n2 : (v == 2) = false := by simpa using h2
  have n1 : (v == 1) = false := by simpa using h1
  go_enter Try.func12, Try.ntmps12
  go_wp2_with fail
  go_ret
  exact ⟨rfl, rfl⟩
theorem fMay_any {v f : Int} (w : World) (h0 : 0 ≤ f ∧ f < 4294967296) : Calls Try.prog 10 #[.agg #[.int .i64 v, .int .u32 f]] w fun e w' => e = .returned (.bool (mayS v f)) ∧ Below w.heap.size w w' := by
  rw [may_outs h0]
  obtain ⟨C, hC⟩ : ∃ C, ((ceilN v : Nat) : Int) = C := ⟨_, rfl⟩
  obtain ⟨B, hB⟩ : ∃ B, verS v = B := ⟨_, rfl⟩
  obtain ⟨Z, hZ⟩ : ∃ Z, bits .andNot .u32 f C = Z := ⟨_, rfl⟩
  have HB := Lib.hid (And.intro hB hC)
  have hl : ((0 : Int) ≤ f) := h0.1
  rw [hC, hB, hZ]
  clear hB hC h0
  have PV := Lib.hid (show ∀ w, Calls Try.prog 14 #[.int .i64 v] w fun e w' => e = .returned (.bool B) ∧ w' = w from fun w => by rw [← HB.out.1]; exact (isVer_any w).mono fun _ _ h => ⟨h.1, h.2.symm⟩)
  have PC := Lib.hid (show ∀ w, Calls Try.prog 12 #[.int .i64 v] w fun e w' => e = .returned (.int .u32 C) ∧ w' = w from fun w => by rw [← HB.out.2]; exact (ceil_any w).mono fun _ _ h => ⟨h.1, h.2.symm⟩)
  cases B
  · go_enter Try.func10, Try.ntmps10
    go_wp2_with fail
    go_quiet ((first | (go_at_call 14; with_reducible exact Calls.quiet_of_same (PV.out _))))
    go_wp2_with fail
    go_ret
    exact ⟨by simp, belowNf ((Below.refl _ _).alloc (Nat.le_refl _) _) _⟩
  · go_enter Try.func10, Try.ntmps10
    go_wp2_with fail
    go_quiet ((first | (go_at_call 14; with_reducible exact Calls.quiet_of_same (PV.out _)) | (go_at_call 12; with_reducible exact Calls.quiet_of_same (PC.out _))))
    go_wp2_with fail
    go_ret
    exact ⟨by simp, belowNf ((Below.refl _ _).alloc (Nat.le_refl _) _) _⟩
theorem infoCh : (Try.prog.info? 26).map (·.size) = some 2 := by kernel_rfl
theorem retCh {fn : Func} {p u : Tmp} (h : fn.results = #[.cell p 26, .tmp u]) {tmps : Array Value} {w : World} {b : Nat} {x y v : Value} {t : TypeId} (hG : w.heap[b]? = some (.cells #[x, y] t (0, 0))) (hp : tmps.getD p undef = .pointer (some ⟨b, 0, none⟩)) (hu : tmps.getD u undef = v) :
    (results fn tmps).run Try.prog w = .ok (.tuple #[.agg #[x, y], v]) w := by
  rw [results_cell_tmp h, hp, hu]
  simp [asAddr, run_loadVar_row w b t 26 _ (0, 0) _ hG Try.underlying26 rfl infoCh]
theorem setRow_cellF {w : World} {g b : Nat} (cs : Array Value) (k : Nat) (h : b ≠ g) : (w.setRow g cs).cell? ⟨b, k, none⟩ = w.cell? ⟨b, k, none⟩ := by simp [World.cell?, setRow_other w g b cs h]
/-- Two offers, and room for a choice. -/
structure Off3 (w : World) (a x b y : Int) (w2 : World) : Prop where
  a0 : w2.cell? ⟨w.heap.size, 0, none⟩ = some (.int .i64 a)
  a1 : w2.cell? ⟨w.heap.size, 1, none⟩ = some (.int .u32 x)
  b0 : w2.cell? ⟨w.heap.size + 1, 0, none⟩ = some (.int .i64 b)
  b1 : w2.cell? ⟨w.heap.size + 1, 1, none⟩ = some (.int .u32 y)
  r2 : w2.heap[w.heap.size + 1 + 1]? = some (.cells #[.int .i64 0, .int .u32 0] 26 (0, 0))
  bel : Below w.heap.size w w2
theorem Off3.drewN {w : World} {a x b y : Int} {w2 : World} (h : Off3 w a x b y w2) (q : Nat) : Off3 w a x b y (w2.drewN q) := ⟨h.a0, h.a1, h.b0, h.b1, h.r2, ⟨h.bel.os, h.bel.tape, h.bel.output, h.bel.size, h.bel.block⟩⟩
theorem Off3.row {w : World} {a x b y : Int} {w2 : World} (h : Off3 w a x b y w2) (cs : Array Value) : (w2.setRow (w.heap.size + 1 + 1) cs).heap[w.heap.size + 1 + 1]? = some (.cells cs 26 (0, 0)) := setRow_heap _ _ _ _ _ _ h.r2
theorem Off3.keep {w : World} {a x b y : Int} {w2 : World} (h : Off3 w a x b y w2) (cs : Array Value) : Below w.heap.size w (w2.setRow (w.heap.size + 1 + 1) cs) := below_setRow h.bel (by omega) cs
theorem off3_new (w : World) (a x b y : Int) (t1 t2 : TypeId) : Off3 w a x b y (((w.alloc (.cells #[.int .i64 a, .int .u32 x] t1)).alloc (.cells #[.int .i64 b, .int .u32 y] t2)).alloc (.cells #[.int .i64 0, .int .u32 0] 26)) := by
  have s1 : (w.alloc (.cells #[.int .i64 a, .int .u32 x] t1)).heap.size = w.heap.size + 1 := by simp
  have s2 : ((w.alloc (.cells #[.int .i64 a, .int .u32 x] t1)).alloc (.cells #[.int .i64 b, .int .u32 y] t2)).heap.size = w.heap.size + 1 + 1 := by simp
  have h1 : ((w.alloc (.cells #[.int .i64 a, .int .u32 x] t1)).alloc (.cells #[.int .i64 b, .int .u32 y] t2)).heap[w.heap.size + 1]? = some (.cells #[.int .i64 b, .int .u32 y] t2 (0, 0)) := by rw [← s1]; exact heap_alloc_new _ _
  have h0 : ((w.alloc (.cells #[.int .i64 a, .int .u32 x] t1)).alloc (.cells #[.int .i64 b, .int .u32 y] t2)).heap[w.heap.size]? = some (.cells #[.int .i64 a, .int .u32 x] t1 (0, 0)) := by rw [heap_alloc_old _ _ (by simp)]; exact heap_alloc_new _ _
  have g1 : (((w.alloc (.cells #[.int .i64 a, .int .u32 x] t1)).alloc (.cells #[.int .i64 b, .int .u32 y] t2)).alloc (.cells #[.int .i64 0, .int .u32 0] 26)).heap[w.heap.size + 1]? = some (.cells #[.int .i64 b, .int .u32 y] t2 (0, 0)) := by rw [heap_alloc_old _ _ (by simp)]; exact h1
  have g0 : (((w.alloc (.cells #[.int .i64 a, .int .u32 x] t1)).alloc (.cells #[.int .i64 b, .int .u32 y] t2)).alloc (.cells #[.int .i64 0, .int .u32 0] 26)).heap[w.heap.size]? = some (.cells #[.int .i64 a, .int .u32 x] t1 (0, 0)) := by rw [heap_alloc_old _ _ (by simp; omega)]; exact h0
  refine ⟨?_, ?_, ?_, ?_, ?_, (((Below.refl _ _).alloc (Nat.le_refl _) _).alloc (by simp) _).alloc (by simp; omega) _⟩
  · rw [cell_of_row _ _ 0 _ _ _ g0]; rfl
  · rw [cell_of_row _ _ 1 _ _ _ g0]; rfl
  · rw [cell_of_row _ _ 0 _ _ _ g1]; rfl
  · rw [cell_of_row _ _ 1 _ _ _ g1]; rfl
  · rw [← s2]; exact heap_alloc_new _ _
/-- What Choose answers. -/
def chV (a b : Int) : Int := if verS a && verS b then min a b else 0
def chF (a x b y : Int) : Nat := if verS a && verS b then bothN x y (min a b) else 0
def chE (a b : Int) : Int := if verS a && verS b then 0 else 1
def chS (a x b y : Int) : Value := .tuple #[.agg #[.int .i64 (chV a b), .int .u32 (chF a x b y)], .int .i64 (chE a b)]
theorem chS_no {a x b y : Int} (h : (verS a && verS b) = false) : chS a x b y = .tuple #[.agg #[.int .i64 0, .int .u32 0], .int .i64 1] := by
  unfold chS chV chF chE; rw [h]; rfl
theorem chS_yes {a x b y : Int} (h : (verS a && verS b) = true) : chS a x b y = .tuple #[.agg #[.int .i64 (min a b), .int .u32 (bothN x y (min a b))], .int .i64 0] := by
  unfold chS chV chF chE; rw [h]; rfl
theorem choose_any {a x b y : Int} (w : World) (h0 : 0 ≤ x ∧ x < 4294967296) (h1 : 0 ≤ y ∧ y < 4294967296) : Calls Try.prog 7 #[.agg #[.int .i64 a, .int .u32 x], .agg #[.int .i64 b, .int .u32 y]] w fun e w' => e = .returned (chS a x b y) ∧ Below w.heap.size w w' := by
  have PV := Lib.hid (show ∀ v w, Calls Try.prog 14 #[.int .i64 v] w fun e w' => e = .returned (.bool (verS v)) ∧ w = w' from fun v w => isVer_any w)
  obtain ⟨B, hB⟩ : ∃ B, verS a = B := ⟨_, rfl⟩
  obtain ⟨D, hD⟩ : ∃ D, verS b = D := ⟨_, rfl⟩
  have HB := Lib.hid (And.intro hB hD)
  have HX := Lib.hid (And.intro h0 h1)
  have HO := Lib.hid (off3_new w a x b y 24 24)
  clear hB hD h0 h1
  cases B
  · rw [chS_no (by rw [HB.out.1]; rfl)]
    go_enter Try.func7, Try.ntmps7
    go_wp2_with fail
    refine (PV.out _ _).mono ?_
    rintro e w1 ⟨rfl, rfl⟩
    rw [HB.out.1]
    go_wp2_with fail
    refine bodyPost_ret (retCh Try.results7 (HO.out.r2) rfl rfl) rfl ⟨rfl, HO.out.bel⟩
  · cases D
    · rw [chS_no (by rw [HB.out.1, HB.out.2]; rfl)]
      go_enter Try.func7, Try.ntmps7
      go_wp2_with fail
      refine (PV.out _ _).mono ?_
      rintro e w1 ⟨rfl, rfl⟩
      rw [HB.out.1]
      go_wp2_with fail
      refine (PV.out _ _).mono ?_
      rintro e w1 ⟨rfl, rfl⟩
      rw [HB.out.2]
      go_wp2_with fail
      refine bodyPost_ret (retCh Try.results7 (HO.out.r2) rfl rfl) rfl ⟨rfl, HO.out.bel⟩
    · rw [chS_yes (by rw [HB.out.1, HB.out.2]; rfl)]
      obtain ⟨V, hV⟩ : ∃ V, min a b = V := ⟨_, rfl⟩
      obtain ⟨C, hC⟩ : ∃ C, ((ceilN V : Nat) : Int) = C := ⟨_, rfl⟩
      obtain ⟨Z, hZ⟩ : ∃ Z, bits .and .u32 x y = Z := ⟨_, rfl⟩
      obtain ⟨F, hF⟩ : ∃ F, bits .and .u32 Z C = F := ⟨_, rfl⟩
      have HF := Lib.hid (show ((bothN x y V : Nat) : Int) = F from by rw [← hF, ← hZ, ← hC]; exact (both_code V HX.out.1 HX.out.2).symm)
      have PC := Lib.hid (show ∀ w, Calls Try.prog 12 #[.int .i64 V] w fun e w' => e = .returned (.int .u32 C) ∧ w = w' from fun w => by rw [← hC]; exact ceil_any w)
      rw [hV, HF.out]
      have hV2 : (if b < a then b else a) = V := by rw [← hV, Int.min_def]; split <;> split <;> omega
      clear hC
      go_enter Try.func7, Try.ntmps7
      go_wp2_with fail
      refine (PV.out _ _).mono ?_
      rintro e w1 ⟨rfl, rfl⟩
      rw [HB.out.1]
      go_wp2_with fail
      refine (PV.out _ _).mono ?_
      rintro e w1 ⟨rfl, rfl⟩
      rw [HB.out.2]
      go_upto_region 4 with fail
      clear hV2
      generalize ((w.alloc _).alloc _).alloc _ = w2 at HO ⊢
      have q1 := HO.out.a1
      have q2 := HO.out.b1
      refine wp_region_noPanic ?_
      refine wp_region_held_drew (S := fun w' => w'.cell? ⟨w.heap.size, 1, none⟩ = some (.int .u32 x) ∧ w'.cell? ⟨w.heap.size + 1, 1, none⟩ = some (.int .u32 y)) (by kernel_rfl) (⟨q1, q2⟩) (fun hHeld => ?_)
      clear q1 q2
      have HO2 := Lib.hid (HO.out.drewN 1)
      clear HO
      rw [show w2.drew = w2.drewN 1 from rfl] at hHeld ⊢
      generalize w2.drewN 1 = w3 at HO2 hHeld ⊢
      refine wpAnyH_take (i := 0) (v := .int .i64 V) rfl (by kernel_rfl) (by kernel_rfl) (by kernel_rfl) (fun _ _ _ h => h) (Or.inl ⟨by rfl, fun wz hSz => ?_⟩) hHeld ?_
      · go_simp
      simp only [Act.put, List.getElem_toArray, List.getElem_cons_zero]
      try simp only [List.setIfInBounds_toArray]
      try simp only [List.set_cons_succ]
      try simp only [List.set_cons_zero]
      refine wpAnyH_take (i := 1) (v := .pointer (some ⟨w.heap.size, 1, none⟩)) rfl (by kernel_rfl) (by kernel_rfl) (by kernel_rfl) (fun _ _ _ h => h) (Or.inl ⟨by rfl, fun wz hSz => ?_⟩) hHeld ?_
      · go_simp
      simp only [Act.put, List.getElem_toArray, List.getElem_cons_succ, List.getElem_cons_zero]
      try simp only [List.setIfInBounds_toArray]
      try simp only [List.set_cons_succ]
      try simp only [List.set_cons_zero]
      refine wpAnyH_take (i := 2) (v := .int .u32 x) rfl (by kernel_rfl) (by kernel_rfl) (by kernel_rfl) (fun _ _ _ h => h) (Or.inl ⟨by rfl, fun wz hSz => ?_⟩) hHeld ?_
      · obtain ⟨d1, d2⟩ := hSz
        go_simp
      simp only [Act.put, List.getElem_toArray, List.getElem_cons_succ, List.getElem_cons_zero]
      try simp only [List.setIfInBounds_toArray]
      try simp only [List.set_cons_succ]
      try simp only [List.set_cons_zero]
      refine wpAnyH_take (i := 3) (v := .pointer (some ⟨w.heap.size + 1, 1, none⟩)) rfl (by kernel_rfl) (by kernel_rfl) (by kernel_rfl) (fun _ _ _ h => h) (Or.inl ⟨by rfl, fun wz hSz => ?_⟩) hHeld ?_
      · go_simp
      simp only [Act.put, List.getElem_toArray, List.getElem_cons_succ, List.getElem_cons_zero]
      try simp only [List.setIfInBounds_toArray]
      try simp only [List.set_cons_succ]
      try simp only [List.set_cons_zero]
      refine wpAnyH_take (i := 4) (v := .int .u32 y) rfl (by kernel_rfl) (by kernel_rfl) (by kernel_rfl) (fun _ _ _ h => h) (Or.inl ⟨by rfl, fun wz hSz => ?_⟩) hHeld ?_
      · obtain ⟨d1, d2⟩ := hSz
        go_simp
      simp only [Act.put, List.getElem_toArray, List.getElem_cons_succ, List.getElem_cons_zero]
      try simp only [List.setIfInBounds_toArray]
      try simp only [List.set_cons_succ]
      try simp only [List.set_cons_zero]
      refine wpAnyH_take (i := 5) (v := .int .u32 Z) rfl (by kernel_rfl) (by kernel_rfl) (by kernel_rfl) (fun _ _ _ h => h) (Or.inl ⟨by rfl, fun wz hSz => ?_⟩) hHeld ?_
      · go_simp
      simp only [Act.put, List.getElem_toArray, List.getElem_cons_succ, List.getElem_cons_zero]
      try simp only [List.setIfInBounds_toArray]
      try simp only [List.set_cons_succ]
      try simp only [List.set_cons_zero]
      refine wpAnyH_take (i := 6) (v := .int .i64 V) rfl (by kernel_rfl) (by kernel_rfl) (by kernel_rfl) (fun _ _ _ h => h) (Or.inl ⟨by rfl, fun wz hSz => ?_⟩) hHeld ?_
      · go_simp
      simp only [Act.put, List.getElem_toArray, List.getElem_cons_succ, List.getElem_cons_zero]
      try simp only [List.setIfInBounds_toArray]
      try simp only [List.set_cons_succ]
      try simp only [List.set_cons_zero]
      refine wpAnyH_ready (rs := [7]) (by kernel_rfl) (by simp) (AllReadyH.cons rfl (fun K hK => ?_) AllReadyH.nil)
      rw [if_pos (by rfl)]
      go_simp
      refine (PC.out _).mono ?_
      rintro e w4 ⟨rfl, rfl⟩
      refine hK.out _ _ (hHeld) (fun hHeld => ?_)
      clear hK K
      try simp only [Act.put, List.getElem_toArray, List.getElem_cons_succ, List.getElem_cons_zero]
      try simp only [List.setIfInBounds_toArray]
      try simp only [List.set_cons_succ]
      try simp only [List.set_cons_zero]
      refine wpAnyH_take (i := 8) (v := .int .u32 F) rfl (by kernel_rfl) (by kernel_rfl) (by kernel_rfl) (fun _ _ _ h => h) (Or.inl ⟨by rfl, fun wz hSz => ?_⟩) hHeld ?_
      · go_simp
      simp only [Act.put, List.getElem_toArray, List.getElem_cons_succ, List.getElem_cons_zero]
      try simp only [List.setIfInBounds_toArray]
      try simp only [List.set_cons_succ]
      try simp only [List.set_cons_zero]
      refine wpAnyH_take (i := 9) (v := .agg #[.int .i64 V, .int .u32 F]) rfl (by kernel_rfl) (by kernel_rfl) (by kernel_rfl) (fun _ _ _ h => h) (Or.inl ⟨by rfl, fun wz hSz => ?_⟩) hHeld ?_
      · go_simp
      simp only [Act.put, List.getElem_toArray, List.getElem_cons_succ, List.getElem_cons_zero]
      try simp only [List.setIfInBounds_toArray]
      try simp only [List.set_cons_succ]
      try simp only [List.set_cons_zero]
      refine wpAnyH_ready (rs := [10]) (by kernel_rfl) (by simp) (AllReadyH.cons rfl (fun K hK => ?_) AllReadyH.nil)
      rw [if_pos (by rfl)]
      refine wp_store_row 26 (.tmp 4) (.tmp 32) rfl (w.heap.size + 1 + 1) #[.int .i64 V, .int .u32 F] rfl rfl 26 #[.int .i64 0, .int .u32 0] HO2.out.r2 infoCh rfl (by simp [Value.oneCell']) ?_
      refine hK.out _ _ (⟨by rw [setRow_cellF _ _ (by omega)]; exact hHeld.1, by rw [setRow_cellF _ _ (by omega)]; exact hHeld.2⟩) (fun hHeld => ?_)
      clear hK K
      try simp only [Act.put, List.getElem_toArray, List.getElem_cons_succ, List.getElem_cons_zero]
      try simp only [List.setIfInBounds_toArray]
      try simp only [List.set_cons_succ]
      try simp only [List.set_cons_zero]
      refine wpAnyH_take (i := 11) (v := .int .i64 0) rfl (by kernel_rfl) (by kernel_rfl) (by kernel_rfl) (fun _ _ _ h => h) (Or.inl ⟨by rfl, fun wz hSz => ?_⟩) hHeld ?_
      · go_simp
      simp only [Act.put, List.getElem_toArray, List.getElem_cons_succ, List.getElem_cons_zero]
      try simp only [List.setIfInBounds_toArray]
      try simp only [List.set_cons_succ]
      try simp only [List.set_cons_zero]
      refine wpAnyH_done (by kernel_rfl) ?_ _
      refine NoPanic.normal ?_
      go_wp2_with fail
      exact bodyPost_ret (retCh Try.results7 (HO2.out.row _) rfl rfl) rfl ⟨rfl, HO2.out.keep _⟩
end Go.Proofs.Ytpkammjbafijaaa
