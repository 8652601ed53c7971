/-
  How far two colours are: the code's closure over a colour, Far; the reference's Far.
-/
import Derived.Test.YtfbfidlgfdnneaaDoorColorPartsR
namespace Go.Proofs.YtfbfidlgfdnneaaDoor
open Go.RowKit

theorem levelS_le {k : Int} (h0 : 0 ≤ k) (h1 : k ≤ 5) : 0 ≤ levelS k ∧ levelS k ≤ 255 := by unfold levelS; split <;> omega
theorem sixS_le : ∀ k : Fin 16, (0 ≤ (sixS.getD k.val (0, 0, 0)).1 ∧ (sixS.getD k.val (0, 0, 0)).1 ≤ 255) ∧ (0 ≤ (sixS.getD k.val (0, 0, 0)).2.1 ∧ (sixS.getD k.val (0, 0, 0)).2.1 ≤ 255) ∧ (0 ≤ (sixS.getD k.val (0, 0, 0)).2.2 ∧ (sixS.getD k.val (0, 0, 0)).2.2 ≤ 255) := by decide +kernel
/-- Each part is from 0 to 255. -/
theorem pT_le (c : Int) : (0 ≤ (pT c).1 ∧ (pT c).1 ≤ 255) ∧ (0 ≤ (pT c).2.1 ∧ (pT c).2.1 ≤ 255) ∧ (0 ≤ (pT c).2.2 ∧ (pT c).2.2 ≤ 255) := by
  by_cases h3 : threeS c
  · rw [(parts_three h3).1]
    unfold threeS at h3
    simp only
    omega
  by_cases h1 : c < 1 ∨ 256 < c
  · rw [(parts_no h1 h3).1]; simp
  by_cases h4 : c < 17
  · rw [(parts_six2 (c := c) (k := (c - 1).toNat) (by omega) rfl (by omega)).1]
    exact sixS_le ⟨(c - 1).toNat, by omega⟩
  by_cases h5 : c < 233
  · rw [(parts_cube (by omega) h5).1]
    exact ⟨levelS_le (by omega) (by omega), levelS_le (by omega) (by omega), levelS_le (by omega) (by omega)⟩
  · rw [(parts_grey (c := c) (by omega) (by omega)).1]
    simp only
    omega
theorem sq_le {a b : Int} (ha : 0 ≤ a ∧ a ≤ 255) (hb : 0 ≤ b ∧ b ≤ 255) : 0 ≤ (a - b) * (a - b) ∧ (a - b) * (a - b) ≤ 65025 := by
  have h0 : -255 ≤ a - b := by omega
  have h1 : a - b ≤ 255 := by omega
  generalize a - b = n at h0 h1
  rcases Int.le_total 0 n with h | h
  · exact ⟨Int.mul_nonneg h h, by have := Int.mul_le_mul h1 h1 h (by omega); omega⟩
  · have e : n * n = (-n) * (-n) := by rw [Int.neg_mul_neg]
    rw [e]
    exact ⟨Int.mul_nonneg (by omega) (by omega), by have := Int.mul_le_mul (show -n ≤ 255 by omega) (show -n ≤ 255 by omega) (by omega) (by omega); omega⟩
theorem farS_le (x y : Int) : -1 ≤ farS x y ∧ farS x y ≤ 195075 := by
  rw [farS_eq]
  split
  · obtain ⟨a1, a2, a3⟩ := pT_le x
    obtain ⟨b1, b2, b3⟩ := pT_le y
    have := sq_le a1 b1
    have := sq_le a2 b2
    have := sq_le a3 b3
    unfold sqS
    omega
  · omega

/-- What a closure over a colour holds: whether there are parts, and these. -/
structure Cap (w : World) (o r g b : Nat) (c : Int) : Prop where
  o : w.cell? ⟨o, 0, none⟩ = some (.bool (hasS c))
  r : w.cell? ⟨r, 0, none⟩ = some (.int .i64 (pT c).1)
  g : w.cell? ⟨g, 0, none⟩ = some (.int .i64 (pT c).2.1)
  b : w.cell? ⟨b, 0, none⟩ = some (.int .i64 (pT c).2.2)
theorem Cap.below {w w' : World} {o r g b : Nat} {c : Int} (h : Cap w o r g b c) (hb : Below w.heap.size w w') : Cap w' o r g b c :=
  ⟨(hb.cell (block_lt_of_cell h.o)).trans h.o, (hb.cell (block_lt_of_cell h.r)).trans h.r, (hb.cell (block_lt_of_cell h.g)).trans h.g, (hb.cell (block_lt_of_cell h.b)).trans h.b⟩
set_option maxHeartbeats 1600000 in
set_option maxRecDepth 100000 in
theorem clo_any {c d : Int} {w : World} {o r g b : Nat} (hT : CTabs w) (hC : Cap w o r g b c) (h0 : 0 ≤ d) :
    Calls Tryd.prog 27 #[.int .u32 d, .pointer (some ⟨o, 0, none⟩), .pointer (some ⟨r, 0, none⟩), .pointer (some ⟨g, 0, none⟩), .pointer (some ⟨b, 0, none⟩)] w fun e w' => e = .returned (.int .i64 (farS c d)) ∧ Below w.heap.size w w' := by
  obtain ⟨F, hF⟩ : ∃ F, farS c d = F := ⟨_, rfl⟩
  have HF := Lib.hid hF
  rw [hF]
  clear hF
  go_enter Tryd.func27, Tryd.ntmps27
  go_wp2_with fail
  refine (parts_any hT h0).mono ?_
  rintro e w1 ⟨rfl, hb⟩
  have HB := Lib.hid hb
  have hC1 := hC.below hb
  clear hT hC hb
  have HL := Lib.hid (And.intro (pT_le c) (pT_le d))
  have HE := farS_eq c d
  rw [HF.out] at HE
  have HQ := Lib.hid HE
  clear HE
  obtain ⟨co, cr, cg, cb⟩ := hC1
  generalize pT c = p at HL HQ cr cg cb
  generalize pT d = q at HL HQ ⊢
  obtain ⟨p1, p2, p3⟩ := p
  obtain ⟨q1, q2, q3⟩ := q
  generalize hasS c = hc at HQ co
  generalize hasS d = hd at HQ ⊢
  clear HF
  cases hc
  · obtain rfl : F = -1 := by rw [HQ.out]; simp
    go_wp2_with fail
    go_ret
    exact ⟨rfl, HB.out⟩
  · cases hd
    · obtain rfl : F = -1 := by rw [HQ.out]; simp
      go_wp2_with fail
      go_ret
      exact ⟨rfl, HB.out⟩
    · have hFq : F = (p1 - q1) * (p1 - q1) + (p2 - q2) * (p2 - q2) + (p3 - q3) * (p3 - q3) := by rw [HQ.out]; simp [sqS]
      have s1 := sq_le HL.out.1.1 HL.out.2.1
      have s2 := sq_le HL.out.1.2.1 HL.out.2.2.1
      have s3 := sq_le HL.out.1.2.2 HL.out.2.2.2
      simp only at s1 s2 s3
      have hw1 : IntKind.i64.wrap (p1 - q1) = p1 - q1 := by have := HL.out; rw [IntKind.wrap_i64]; simp only at this; omega
      have hw2 : IntKind.i64.wrap (p2 - q2) = p2 - q2 := by have := HL.out; rw [IntKind.wrap_i64]; simp only at this; omega
      have hw3 : IntKind.i64.wrap (p3 - q3) = p3 - q3 := by have := HL.out; rw [IntKind.wrap_i64]; simp only at this; omega
      have P1 := Lib.hid (show ∀ w', Calls Tryd.prog 28 #[.int .i64 (p1 - q1)] w' fun e w'' => e = .returned (.int .i64 ((p1 - q1) * (p1 - q1))) ∧ w'' = w' from fun w' => (square_any (by have := HL.out; simp only at this; omega) (by have := HL.out; simp only at this; omega) w').mono fun _ _ h => ⟨h.1, h.2.symm⟩)
      have P2 := Lib.hid (show ∀ w', Calls Tryd.prog 28 #[.int .i64 (p2 - q2)] w' fun e w'' => e = .returned (.int .i64 ((p2 - q2) * (p2 - q2))) ∧ w'' = w' from fun w' => (square_any (by have := HL.out; simp only at this; omega) (by have := HL.out; simp only at this; omega) w').mono fun _ _ h => ⟨h.1, h.2.symm⟩)
      have P3 := Lib.hid (show ∀ w', Calls Tryd.prog 28 #[.int .i64 (p3 - q3)] w' fun e w'' => e = .returned (.int .i64 ((p3 - q3) * (p3 - q3))) ∧ w'' = w' from fun w' => (square_any (by have := HL.out; simp only at this; omega) (by have := HL.out; simp only at this; omega) w').mono fun _ _ h => ⟨h.1, h.2.symm⟩)
      generalize (p1 - q1) * (p1 - q1) = m1 at s1 hFq P1
      generalize (p2 - q2) * (p2 - q2) = m2 at s2 hFq P2
      generalize (p3 - q3) * (p3 - q3) = m3 at s3 hFq P3
      have hw4 : IntKind.i64.wrap (m1 + m2) = m1 + m2 := by rw [IntKind.wrap_i64]; omega
      have hw5 : IntKind.i64.wrap (m1 + m2 + m3) = m1 + m2 + m3 := by rw [IntKind.wrap_i64]; omega
      have HFq := Lib.hid hFq
      clear hFq s1 s2 s3
      go_wp2_with fail
      go_quiet ((first | (go_at_call 28; with_reducible exact Calls.quiet_of_same (P1.out _)) | (go_at_call 28; with_reducible exact Calls.quiet_of_same (P2.out _)) | (go_at_call 28; with_reducible exact Calls.quiet_of_same (P3.out _))))
      go_wp2_with fail
      go_ret
      rw [HFq.out]
      exact ⟨rfl, belowNc HB.out _⟩
theorem four_cells (w : World) (r g b o : Value) (t1 t2 t3 t4 : TypeId) : let W := (((w.alloc (.cells #[r] t1)).alloc (.cells #[g] t2)).alloc (.cells #[b] t3)).alloc (.cells #[o] t4)
    W.cell? ⟨w.heap.size, 0, none⟩ = some r ∧ W.cell? ⟨w.heap.size + 1, 0, none⟩ = some g ∧ W.cell? ⟨w.heap.size + 1 + 1, 0, none⟩ = some b ∧ W.cell? ⟨w.heap.size + 1 + 1 + 1, 0, none⟩ = some o := by
  intro W
  have s1 : (w.alloc (.cells #[r] t1)).heap.size = w.heap.size + 1 := by simp
  have s2 : ((w.alloc (.cells #[r] t1)).alloc (.cells #[g] t2)).heap.size = w.heap.size + 1 + 1 := by simp
  have s3 : (((w.alloc (.cells #[r] t1)).alloc (.cells #[g] t2)).alloc (.cells #[b] t3)).heap.size = w.heap.size + 1 + 1 + 1 := by simp
  have h4 : W.heap[w.heap.size + 1 + 1 + 1]? = some (.cells #[o] t4 (0, 0)) := by rw [← s3]; exact heap_alloc_new _ _
  have h3 : W.heap[w.heap.size + 1 + 1]? = some (.cells #[b] t3 (0, 0)) := by rw [heap_alloc_old _ _ (by rw [s3]; omega), ← s2]; exact heap_alloc_new _ _
  have h2 : W.heap[w.heap.size + 1]? = some (.cells #[g] t2 (0, 0)) := by rw [heap_alloc_old _ _ (by rw [s3]; omega), heap_alloc_old _ _ (by rw [s2]; omega), ← s1]; exact heap_alloc_new _ _
  have h1 : W.heap[w.heap.size]? = some (.cells #[r] t1 (0, 0)) := by rw [heap_alloc_old _ _ (by rw [s3]; omega), heap_alloc_old _ _ (by rw [s2]; omega), heap_alloc_old _ _ (by rw [s1]; omega)]; exact heap_alloc_new _ _
  exact ⟨cell_of_row _ _ 0 _ _ _ h1, cell_of_row _ _ 0 _ _ _ h2, cell_of_row _ _ 0 _ _ _ h3, cell_of_row _ _ 0 _ _ _ h4⟩
/-- farFrom's answer: a closure over new variables. -/
def FarFn (c : Int) (w : World) (e : Ending) (w' : World) : Prop :=
  ∃ o r g b, e = .returned (.func (.func 27) #[] #[.pointer (some ⟨o, 0, none⟩), .pointer (some ⟨r, 0, none⟩), .pointer (some ⟨g, 0, none⟩), .pointer (some ⟨b, 0, none⟩)]) ∧ Cap w' o r g b c ∧ CTabs w' ∧ Below w.heap.size w w'
set_option maxRecDepth 100000 in
theorem farFrom_any {c : Int} {w : World} (hT : CTabs w) (h0 : 0 ≤ c) : Calls Tryd.prog 23 #[.int .u32 c] w fun e w' => FarFn c w e w' := by
  unfold FarFn
  have hmf : ∀ (fn : Fn) (first cap : Array Value) (w : World), (Instr.makeFunc fn first cap).run Tryd.prog w = .ok (.func fn first cap) w := fun _ _ _ _ => rfl
  go_enter Tryd.func23, Tryd.ntmps23
  go_wp2_with fail
  refine (parts_any hT h0).mono ?_
  rintro e w1 ⟨rfl, hb⟩
  have HB := Lib.hid hb
  have HT := Lib.hid (hT.below hb (Nat.le_refl _))
  clear hT hb
  go_wp2_with fail
  have HC := Lib.hid (four_cells w1 (.int .i64 (pT c).1) (.int .i64 (pT c).2.1) (.int .i64 (pT c).2.2) (.bool (hasS c)) 3 3 3 4)
  have hb4 := ((((Below.refl w1.heap.size w1).alloc (Nat.le_refl _) (.cells #[.int .i64 (pT c).1] 3)).alloc (by simp) (.cells #[.int .i64 (pT c).2.1] 3)).alloc (by simp; omega) (.cells #[.int .i64 (pT c).2.2] 3)).alloc (by simp; omega) (.cells #[.bool (hasS c)] 4)
  have HB4 := Lib.hid hb4
  clear hb4
  refine bodyPost_ret (v := .func (.func 27) #[] #[.pointer (some ⟨w1.heap.size + 1 + 1 + 1, 0, none⟩), .pointer (some ⟨w1.heap.size, 0, none⟩), .pointer (some ⟨w1.heap.size + 1, 0, none⟩), .pointer (some ⟨w1.heap.size + 1 + 1, 0, none⟩)]) (by simp [results, Tryd.results23, go_sem]) rfl ?_
  exact ⟨_, _, _, _, rfl, ⟨HC.out.2.2.2, HC.out.1, HC.out.2.1, HC.out.2.2.1⟩, HT.out.below HB4.out (Nat.le_refl _), HB.out.trans (HB4.out.mono HB.out.size)⟩
theorem far_any {c d : Int} {w : World} (hT : CTabs w) (h0 : 0 ≤ c) (h1 : 0 ≤ d) : Calls Tryd.prog 11 #[.int .u32 c, .int .u32 d] w fun e w' => e = .returned (.int .i64 (farS c d)) ∧ Below w.heap.size w w' := by
  go_enter Tryd.func11, Tryd.ntmps11
  go_wp2_with fail
  refine (farFrom_any hT h0).mono ?_
  rintro e w1 ⟨o, r, g, b, rfl, hC, hT1, hb⟩
  have HB := Lib.hid hb
  have H1 := Lib.hid (And.intro hC hT1)
  clear hC hT1 hb hT
  go_wp2_with fail
  refine (clo_any H1.out.2 H1.out.1 h1).mono ?_
  rintro e w2 ⟨rfl, hb2⟩
  have HB2 := Lib.hid (HB.out.trans (hb2.mono HB.out.size))
  clear hb2
  go_wp2_with fail
  go_ret
  exact ⟨rfl, HB2.out⟩
end Go.Proofs.YtfbfidlgfdnneaaDoor
