/-
  Part 16 of what the laws of emul want: ColorFar, ColorNear, ColorNearR, ColorFit, ProjSmall.
-/
import Derived.Deep.QuietTactic
import Derived.Test.YtojchkhnalnncaaDoorPj07
import Derived.Test.YtojchkhnalnncaaDoorPj14
import Derived.Test.YtojchkhnalnncaaDoorPj15
namespace Go.Proofs.YtojchkhnalnncaaDoor
open Go.RowKit
theorem levelS_le {k : Int} (h0 : 0 ≤ k) (h1 : k ≤ 5) : 0 ≤ levelS k ∧ levelS k ≤ 255 := by unfold levelS; split <;> omega
theorem sixS_le : ∀ k : Fin 16, (0 ≤ (sixS.getD k.val (0, 0, 0)).1 ∧ (sixS.getD k.val (0, 0, 0)).1 ≤ 255) ∧ (0 ≤ (sixS.getD k.val (0, 0, 0)).2.1 ∧ (sixS.getD k.val (0, 0, 0)).2.1 ≤ 255) ∧ (0 ≤ (sixS.getD k.val (0, 0, 0)).2.2 ∧ (sixS.getD k.val (0, 0, 0)).2.2 ≤ 255) := by decide +kernel
theorem pT_le (c : Int) : (0 ≤ (pT c).1 ∧ (pT c).1 ≤ 255) ∧ (0 ≤ (pT c).2.1 ∧ (pT c).2.1 ≤ 255) ∧ (0 ≤ (pT c).2.2 ∧ (pT c).2.2 ≤ 255) := by
 by_cases h3 : threeS c
 · rw [(parts_three h3).1]
   unfold threeS at h3
   simp only
   omega
 by_cases h1 : c < 1 ∨ 256 < c
 · rw [(parts_no h1 h3).1]; simp
 by_cases h4 : c < 17
 · rw [(parts_six2 (c := c) (k := (c - 1).toNat) (by omega) rfl (by omega)).1]
   exact sixS_le ⟨(c - 1).toNat, by omega⟩
 by_cases h5 : c < 233
 · rw [(parts_cube (by omega) h5).1]
   exact ⟨levelS_le (by omega) (by omega), levelS_le (by omega) (by omega), levelS_le (by omega) (by omega)⟩
 · rw [(parts_grey (c := c) (by omega) (by omega)).1]
   simp only
   omega
theorem sq_le {a b : Int} (ha : 0 ≤ a ∧ a ≤ 255) (hb : 0 ≤ b ∧ b ≤ 255) : 0 ≤ (a - b) * (a - b) ∧ (a - b) * (a - b) ≤ 65025 := by
 have h0 : -255 ≤ a - b := by omega
 have h1 : a - b ≤ 255 := by omega
 generalize a - b = n at h0 h1
 rcases Int.le_total 0 n with h | h
 · exact ⟨Int.mul_nonneg h h, by have := Int.mul_le_mul h1 h1 h (by omega); omega⟩
 · have e : n * n = (-n) * (-n) := by rw [Int.neg_mul_neg]
   rw [e]
   exact ⟨Int.mul_nonneg (by omega) (by omega), by have := Int.mul_le_mul (show -n ≤ 255 by omega) (show -n ≤ 255 by omega) (by omega) (by omega); omega⟩
structure Cap (w : World) (o r g b : Nat) (c : Int) : Prop where
 o : w.cell? ⟨o, 0, none⟩ = some (.bool (hasS c))
 r : w.cell? ⟨r, 0, none⟩ = some (.int .i64 (pT c).1)
 g : w.cell? ⟨g, 0, none⟩ = some (.int .i64 (pT c).2.1)
 b : w.cell? ⟨b, 0, none⟩ = some (.int .i64 (pT c).2.2)
theorem Cap.below {w w' : World} {o r g b : Nat} {c : Int} (h : Cap w o r g b c) (hb : Below w.heap.size w w') : Cap w' o r g b c :=
 ⟨(hb.cell (block_lt_of_cell h.o)).trans h.o, (hb.cell (block_lt_of_cell h.r)).trans h.r, (hb.cell (block_lt_of_cell h.g)).trans h.g, (hb.cell (block_lt_of_cell h.b)).trans h.b⟩
set_option maxHeartbeats 1600000 in
set_option maxRecDepth 100000 in
theorem clo_any {c d : Int} {w : World} {o r g b : Nat} (hT : CTabs w) (hC : Cap w o r g b c) (h0 : 0 ≤ d) :
  Calls Tryd.prog 100 #[.int .u32 d, .pointer (some ⟨o, 0, none⟩), .pointer (some ⟨r, 0, none⟩), .pointer (some ⟨g, 0, none⟩), .pointer (some ⟨b, 0, none⟩)] w fun e w' => e = .returned (.int .i64 (farS c d)) ∧ Below w.heap.size w w' := by
 obtain ⟨F, hF⟩ : ∃ F, farS c d = F := ⟨_, rfl⟩
 have HF := Lib.hid hF
 rw [hF]
 clear hF
 go_enter Tryd.func100, Tryd.ntmps100
 go_wp2_with fail
 refine (parts_any hT h0).mono ?_
 rintro e w1 ⟨rfl, hb⟩
 have HB := Lib.hid hb
 have hC1 := hC.below hb
 clear hT hC hb
 have HL := Lib.hid (And.intro (pT_le c) (pT_le d))
 have HE := farS_eq c d
 rw [HF.out] at HE
 have HQ := Lib.hid HE
 clear HE
 obtain ⟨co, cr, cg, cb⟩ := hC1
 generalize pT c = p at HL HQ cr cg cb
 generalize pT d = q at HL HQ ⊢
 obtain ⟨p1, p2, p3⟩ := p
 obtain ⟨q1, q2, q3⟩ := q
 generalize hasS c = hc at HQ co
 generalize hasS d = hd at HQ ⊢
 clear HF
 cases hc
 · obtain rfl : F = -1 := by rw [HQ.out]; simp
   go_wp2_with fail
   go_ret
   exact ⟨rfl, HB.out⟩
 · cases hd
   · obtain rfl : F = -1 := by rw [HQ.out]; simp
     go_wp2_with fail
     go_ret
     exact ⟨rfl, HB.out⟩
   · have hFq : F = (p1 - q1) * (p1 - q1) + (p2 - q2) * (p2 - q2) + (p3 - q3) * (p3 - q3) := by rw [HQ.out]; simp [sqS]
     have s1 := sq_le HL.out.1.1 HL.out.2.1
     have s2 := sq_le HL.out.1.2.1 HL.out.2.2.1
     have s3 := sq_le HL.out.1.2.2 HL.out.2.2.2
     simp only at s1 s2 s3
     have hw1 : IntKind.i64.wrap (p1 - q1) = p1 - q1 := by have := HL.out; rw [IntKind.wrap_i64]; simp only at this; omega
     have hw2 : IntKind.i64.wrap (p2 - q2) = p2 - q2 := by have := HL.out; rw [IntKind.wrap_i64]; simp only at this; omega
     have hw3 : IntKind.i64.wrap (p3 - q3) = p3 - q3 := by have := HL.out; rw [IntKind.wrap_i64]; simp only at this; omega
     have P1 := Lib.hid (show ∀ w', Calls Tryd.prog 101 #[.int .i64 (p1 - q1)] w' fun e w'' => e = .returned (.int .i64 ((p1 - q1) * (p1 - q1))) ∧ w'' = w' from fun w' => (square_any (by have := HL.out; simp only at this; omega) (by have := HL.out; simp only at this; omega) w').mono fun _ _ h => ⟨h.1, h.2.symm⟩)
     have P2 := Lib.hid (show ∀ w', Calls Tryd.prog 101 #[.int .i64 (p2 - q2)] w' fun e w'' => e = .returned (.int .i64 ((p2 - q2) * (p2 - q2))) ∧ w'' = w' from fun w' => (square_any (by have := HL.out; simp only at this; omega) (by have := HL.out; simp only at this; omega) w').mono fun _ _ h => ⟨h.1, h.2.symm⟩)
     have P3 := Lib.hid (show ∀ w', Calls Tryd.prog 101 #[.int .i64 (p3 - q3)] w' fun e w'' => e = .returned (.int .i64 ((p3 - q3) * (p3 - q3))) ∧ w'' = w' from fun w' => (square_any (by have := HL.out; simp only at this; omega) (by have := HL.out; simp only at this; omega) w').mono fun _ _ h => ⟨h.1, h.2.symm⟩)
     generalize (p1 - q1) * (p1 - q1) = m1 at s1 hFq P1
     generalize (p2 - q2) * (p2 - q2) = m2 at s2 hFq P2
     generalize (p3 - q3) * (p3 - q3) = m3 at s3 hFq P3
     have hw4 : IntKind.i64.wrap (m1 + m2) = m1 + m2 := by rw [IntKind.wrap_i64]; omega
     have hw5 : IntKind.i64.wrap (m1 + m2 + m3) = m1 + m2 + m3 := by rw [IntKind.wrap_i64]; omega
     have HFq := Lib.hid hFq
     clear hFq s1 s2 s3
     go_wp2_with fail
     go_quiet ((first | (go_at_call 101; with_reducible exact Calls.quiet_of_same (P1.out _)) | (go_at_call 101; with_reducible exact Calls.quiet_of_same (P2.out _)) | (go_at_call 101; with_reducible exact Calls.quiet_of_same (P3.out _))))
     go_wp2_with fail
     go_ret
     rw [HFq.out]
     exact ⟨rfl, belowNc HB.out _⟩
theorem four_cells (w : World) (r g b o : Value) (t1 t2 t3 t4 : TypeId) : let W := (((w.alloc (.cells #[r] t1)).alloc (.cells #[g] t2)).alloc (.cells #[b] t3)).alloc (.cells #[o] t4)
  W.cell? ⟨w.heap.size, 0, none⟩ = some r ∧ W.cell? ⟨w.heap.size + 1, 0, none⟩ = some g ∧ W.cell? ⟨w.heap.size + 1 + 1, 0, none⟩ = some b ∧ W.cell? ⟨w.heap.size + 1 + 1 + 1, 0, none⟩ = some o := by
 intro W
 have s1 : (w.alloc (.cells #[r] t1)).heap.size = w.heap.size + 1 := by simp
 have s2 : ((w.alloc (.cells #[r] t1)).alloc (.cells #[g] t2)).heap.size = w.heap.size + 1 + 1 := by simp
 have s3 : (((w.alloc (.cells #[r] t1)).alloc (.cells #[g] t2)).alloc (.cells #[b] t3)).heap.size = w.heap.size + 1 + 1 + 1 := by simp
 have h4 : W.heap[w.heap.size + 1 + 1 + 1]? = some (.cells #[o] t4 (0, 0)) := by rw [← s3]; exact heap_alloc_new _ _
 have h3 : W.heap[w.heap.size + 1 + 1]? = some (.cells #[b] t3 (0, 0)) := by rw [heap_alloc_old _ _ (by rw [s3]; omega), ← s2]; exact heap_alloc_new _ _
 have h2 : W.heap[w.heap.size + 1]? = some (.cells #[g] t2 (0, 0)) := by rw [heap_alloc_old _ _ (by rw [s3]; omega), heap_alloc_old _ _ (by rw [s2]; omega), ← s1]; exact heap_alloc_new _ _
 have h1 : W.heap[w.heap.size]? = some (.cells #[r] t1 (0, 0)) := by rw [heap_alloc_old _ _ (by rw [s3]; omega), heap_alloc_old _ _ (by rw [s2]; omega), heap_alloc_old _ _ (by rw [s1]; omega)]; exact heap_alloc_new _ _
 exact ⟨cell_of_row _ _ 0 _ _ _ h1, cell_of_row _ _ 0 _ _ _ h2, cell_of_row _ _ 0 _ _ _ h3, cell_of_row _ _ 0 _ _ _ h4⟩
def FarFn (c : Int) (w : World) (e : Ending) (w' : World) : Prop :=
 ∃ o r g b, e = .returned (.func (.func 100) #[] #[.pointer (some ⟨o, 0, none⟩), .pointer (some ⟨r, 0, none⟩), .pointer (some ⟨g, 0, none⟩), .pointer (some ⟨b, 0, none⟩)]) ∧ Cap w' o r g b c ∧ CTabs w' ∧ Below w.heap.size w w'
set_option maxRecDepth 100000 in
theorem farFrom_any {c : Int} {w : World} (hT : CTabs w) (h0 : 0 ≤ c) : Calls Tryd.prog 97 #[.int .u32 c] w fun e w' => FarFn c w e w' := by
 unfold FarFn
 have hmf : ∀ (fn : Fn) (first cap : Array Value) (w : World), (Instr.makeFunc fn first cap).run Tryd.prog w = .ok (.func fn first cap) w := fun _ _ _ _ => rfl
 go_enter Tryd.func97, Tryd.ntmps97
 go_wp2_with fail
 refine (parts_any hT h0).mono ?_
 rintro e w1 ⟨rfl, hb⟩
 have HB := Lib.hid hb
 have HT := Lib.hid (hT.below hb (Nat.le_refl _))
 clear hT hb
 go_wp2_with fail
 have HC := Lib.hid (four_cells w1 (.int .i64 (pT c).1) (.int .i64 (pT c).2.1) (.int .i64 (pT c).2.2) (.bool (hasS c)) 3 3 3 4)
 have hb4 := ((((Below.refl w1.heap.size w1).alloc (Nat.le_refl _) (.cells #[.int .i64 (pT c).1] 3)).alloc (by simp) (.cells #[.int .i64 (pT c).2.1] 3)).alloc (by simp; omega) (.cells #[.int .i64 (pT c).2.2] 3)).alloc (by simp; omega) (.cells #[.bool (hasS c)] 4)
 have HB4 := Lib.hid hb4
 clear hb4
 refine bodyPost_ret (v := .func (.func 100) #[] #[.pointer (some ⟨w1.heap.size + 1 + 1 + 1, 0, none⟩), .pointer (some ⟨w1.heap.size, 0, none⟩), .pointer (some ⟨w1.heap.size + 1, 0, none⟩), .pointer (some ⟨w1.heap.size + 1 + 1, 0, none⟩)]) (by simp [results, Tryd.results97, go_sem]) rfl ?_
 exact ⟨_, _, _, _, rfl, ⟨HC.out.2.2.2, HC.out.1, HC.out.2.1, HC.out.2.2.1⟩, HT.out.below HB4.out (Nat.le_refl _), HB.out.trans (HB4.out.mono HB.out.size)⟩
open Go.RowKit
theorem nearN_step (c a : Int) (k : Nat) (h : 0 < k) : nearN c a k = if farS c (a + (k : Int)) < farS c (nearN c a (k - 1)) then a + (k : Int) else nearN c a (k - 1) := by
 obtain ⟨m, rfl⟩ : ∃ m, k = m + 1 := ⟨k - 1, by omega⟩
 rfl
theorem nearN_next (c a : Int) (k : Nat) : nearN c a (k + 1 - 1) = if farS c (a + (k : Int)) < farS c (nearN c a (k - 1)) then a + (k : Int) else nearN c a (k - 1) := by
 by_cases h : 0 < k
 · exact nearN_step c a k h
 · obtain rfl : k = 0 := by omega
   show a = _
   rw [if_neg]
   · rfl
   · show ¬ farS c (a + ((0 : Nat) : Int)) < farS c a
     simp
set_option maxHeartbeats 800000 in
set_option maxRecDepth 100000 in
theorem nearest_any {c a b : Int} {N : Nat} {w : World} (hT : CTabs w) (h0 : 0 ≤ c) (ha : 1 ≤ a) (hN : b = a + (N : Int)) (hb256 : b ≤ 256) :
  Calls Tryd.prog 92 #[.int .u32 c, .int .u32 a, .int .u32 b] w fun e w' => e = .returned (.int .u32 (nearN c a N)) ∧ Below w.heap.size w w' := by
 have hw1 : IntKind.u32.wrap (b - a) = (N : Int) := by rw [IntKind.wrap_u32]; omega
 have hw2 : IntKind.u32.wrap ((N : Int) + 1) = (N : Int) + 1 := by rw [IntKind.wrap_u32]; omega
 have HN := Lib.hid (And.intro hN hb256)
 clear hN hb256
 go_enter Tryd.func92, Tryd.ntmps92
 go_wp2_with fail
 refine (farFrom_any hT h0).mono ?_
 rintro e w1 ⟨o, r, g, bb, rfl, hC, hT1, hb⟩
 have HB := Lib.hid hb
 have H1 := Lib.hid (And.intro hC hT1)
 clear hC hT1 hb hT
 go_wp2_with fail
 refine (clo_any H1.out.2 H1.out.1 (by omega)).mono ?_
 rintro e w2 ⟨rfl, hb2⟩
 have H2 := Lib.hid (show Cap w2 o r g bb c ∧ CTabs w2 ∧ Below w.heap.size w w2 from ⟨H1.out.1.below hb2, H1.out.2.below hb2 (Nat.le_refl _), HB.out.trans (hb2.mono HB.out.size)⟩)
 clear hb2 HB H1
 go_wp2_with fail
 go_loopw [8, 9, 22] (fun s8 s9 i wr => ∃ k : Nat, k ≤ N + 1 ∧ i = .int .u32 k ∧ s8 = .int .u32 (nearN c a (k - 1)) ∧ s9 = .int .i64 (farS c (nearN c a (k - 1))) ∧ Cap wr o r g bb c ∧ CTabs wr ∧ Below w.heap.size w wr) (fun _ _ i _ => N + 1 - (intOf i).toNat)
 case atStart => exact ⟨0, Nat.zero_le _, rfl, rfl, rfl, H2.out.1, H2.out.2.1, H2.out.2.2⟩
 case round =>
  obtain ⟨k, hk, rfl, rfl, rfl, hC, hT, hB⟩ := hrel
  have X := Lib.hid (show Cap wr o r g bb c ∧ CTabs wr ∧ Below w.heap.size w wr from ⟨hC, hT, hB⟩)
  clear hC hT hB
  by_cases hlt : k < N + 1
  · have hkl : (k : Int) < (N : Int) + 1 := by omega
    have hw3 : IntKind.u32.wrap (a + (k : Int)) = a + (k : Int) := by have := HN.out; rw [IntKind.wrap_u32]; omega
    have hw4 : IntKind.u32.wrap ((k : Int) + 1) = (k : Int) + 1 := by have := HN.out; rw [IntKind.wrap_u32]; omega
    have HX := Lib.hid (nearN_next c a k)
    obtain ⟨M, hM⟩ : ∃ M, nearN c a (k - 1) = M := ⟨_, rfl⟩
    obtain ⟨F, hF⟩ : ∃ F, farS c (a + (k : Int)) = F := ⟨_, rfl⟩
    have HF := Lib.hid (And.intro hM hF)
    rw [hM]
    clear hM
    go_wp2_with fail
    refine (clo_any X.out.2.1 X.out.1 (by omega)).mono ?_
    rintro e w3 ⟨rfl, hb3⟩
    rw [hF]
    clear hF
    have Y := Lib.hid (show Cap w3 o r g bb c ∧ CTabs w3 ∧ Below w.heap.size w w3 from ⟨X.out.1.below hb3, X.out.2.1.below hb3 (Nat.le_refl _), X.out.2.2.trans (hb3.mono X.out.2.2.size)⟩)
    clear hb3 X
    by_cases hl : F < farS c M
    · have E := Lib.hid (show nearN c a (k + 1 - 1) = a + (k : Int) ∧ farS c (nearN c a (k + 1 - 1)) = F from by
       have h := HX.out
       rw [HF.out.1, HF.out.2, if_pos hl] at h
       exact ⟨h, by rw [h]; exact HF.out.2⟩)
      clear HX HF
      go_wp2_with fail
      go_roundw
      case rel => exact ⟨k + 1, by omega, by go_num, by rw [E.out.1], by rw [E.out.2], Y.out⟩
      case measure => simp [intOf]; omega
    · have E := Lib.hid (show nearN c a (k + 1 - 1) = M from by
       have h := HX.out
       rw [HF.out.1, HF.out.2, if_neg hl] at h
       exact h)
      clear HX HF
      go_wp2_with fail
      go_roundw
      case rel => exact ⟨k + 1, by omega, by go_num, by rw [E.out], by rw [E.out], Y.out⟩
      case measure => simp [intOf]; omega
  · obtain rfl : k = N + 1 := by omega
    go_wp2_with fail
    go_ret
    exact ⟨rfl, X.out.2.2⟩
open Go.RowKit
def tAt (p : Int × Int × Int) (j : Nat) : Int := if j = 0 then p.1 else if j = 1 then p.2.1 else p.2.2
def sqUp (p q : Int × Int × Int) : Nat → Int
 | 0 => 0
 | j + 1 => sqUp p q j + (tAt p j - tAt q j) * (tAt p j - tAt q j)
theorem sqUp3 (p q : Int × Int × Int) : sqUp p q 3 = sqS p q := by
 simp only [sqUp, sqS, tAt]
 simp
theorem tAt_le (c : Int) (j : Nat) : 0 ≤ tAt (pT c) j ∧ tAt (pT c) j ≤ 255 := by
 obtain ⟨h1, h2, h3⟩ := pT_le c
 unfold tAt
 split
 · exact h1
 split
 · exact h2
 · exact h3
theorem sqUp_le (c d : Int) : ∀ j : Nat, 0 ≤ sqUp (pT c) (pT d) j ∧ sqUp (pT c) (pT d) j ≤ j * 65025
 | 0 => by simp [sqUp]
 | j + 1 => by
  have h := sqUp_le c d j
  have h2 := sq_le (tAt_le c j) (tAt_le d j)
  unfold sqUp
  omega
def Three (w : World) (b : Nat) (p : Int × Int × Int) : Prop := ∀ j, j < 3 → w.cell? ⟨b, j, none⟩ = some (.int .i64 (tAt p j))
theorem Three.below {w w' : World} {b : Nat} {p : Int × Int × Int} (h : Three w b p) (hb : Below w.heap.size w w') : Three w' b p :=
 fun j hj => (hb.cell (block_lt_of_cell (h j hj))).trans (h j hj)
theorem three_new (w : World) (p : Int × Int × Int) (t : TypeId) : Three (w.alloc (.cells #[.int .i64 p.1, .int .i64 p.2.1, .int .i64 p.2.2] t)) w.heap.size p := by
 intro j hj
 rw [cell_of_row _ _ _ _ _ _ (heap_alloc_new w _)]
 have h3 : j = 0 ∨ j = 1 ∨ j = 2 := by omega
 rcases h3 with rfl | rfl | rfl <;> rfl
set_option maxHeartbeats 1600000 in
set_option maxRecDepth 100000 in
theorem rfar_any {c d : Int} {w : World} (h0 : 0 ≤ c) (h1 : 0 ≤ d) : Calls Tryd.prog 85 #[.int .u32 c, .int .u32 d] w fun e w' => e = .returned (.int .i64 (farS c d)) ∧ Below w.heap.size w w' := by
 obtain ⟨F, hF⟩ : ∃ F, farS c d = F := ⟨_, rfl⟩
 have HE := farS_eq c d
 rw [hF] at HE ⊢
 have HQ := Lib.hid HE
 clear hF HE
 go_enter Tryd.func85, Tryd.ntmps85
 go_wp2_with fail
 refine (rparts_any h0).mono ?_
 rintro e w1 ⟨rfl, hb⟩
 have HB := Lib.hid hb
 clear hb
 go_upto_region 2 with fail
 have HA := Lib.hid (show Three (w1.alloc (.cells #[.int .i64 (pT c).1, .int .i64 (pT c).2.1, .int .i64 (pT c).2.2] 137)) w1.heap.size (pT c) ∧ Below w.heap.size w (w1.alloc (.cells #[.int .i64 (pT c).1, .int .i64 (pT c).2.1, .int .i64 (pT c).2.2] 137)) from
  ⟨three_new _ _ _, HB.out.alloc HB.out.size _⟩)
 generalize hW : w1.alloc (.cells #[.int .i64 (pT c).1, .int .i64 (pT c).2.1, .int .i64 (pT c).2.2] 137) = w2 at HA ⊢
 clear hW
 generalize w1.heap.size = b1 at HA ⊢
 clear HB
 go_wp2_with fail
 refine (rparts_any h1).mono ?_
 rintro e w3 ⟨rfl, hb⟩
 have HB := Lib.hid (show Three w3 b1 (pT c) ∧ Below w.heap.size w w3 from ⟨HA.out.1.below hb, HA.out.2.trans (hb.mono HA.out.2.size)⟩)
 clear hb HA
 go_upto_region 3 with fail
 have HA := Lib.hid (show Three (w3.alloc (.cells #[.int .i64 (pT d).1, .int .i64 (pT d).2.1, .int .i64 (pT d).2.2] 137)) b1 (pT c) ∧ Three (w3.alloc (.cells #[.int .i64 (pT d).1, .int .i64 (pT d).2.1, .int .i64 (pT d).2.2] 137)) w3.heap.size (pT d) ∧ Below w.heap.size w (w3.alloc (.cells #[.int .i64 (pT d).1, .int .i64 (pT d).2.1, .int .i64 (pT d).2.2] 137)) from
  ⟨HB.out.1.below ((Below.refl _ _).alloc (Nat.le_refl _) _), three_new _ _ _, HB.out.2.alloc HB.out.2.size _⟩)
 generalize hW : w3.alloc (.cells #[.int .i64 (pT d).1, .int .i64 (pT d).2.1, .int .i64 (pT d).2.2] 137) = w4 at HA ⊢
 clear hW
 generalize w3.heap.size = b2 at HA ⊢
 clear HB
 have HL := Lib.hid (show (∀ j, (0 ≤ tAt (pT c) j ∧ tAt (pT c) j ≤ 255) ∧ (0 ≤ tAt (pT d) j ∧ tAt (pT d) j ≤ 255)) ∧ (∀ j : Nat, 0 ≤ sqUp (pT c) (pT d) j ∧ sqUp (pT c) (pT d) j ≤ j * 65025) from ⟨fun j => ⟨tAt_le c j, tAt_le d j⟩, sqUp_le c d⟩)
 generalize pT c = p at HA HL HQ ⊢
 generalize pT d = q at HA HL HQ ⊢
 generalize hasS c = hc at HQ ⊢
 generalize hasS d = hd at HQ ⊢
 obtain ⟨p1, p2, p3⟩ := p
 obtain ⟨q1, q2, q3⟩ := q
 cases hc
 · obtain rfl : F = -1 := by rw [HQ.out]; simp
   go_wp2_with fail
   go_ret
   exact ⟨rfl, HA.out.2.2⟩
 · cases hd
   · obtain rfl : F = -1 := by rw [HQ.out]; simp
     go_wp2_with fail
     go_ret
     exact ⟨rfl, HA.out.2.2⟩
   · have HF := Lib.hid (show F = sqUp (p1, p2, p3) (q1, q2, q3) 3 from by rw [HQ.out, sqUp3]; simp)
     clear HQ
     generalize hp : (p1, p2, p3) = p at HA HL HF
     generalize hq : (q1, q2, q3) = q at HA HL HF
     clear hp hq
     go_wp2_with fail
     go_loopw [9, 10] (fun s i wr => ∃ j : Nat, j ≤ 3 ∧ i = .int .i64 j ∧ s = .int .i64 (sqUp p q j) ∧ Three wr b1 p ∧ Three wr b2 q ∧ Below w.heap.size w wr) (fun _ i _ => 3 - (intOf i).toNat)
     case atStart => exact ⟨0, by omega, rfl, rfl, HA.out⟩
     case round =>
      obtain ⟨j, hj, rfl, rfl, ha, hb, hB⟩ := hrel
      have X := Lib.hid (And.intro ha (And.intro hb hB))
      clear ha hb hB
      by_cases hlt : j < 3
      · have hjl : (j : Int) < 3 := by omega
        have c1 := X.out.1 j hlt
        have c2 := X.out.2.1 j hlt
        have u1 := HL.out.1 j
        have u2 := HL.out.2 j
        have hn : sqUp p q (j + 1) = sqUp p q j + (tAt p j - tAt q j) * (tAt p j - tAt q j) := rfl
        have s1 := sq_le u1.1 u1.2
        generalize sqUp p q j = S at u2 hn ⊢
        have hw1 : IntKind.i64.wrap (tAt p j - tAt q j) = tAt p j - tAt q j := by rw [IntKind.wrap_i64]; omega
        generalize tAt p j = x at c1 u1 hn s1 hw1
        generalize tAt q j = y at c2 u1 hn s1 hw1
        obtain ⟨m, hm⟩ : ∃ m, (x - y) * (x - y) = m := ⟨_, rfl⟩
        rw [hm] at hn s1
        have hw2 : IntKind.i64.wrap ((x - y) * (x - y)) = m := by rw [hm, IntKind.wrap_i64]; omega
        have hw3 : IntKind.i64.wrap (S + m) = S + m := by rw [IntKind.wrap_i64]; omega
        have hw4 : IntKind.i64.wrap ((j : Int) + 1) = (j : Int) + 1 := by rw [IntKind.wrap_i64]; omega
        have HN := Lib.hid hn
        clear hn hm u1 u2 s1
        go_wp2_with fail
        go_quiet (fail)
        go_wp2_with fail
        go_roundw
        case rel => exact ⟨j + 1, by omega, by go_num, by rw [HN.out], fun i hi => X.out.1 i hi, fun i hi => X.out.2.1 i hi, belowNc X.out.2.2 _⟩
        case measure => simp [intOf]; omega
      · obtain rfl : j = 3 := by omega
        go_wp2_with fail
        go_ret
        rw [HF.out]
        exact ⟨rfl, X.out.2.2⟩
set_option maxHeartbeats 800000 in
set_option maxRecDepth 100000 in
theorem near_any {c a b z : Int} {N : Nat} {w : World} (h0 : 0 ≤ c) (ha : 0 ≤ z) (haz : a = z + 1) (hN : b = z + (N : Int)) (hb256 : b ≤ 255) :
  Calls Tryd.prog 65 #[.int .u32 c, .int .i64 z, .int .i64 b] w fun e w' => e = .returned (.int .u32 (nearN c a N)) ∧ Below w.heap.size w w' := by
 have HN := Lib.hid (And.intro hN (And.intro hb256 haz))
 clear hN hb256 haz
 go_enter Tryd.func65, Tryd.ntmps65
 go_wp2_with fail
 go_loopw [7, 8] (fun s v wr => ∃ (k : Nat) (i m : Int), k ≤ N + 1 ∧ v = .int .i64 i ∧ s = .int .i64 m ∧ i = z + (k : Int) ∧ m = nearN c a (k - 1) - 1 ∧ Below w.heap.size w wr) (fun _ i _ => (z + (N : Int) + 1 - intOf i).toNat)
 case atStart => exact ⟨0, z, z, Nat.zero_le _, rfl, rfl, by simp, by show z = a - 1; rw [HN.out.2.2]; omega, Below.refl _ _⟩
 case round =>
  obtain ⟨k, i, m, hk, rfl, rfl, hi, hm, hB⟩ := hrel
  have X := Lib.hid hB
  have HI := Lib.hid (And.intro hi hm)
  clear hB
  by_cases hlt : i ≤ b
  · have hin := nearN_in c a (k - 1)
    have HX := nearN_next c a k
    have hz := HN.out
    have hkN : k ≤ N := by omega
    rw [show a + (k : Int) = i + 1 by omega, show nearN c a (k - 1) = m + 1 by omega] at HX
    have hw1 : IntKind.i64.wrap (i + 1) = i + 1 := by rw [IntKind.wrap_i64]; omega
    have hw2 : IntKind.u32.wrap (i + 1) = i + 1 := by rw [IntKind.wrap_u32]; omega
    have hw3 : IntKind.i64.wrap (m + 1) = m + 1 := by rw [IntKind.wrap_i64]; omega
    have hw4 : IntKind.u32.wrap (m + 1) = m + 1 := by rw [IntKind.wrap_u32]; omega
    have HP := Lib.hid (show 0 ≤ i + 1 ∧ 0 ≤ m + 1 ∧ i + 1 = z + ((k + 1 : Nat) : Int) ∧ k + 1 ≤ N + 1 from ⟨by omega, by omega, by omega, by omega⟩)
    have HY := Lib.hid HX
    clear HX hin hz hkN hi hm hk
    go_wp2_with fail
    refine (rfar_any h0 HP.out.1).mono ?_
    rintro e w3 ⟨rfl, hb3⟩
    have Y := Lib.hid (X.out.trans (hb3.mono X.out.size))
    clear hb3 X
    go_wp2_with fail
    refine (rfar_any h0 HP.out.2.1).mono ?_
    rintro e w4 ⟨rfl, hb4⟩
    have Z := Lib.hid (Y.out.trans (hb4.mono Y.out.size))
    clear hb4 Y
    by_cases hl : farS c (i + 1) < farS c (m + 1)
    · have HE := Lib.hid (HY.out.trans (if_pos hl))
      clear HY HI
      go_wp2_with fail
      go_roundw
      case rel => exact ⟨k + 1, i + 1, i, HP.out.2.2.2, by go_num, by go_num, HP.out.2.2.1, by rw [HE.out]; omega, Z.out⟩
      case measure => simp [intOf]; have := HN.out; omega
    · have HE := Lib.hid (HY.out.trans (if_neg hl))
      clear HY HI
      go_wp2_with fail
      go_roundw
      case rel => exact ⟨k + 1, i + 1, m, HP.out.2.2.2, by go_num, by go_num, HP.out.2.2.1, by rw [HE.out]; omega, Z.out⟩
      case measure => simp [intOf]; have := HN.out; omega
  · have hkN : k = N + 1 := by have := HN.out; omega
    have hM : m + 1 = nearN c a N := by rw [hm, hkN]; simp
    have hin := nearN_in c a N
    have hz := HN.out
    have hw3 : IntKind.i64.wrap (m + 1) = m + 1 := by rw [IntKind.wrap_i64]; omega
    have hw4 : IntKind.u32.wrap (m + 1) = m + 1 := by rw [IntKind.wrap_u32]; omega
    have HM := Lib.hid hM
    clear hM hin hz hi hm hk hkN HI
    go_wp2_with fail
    go_ret
    rw [HM.out]
    exact ⟨rfl, X.out⟩
open Go.RowKit
theorem and1_u32 {f : Int} (h0 : 0 ≤ f) (h1 : f < 4294967296) : bits .and .u32 f 1 = f % 2 := by
 rw [u32_and f 1 h0 h1 (by omega) (by omega)]
 show ((f.toNat &&& 1 : Nat) : Int) = f % 2
 rw [Nat.and_one_is_mod]
 omega
theorem and2_u32 {f : Int} (h0 : 0 ≤ f) (h1 : f < 4294967296) : bits .and .u32 f 2 = 2 * (f / 2 % 2) := by
 rw [u32_and f 2 h0 h1 (by omega) (by omega)]
 have e : (Int.toNat 2) = 2 := rfl
 have h1 : (f.toNat &&& 2) / 2 = f.toNat / 2 % 2 := by
  have := Nat.and_div_two_pow (a := f.toNat) (b := 2) (n := 1)
  rw [show (2 : Nat) ^ 1 = 2 from rfl] at this
  rw [this, show 2 / 2 = 1 from rfl, Nat.and_one_is_mod]
 have h2 : (f.toNat &&& 2) % 2 = 0 := by
  have := Nat.and_mod_two_pow (a := f.toNat) (b := 2) (n := 1)
  rw [show (2 : Nat) ^ 1 = 2 from rfl] at this
  rw [this]; simp
 rw [e]
 omega
theorem to256_any {c : Int} {w : World} (hT : CTabs w) (h0 : 0 ≤ c) : Calls Tryd.prog 83 #[.int .u32 c] w fun e w' => e = .returned (.int .u32 (to256S c)) ∧ Below w.heap.size w w' := by
 by_cases h3 : threeS c
 · have hd : decide (threeS c) = true := decide_eq_true h3
   have HE := Lib.hid (show to256S c = nearN c 17 239 from if_pos h3)
   clear h3
   go_enter Tryd.func83, Tryd.ntmps83
   go_wp2_with fail
   refine (ofThree_any _).mono ?_
   rintro e w1 ⟨rfl, rfl⟩
   rw [hd]
   go_wp2_with fail
   refine (nearest_any (N := 239) hT h0 (by omega) (by omega) (by omega)).mono ?_
   rintro e w2 ⟨rfl, hb⟩
   have HB := Lib.hid hb
   clear hb
   go_wp2_with fail
   go_ret
   rw [HE.out]
   exact ⟨rfl, HB.out⟩
 · have hd : decide (threeS c) = false := decide_eq_false h3
   have HE := Lib.hid (to256_id h3)
   clear h3
   go_enter Tryd.func83, Tryd.ntmps83
   go_wp2_with fail
   refine (ofThree_any _).mono ?_
   rintro e w1 ⟨rfl, rfl⟩
   rw [hd]
   go_wp2_with fail
   go_ret
   rw [HE.out]
   exact ⟨rfl, Below.refl _ _⟩
theorem to16_any {c : Int} {w : World} (hT : CTabs w) (h0 : 0 ≤ c) : Calls Tryd.prog 84 #[.int .u32 c] w fun e w' => e = .returned (.int .u32 (to16S c)) ∧ Below w.heap.size w w' := by
 by_cases h3 : threeS c
 · have hd : decide (threeS c) = true := decide_eq_true h3
   have HE := Lib.hid (show to16S c = nearN c 1 15 from if_pos (.inl h3))
   clear h3
   go_enter Tryd.func84, Tryd.ntmps84
   go_wp2_with fail
   refine (ofThree_any _).mono ?_
   rintro e w1 ⟨rfl, rfl⟩
   rw [hd]
   go_wp2_with fail
   refine (nearest_any (N := 15) hT h0 (by omega) (by omega) (by omega)).mono ?_
   rintro e w2 ⟨rfl, hb⟩
   have HB := Lib.hid hb
   clear hb
   go_wp2_with fail
   go_ret
   rw [HE.out]
   exact ⟨rfl, HB.out⟩
 · have hd : decide (threeS c) = false := decide_eq_false h3
   by_cases h2 : 17 ≤ c ∧ c ≤ 256
   · have hd2 : decide (17 ≤ c ∧ c ≤ 256) = true := decide_eq_true h2
     have HE := Lib.hid (show to16S c = nearN c 1 15 from if_pos (.inr h2))
     clear h3 h2
     go_enter Tryd.func84, Tryd.ntmps84
     go_wp2_with fail
     refine (ofThree_any _).mono ?_
     rintro e w1 ⟨rfl, rfl⟩
     rw [hd]
     go_wp2_with fail
     refine (beyond_any _).mono ?_
     rintro e w1 ⟨rfl, rfl⟩
     rw [hd2]
     go_wp2_with fail
     refine (nearest_any (N := 15) hT h0 (by omega) (by omega) (by omega)).mono ?_
     rintro e w2 ⟨rfl, hb⟩
     have HB := Lib.hid hb
     clear hb
     go_wp2_with fail
     go_ret
     rw [HE.out]
     exact ⟨rfl, HB.out⟩
   · have hd2 : decide (17 ≤ c ∧ c ≤ 256) = false := decide_eq_false h2
     have HE := Lib.hid (to16_id (c := c) (by rintro (h | h); exact h3 h; exact h2 h))
     clear h3 h2
     go_enter Tryd.func84, Tryd.ntmps84
     go_wp2_with fail
     refine (ofThree_any _).mono ?_
     rintro e w1 ⟨rfl, rfl⟩
     rw [hd]
     go_wp2_with fail
     refine (beyond_any _).mono ?_
     rintro e w1 ⟨rfl, rfl⟩
     rw [hd2]
     go_wp2_with fail
     go_ret
     rw [HE.out]
     exact ⟨rfl, Below.refl _ _⟩
theorem fit_code (c f : Int) : fitS c f = if threeS c ∧ bit1 f = true then c else if bit0 f = true then to256S c else to16S c := by
 unfold fitS
 by_cases h3 : threeS c
 · have h2 : ¬ (17 ≤ c ∧ c ≤ 256) := by unfold threeS at h3; omega
   by_cases h1 : bit1 f = true
   · rw [if_pos (.inl ⟨h3, h1⟩), if_pos ⟨h3, h1⟩]
   · rw [if_neg (by rintro (h | h); exact h1 h.2; exact h2 h.1), if_neg (fun (h : threeS c ∧ bit1 f = true) => h1 h.2)]
     by_cases h0 : bit0 f = true
     · rw [if_pos ⟨h3, h0⟩, if_pos h0]
     · rw [if_neg (fun (h : threeS c ∧ bit0 f = true) => h0 h.2), if_neg h0]
 · rw [if_neg (fun (h : threeS c ∧ bit1 f = true) => h3 h.1)]
   by_cases h0 : bit0 f = true
   · rw [if_pos h0, to256_id h3]
     by_cases h2 : 17 ≤ c ∧ c ≤ 256
     · rw [if_pos (.inr ⟨h2, h0⟩)]
     · rw [if_neg (by rintro (h | h); exact h3 h.1; exact h2 h.1), if_neg (fun h => h3 h.1)]
       exact to16_id (by rintro (h | h); exact h3 h; exact h2 h)
   · rw [if_neg h0, if_neg (by rintro (h | h); exact h3 h.1; exact h0 h.2), if_neg (fun h => h3 h.1)]
theorem fitW {c f : Int} {w : World} {T B1 B0 : Bool} (hT : CTabs w) (h0 : 0 ≤ c) (hd : decide (threeS c) = T) (hb1 : bits .and .u32 f 2 = if B1 then 2 else 0) (hb0 : bits .and .u32 f 1 = if B0 then 1 else 0) :
  Calls Tryd.prog 64 #[.int .u32 c, .int .u32 f] w fun e w' => e = .returned (.int .u32 (if (T && B1) = true then c else if B0 = true then to256S c else to16S c)) ∧ Below w.heap.size w w' := by
 cases T <;> cases B1 <;> cases B0 <;> simp only [Bool.false_eq_true, if_false, if_true, Bool.and_true, Bool.and_false] at hb1 hb0 ⊢
 · go_enter Tryd.func64, Tryd.ntmps64
   go_wp2_with fail
   refine (ofThree_any _).mono ?_
   rintro e w1 ⟨rfl, rfl⟩
   rw [hd]
   go_wp2_with fail
   refine (to16_any hT h0).mono ?_
   rintro e w2 ⟨rfl, hb⟩
   have HB := Lib.hid hb
   clear hb
   go_wp2_with fail
   go_ret
   exact ⟨rfl, HB.out⟩
 · go_enter Tryd.func64, Tryd.ntmps64
   go_wp2_with fail
   refine (ofThree_any _).mono ?_
   rintro e w1 ⟨rfl, rfl⟩
   rw [hd]
   go_wp2_with fail
   refine (to256_any hT h0).mono ?_
   rintro e w2 ⟨rfl, hb⟩
   have HB := Lib.hid hb
   clear hb
   go_wp2_with fail
   go_ret
   exact ⟨rfl, HB.out⟩
 · go_enter Tryd.func64, Tryd.ntmps64
   go_wp2_with fail
   refine (ofThree_any _).mono ?_
   rintro e w1 ⟨rfl, rfl⟩
   rw [hd]
   go_wp2_with fail
   refine (to16_any hT h0).mono ?_
   rintro e w2 ⟨rfl, hb⟩
   have HB := Lib.hid hb
   clear hb
   go_wp2_with fail
   go_ret
   exact ⟨rfl, HB.out⟩
 · go_enter Tryd.func64, Tryd.ntmps64
   go_wp2_with fail
   refine (ofThree_any _).mono ?_
   rintro e w1 ⟨rfl, rfl⟩
   rw [hd]
   go_wp2_with fail
   refine (to256_any hT h0).mono ?_
   rintro e w2 ⟨rfl, hb⟩
   have HB := Lib.hid hb
   clear hb
   go_wp2_with fail
   go_ret
   exact ⟨rfl, HB.out⟩
 · go_enter Tryd.func64, Tryd.ntmps64
   go_wp2_with fail
   refine (ofThree_any _).mono ?_
   rintro e w1 ⟨rfl, rfl⟩
   rw [hd]
   go_wp2_with fail
   refine (to16_any hT h0).mono ?_
   rintro e w2 ⟨rfl, hb⟩
   have HB := Lib.hid hb
   clear hb
   go_wp2_with fail
   go_ret
   exact ⟨rfl, HB.out⟩
 · go_enter Tryd.func64, Tryd.ntmps64
   go_wp2_with fail
   refine (ofThree_any _).mono ?_
   rintro e w1 ⟨rfl, rfl⟩
   rw [hd]
   go_wp2_with fail
   refine (to256_any hT h0).mono ?_
   rintro e w2 ⟨rfl, hb⟩
   have HB := Lib.hid hb
   clear hb
   go_wp2_with fail
   go_ret
   exact ⟨rfl, HB.out⟩
 · go_enter Tryd.func64, Tryd.ntmps64
   go_wp2_with fail
   refine (ofThree_any _).mono ?_
   rintro e w1 ⟨rfl, rfl⟩
   rw [hd]
   go_wp2_with fail
   go_ret
   exact ⟨rfl, Below.refl _ _⟩
 · go_enter Tryd.func64, Tryd.ntmps64
   go_wp2_with fail
   refine (ofThree_any _).mono ?_
   rintro e w1 ⟨rfl, rfl⟩
   rw [hd]
   go_wp2_with fail
   go_ret
   exact ⟨rfl, Below.refl _ _⟩
theorem fit_any {c f : Int} {w : World} (hT : CTabs w) (h0 : 0 ≤ c) (hf0 : 0 ≤ f) (hf1 : f < 4294967296) :
  Calls Tryd.prog 64 #[.int .u32 c, .int .u32 f] w fun e w' => e = .returned (.int .u32 (fitS c f)) ∧ Below w.heap.size w w' := by
 have h := fitW (f := f) hT h0 (T := decide (threeS c)) (B1 := bit1 f) (B0 := bit0 f) rfl
  (by rw [and2_u32 hf0 hf1]; unfold bit1; by_cases h : f / 2 % 2 = 1 <;> simp [h]; omega)
  (by rw [and1_u32 hf0 hf1]; unfold bit0; by_cases h : f % 2 = 1 <;> simp [h]; omega)
 refine h.mono fun e w' he => ⟨?_, he.2⟩
 rw [he.1, fit_code]
 simp only [Bool.and_eq_true, decide_eq_true_eq]
theorem rto256_any {c : Int} {w : World} (h0 : 0 ≤ c) : Calls Tryd.prog 40 #[.int .u32 c] w fun e w' => e = .returned (.int .u32 (to256S c)) ∧ Below w.heap.size w w' := by
 by_cases h1 : 16777216 ≤ c
 · by_cases h2 : c < 33554432
   · have HE := Lib.hid (show to256S c = nearN c 17 239 from if_pos ⟨h1, h2⟩)
     go_enter Tryd.func40, Tryd.ntmps40
     go_wp2_with fail
     refine (near_any (a := 17) (N := 239) h0 (by omega) (by omega) (by omega) (by omega)).mono ?_
     rintro e w2 ⟨rfl, hb⟩
     have HB := Lib.hid hb
     clear hb
     go_wp2_with fail
     go_ret
     rw [HE.out]
     exact ⟨rfl, HB.out⟩
   · have HE := Lib.hid (to256_id (c := c) (fun h => h2 h.2))
     go_enter Tryd.func40, Tryd.ntmps40
     go_wp2_with fail
     go_ret
     rw [HE.out]
     exact ⟨rfl, Below.refl _ _⟩
 · have HE := Lib.hid (to256_id (c := c) (fun h => h1 h.1))
   go_enter Tryd.func40, Tryd.ntmps40
   go_wp2_with fail
   go_ret
   rw [HE.out]
   exact ⟨rfl, Below.refl _ _⟩
set_option maxRecDepth 100000 in
theorem rto16_any {c : Int} {w : World} (h0 : 0 ≤ c) : Calls Tryd.prog 41 #[.int .u32 c] w fun e w' => e = .returned (.int .u32 (to16S c)) ∧ Below w.heap.size w w' := by
 by_cases h1 : 16777216 ≤ c
 · by_cases h2 : c < 33554432
   · have HE := Lib.hid (show to16S c = nearN c 1 15 from if_pos (.inl ⟨h1, h2⟩))
     go_enter Tryd.func41, Tryd.ntmps41
     go_wp2_with fail
     refine (near_any (a := 1) (N := 15) h0 (by omega) (by omega) (by omega) (by omega)).mono ?_
     rintro e w2 ⟨rfl, hb⟩
     have HB := Lib.hid hb
     clear hb
     go_wp2_with fail
     go_ret
     rw [HE.out]
     exact ⟨rfl, HB.out⟩
   · have HE := Lib.hid (to16_id (c := c) (by rintro (h | h); exact h2 h.2; omega))
     have h17 : 17 ≤ c := by omega
     have h256 : ¬ c ≤ 256 := by omega
     go_enter Tryd.func41, Tryd.ntmps41
     go_wp2_with fail
     go_ret
     rw [HE.out]
     exact ⟨rfl, Below.refl _ _⟩
 · by_cases h17 : 17 ≤ c
   · by_cases h256 : c ≤ 256
     · have HE := Lib.hid (show to16S c = nearN c 1 15 from if_pos (.inr ⟨h17, h256⟩))
       go_enter Tryd.func41, Tryd.ntmps41
       go_wp2_with fail
       refine (near_any (a := 1) (N := 15) h0 (by omega) (by omega) (by omega) (by omega)).mono ?_
       rintro e w2 ⟨rfl, hb⟩
       have HB := Lib.hid hb
       clear hb
       go_wp2_with fail
       go_ret
       rw [HE.out]
       exact ⟨rfl, HB.out⟩
     · have HE := Lib.hid (to16_id (c := c) (by rintro (h | h); exact h1 h.1; omega))
       go_enter Tryd.func41, Tryd.ntmps41
       go_wp2_with fail
       go_ret
       rw [HE.out]
       exact ⟨rfl, Below.refl _ _⟩
   · have HE := Lib.hid (to16_id (c := c) (by rintro (h | h); exact h1 h.1; omega))
     go_enter Tryd.func41, Tryd.ntmps41
     go_wp2_with fail
     go_ret
     rw [HE.out]
     exact ⟨rfl, Below.refl _ _⟩
theorem to256_pos {c : Int} (h0 : 0 ≤ c) : 0 ≤ to256S c := by
 by_cases h3 : threeS c
 · have := to256_in h3; omega
 · rw [to256_id h3]; exact h0
theorem to16_pos {c : Int} (h0 : 0 ≤ c) : 0 ≤ to16S c := by
 by_cases h3 : threeS c ∨ (17 ≤ c ∧ c ≤ 256)
 · have := to16_in h3; omega
 · rw [to16_id h3]; exact h0
theorem fit_pos {c f : Int} (h0 : 0 ≤ c) : 0 ≤ fitS c f := by
 rw [fit_code]
 split
 · exact h0
 split
 · exact to256_pos h0
 · exact to16_pos h0
open Go.RowKit
theorem and_pow (n k : Nat) : n &&& 2 ^ k = if n.testBit k = true then 2 ^ k else 0 := by
 apply Nat.eq_of_testBit_eq
 intro i
 rw [Nat.testBit_and, Nat.testBit_two_pow]
 by_cases hk : k = i
 · subst hk
   cases h : n.testBit k
   · simp
   · simp
 · cases h : n.testBit k
   · simp [hk]
   · simp [hk]
theorem andB {f : Int} (h : 0 ≤ f ∧ f < 4294967296) {k : Nat} (hk : k < 32) : bits .and .u32 f ((2 ^ k : Nat) : Int) = if hasB f k = true then ((2 ^ k : Nat) : Int) else 0 := by
 have h2 : 2 ^ k < 2 ^ 32 := Nat.pow_lt_pow_right (by omega) hk
 generalize hK : 2 ^ k = K at h2 ⊢
 rw [u32_and f _ h.1 h.2 (by omega) (by omega), Int.toNat_natCast, ← hK, and_pow]
 unfold hasB
 cases f.toNat.testBit k <;> simp
theorem has8 {f : Int} (h : 0 ≤ f ∧ f < 4294967296) : bits .and .u32 f 8 = if hasB f 3 = true then 8 else 0 := andB h (k := 3) (by omega)
theorem has4 {f : Int} (h : 0 ≤ f ∧ f < 4294967296) : bits .and .u32 f 4 = if hasB f 2 = true then 4 else 0 := andB h (k := 2) (by omega)
theorem has16 {f : Int} (h : 0 ≤ f ∧ f < 4294967296) : bits .and .u32 f 16 = if hasB f 4 = true then 16 else 0 := andB h (k := 4) (by omega)
theorem has32 {f : Int} (h : 0 ≤ f ∧ f < 4294967296) : bits .and .u32 f 32 = if hasB f 5 = true then 32 else 0 := andB h (k := 5) (by omega)
theorem lacks_any {f K : Int} {B : Bool} (hb : bits .and .u32 f K = if B = true then K else 0) (hK : 0 < K) (w : World) :
  Calls Tryd.prog 20 #[.int .u32 f, .int .u32 K] w fun e w' => e = .returned (.bool (!B)) ∧ w' = w := by
 have HB := Lib.hid (And.intro hb hK)
 clear hb hK
 go_enter Tryd.func20, Tryd.ntmps20
 go_wp2_with fail
 go_ret
 refine ⟨?_, rfl⟩
 rw [HB.out.1]
 have := HB.out.2
 cases B <;> simp <;> omega
theorem has_any {f K : Int} {B : Bool} (hb : bits .and .u32 f K = if B = true then K else 0) (hK : 0 < K) (w : World) :
  Calls Tryd.prog 24 #[.int .u32 f, .int .u32 K] w fun e w' => e = .returned (.bool B) ∧ w' = w := by
 have HB := Lib.hid (And.intro hb hK)
 clear hb hK
 go_enter Tryd.func24, Tryd.ntmps24
 go_wp2_with fail
 go_ret
 refine ⟨?_, rfl⟩
 rw [HB.out.1]
 have := HB.out.2
 cases B <;> simp <;> omega
theorem narrow_any {c : Ce} (w : World) : Calls Tryd.prog 38 #[.agg (ceA c)] w fun e w' => e = .returned (.agg (ceA (narrowS c))) ∧ Below w.heap.size w w' := by
 obtain ⟨C, hC⟩ : ∃ C, narrowS c = C := ⟨_, rfl⟩
 rw [hC]
 have HC := Lib.hid hC
 clear hC
 obtain ⟨r, wd, fg, bg, st, lk⟩ := c
 by_cases h1 : wd = 1
 · subst h1
   unfold ceA
   go_enter Tryd.func38, Tryd.ntmps38
   go_wp2_with fail
   refine bodyPost_ret (results_cell_row Tryd.results38 _ _ (w.heap.size + 1) 37 _ (0, 0) _ rfl (alloc2_new _ _ _) Tryd.underlying37 rfl infoCe) rfl ⟨?_, ((Below.refl _ _).alloc (Nat.le_refl _) _).alloc (by simp) _⟩
   rw [← HC.out]; rfl
 · by_cases h2 : wd = 2
   · subst h2
     unfold ceA
     go_enter Tryd.func38, Tryd.ntmps38
     go_wp2_with fail
     refine bodyPost_ret (results_cell_row Tryd.results38 _ _ (w.heap.size + 1) 37 _ (0, 0) _ rfl (alloc2_new _ _ _) Tryd.underlying37 rfl infoCe) rfl ⟨?_, ((Below.refl _ _).alloc (Nat.le_refl _) _).alloc (by simp) _⟩
     rw [← HC.out]; rfl
   · unfold ceA
     go_enter Tryd.func38, Tryd.ntmps38
     go_wp2_with fail
     refine bodyPost_ret (results_cell_row Tryd.results38 _ _ (w.heap.size + 1) 37 _ (0, 0) _ rfl (alloc2_new _ _ _) Tryd.underlying37 rfl infoCe) rfl ⟨?_, ((Below.refl _ _).alloc (Nat.le_refl _) _).alloc (by simp) _⟩
     rw [← HC.out]
     unfold narrowS
     rw [if_neg h1, if_neg h2]
end Go.Proofs.YtojchkhnalnncaaDoor
