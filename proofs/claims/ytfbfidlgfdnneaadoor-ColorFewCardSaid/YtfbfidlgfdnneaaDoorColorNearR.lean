/-
  How far two colours are, and the nearest one of a row of them: the reference's.
-/
import Derived.Test.YtfbfidlgfdnneaaDoorColorNear
namespace Go.Proofs.YtfbfidlgfdnneaaDoor
open Go.RowKit

def tAt (p : Int × Int × Int) (j : Nat) : Int := if j = 0 then p.1 else if j = 1 then p.2.1 else p.2.2
/-- The squares of the first so many parts. -/
def sqUp (p q : Int × Int × Int) : Nat → Int
  | 0 => 0
  | j + 1 => sqUp p q j + (tAt p j - tAt q j) * (tAt p j - tAt q j)
theorem sqUp3 (p q : Int × Int × Int) : sqUp p q 3 = sqS p q := by
  simp only [sqUp, sqS, tAt]
  simp
theorem tAt_le (c : Int) (j : Nat) : 0 ≤ tAt (pT c) j ∧ tAt (pT c) j ≤ 255 := by
  obtain ⟨h1, h2, h3⟩ := pT_le c
  unfold tAt
  split
  · exact h1
  split
  · exact h2
  · exact h3
theorem sqUp_le (c d : Int) : ∀ j : Nat, 0 ≤ sqUp (pT c) (pT d) j ∧ sqUp (pT c) (pT d) j ≤ j * 65025
  | 0 => by simp [sqUp]
  | j + 1 => by
    have h := sqUp_le c d j
    have h2 := sq_le (tAt_le c j) (tAt_le d j)
    unfold sqUp
    omega
/-- A block holds a colour's parts. -/
def Three (w : World) (b : Nat) (p : Int × Int × Int) : Prop := ∀ j, j < 3 → w.cell? ⟨b, j, none⟩ = some (.int .i64 (tAt p j))
theorem Three.below {w w' : World} {b : Nat} {p : Int × Int × Int} (h : Three w b p) (hb : Below w.heap.size w w') : Three w' b p :=
  fun j hj => (hb.cell (block_lt_of_cell (h j hj))).trans (h j hj)
theorem three_new (w : World) (p : Int × Int × Int) (t : TypeId) : Three (w.alloc (.cells #[.int .i64 p.1, .int .i64 p.2.1, .int .i64 p.2.2] t)) w.heap.size p := by
  intro j hj
  rw [cell_of_row _ _ _ _ _ _ (heap_alloc_new w _)]
  have h3 : j = 0 ∨ j = 1 ∨ j = 2 := by omega
  rcases h3 with rfl | rfl | rfl <;> rfl
set_option maxHeartbeats 1600000 in
set_option maxRecDepth 100000 in
theorem rfar_any {c d : Int} {w : World} (h0 : 0 ≤ c) (h1 : 0 ≤ d) : Calls Tryd.prog 12 #[.int .u32 c, .int .u32 d] w fun e w' => e = .returned (.int .i64 (farS c d)) ∧ Below w.heap.size w w' := by
  obtain ⟨F, hF⟩ : ∃ F, farS c d = F := ⟨_, rfl⟩
  have HE := farS_eq c d
  rw [hF] at HE ⊢
  have HQ := Lib.hid HE
  clear hF HE
  go_enter Tryd.func12, Tryd.ntmps12
  go_wp2_with fail
  refine (rparts_any h0).mono ?_
  rintro e w1 ⟨rfl, hb⟩
  have HB := Lib.hid hb
  clear hb
  go_upto_region 2 with fail
  have HA := Lib.hid (show Three (w1.alloc (.cells #[.int .i64 (pT c).1, .int .i64 (pT c).2.1, .int .i64 (pT c).2.2] 26)) w1.heap.size (pT c) ∧ Below w.heap.size w (w1.alloc (.cells #[.int .i64 (pT c).1, .int .i64 (pT c).2.1, .int .i64 (pT c).2.2] 26)) from
    ⟨three_new _ _ _, HB.out.alloc HB.out.size _⟩)
  generalize hW : w1.alloc (.cells #[.int .i64 (pT c).1, .int .i64 (pT c).2.1, .int .i64 (pT c).2.2] 26) = w2 at HA ⊢
  clear hW
  generalize w1.heap.size = b1 at HA ⊢
  clear HB
  go_wp2_with fail
  refine (rparts_any h1).mono ?_
  rintro e w3 ⟨rfl, hb⟩
  have HB := Lib.hid (show Three w3 b1 (pT c) ∧ Below w.heap.size w w3 from ⟨HA.out.1.below hb, HA.out.2.trans (hb.mono HA.out.2.size)⟩)
  clear hb HA
  go_upto_region 3 with fail
  have HA := Lib.hid (show Three (w3.alloc (.cells #[.int .i64 (pT d).1, .int .i64 (pT d).2.1, .int .i64 (pT d).2.2] 26)) b1 (pT c) ∧ Three (w3.alloc (.cells #[.int .i64 (pT d).1, .int .i64 (pT d).2.1, .int .i64 (pT d).2.2] 26)) w3.heap.size (pT d) ∧ Below w.heap.size w (w3.alloc (.cells #[.int .i64 (pT d).1, .int .i64 (pT d).2.1, .int .i64 (pT d).2.2] 26)) from
    ⟨HB.out.1.below ((Below.refl _ _).alloc (Nat.le_refl _) _), three_new _ _ _, HB.out.2.alloc HB.out.2.size _⟩)
  generalize hW : w3.alloc (.cells #[.int .i64 (pT d).1, .int .i64 (pT d).2.1, .int .i64 (pT d).2.2] 26) = w4 at HA ⊢
  clear hW
  generalize w3.heap.size = b2 at HA ⊢
  clear HB
  have HL := Lib.hid (show (∀ j, (0 ≤ tAt (pT c) j ∧ tAt (pT c) j ≤ 255) ∧ (0 ≤ tAt (pT d) j ∧ tAt (pT d) j ≤ 255)) ∧ (∀ j : Nat, 0 ≤ sqUp (pT c) (pT d) j ∧ sqUp (pT c) (pT d) j ≤ j * 65025) from ⟨fun j => ⟨tAt_le c j, tAt_le d j⟩, sqUp_le c d⟩)
  generalize pT c = p at HA HL HQ ⊢
  generalize pT d = q at HA HL HQ ⊢
  generalize hasS c = hc at HQ ⊢
  generalize hasS d = hd at HQ ⊢
  obtain ⟨p1, p2, p3⟩ := p
  obtain ⟨q1, q2, q3⟩ := q
  cases hc
  · obtain rfl : F = -1 := by rw [HQ.out]; simp
    go_wp2_with fail
    go_ret
    exact ⟨rfl, HA.out.2.2⟩
  · cases hd
    · obtain rfl : F = -1 := by rw [HQ.out]; simp
      go_wp2_with fail
      go_ret
      exact ⟨rfl, HA.out.2.2⟩
    · have HF := Lib.hid (show F = sqUp (p1, p2, p3) (q1, q2, q3) 3 from by rw [HQ.out, sqUp3]; simp)
      clear HQ
      generalize hp : (p1, p2, p3) = p at HA HL HF
      generalize hq : (q1, q2, q3) = q at HA HL HF
      clear hp hq
      go_wp2_with fail
      go_loopw [9, 10] (fun s i wr => ∃ j : Nat, j ≤ 3 ∧ i = .int .i64 j ∧ s = .int .i64 (sqUp p q j) ∧ Three wr b1 p ∧ Three wr b2 q ∧ Below w.heap.size w wr) (fun _ i _ => 3 - (intOf i).toNat)
      case atStart => exact ⟨0, by omega, rfl, rfl, HA.out⟩
      case round =>
        obtain ⟨j, hj, rfl, rfl, ha, hb, hB⟩ := hrel
        have X := Lib.hid (And.intro ha (And.intro hb hB))
        clear ha hb hB
        by_cases hlt : j < 3
        · have hjl : (j : Int) < 3 := by omega
          have c1 := X.out.1 j hlt
          have c2 := X.out.2.1 j hlt
          have u1 := HL.out.1 j
          have u2 := HL.out.2 j
          have hn : sqUp p q (j + 1) = sqUp p q j + (tAt p j - tAt q j) * (tAt p j - tAt q j) := rfl
          have s1 := sq_le u1.1 u1.2
          generalize sqUp p q j = S at u2 hn ⊢
          have hw1 : IntKind.i64.wrap (tAt p j - tAt q j) = tAt p j - tAt q j := by rw [IntKind.wrap_i64]; omega
          generalize tAt p j = x at c1 u1 hn s1 hw1
          generalize tAt q j = y at c2 u1 hn s1 hw1
          obtain ⟨m, hm⟩ : ∃ m, (x - y) * (x - y) = m := ⟨_, rfl⟩
          rw [hm] at hn s1
          have hw2 : IntKind.i64.wrap ((x - y) * (x - y)) = m := by rw [hm, IntKind.wrap_i64]; omega
          have hw3 : IntKind.i64.wrap (S + m) = S + m := by rw [IntKind.wrap_i64]; omega
          have hw4 : IntKind.i64.wrap ((j : Int) + 1) = (j : Int) + 1 := by rw [IntKind.wrap_i64]; omega
          have HN := Lib.hid hn
          clear hn hm u1 u2 s1
          go_wp2_with fail
          go_quiet (fail)
          go_wp2_with fail
          go_roundw
          case rel => exact ⟨j + 1, by omega, by go_num, by rw [HN.out], fun i hi => X.out.1 i hi, fun i hi => X.out.2.1 i hi, belowNc X.out.2.2 _⟩
          case measure => simp [intOf]; omega
        · obtain rfl : j = 3 := by omega
          go_wp2_with fail
          go_ret
          rw [HF.out]
          exact ⟨rfl, X.out.2.2⟩
set_option maxHeartbeats 800000 in
set_option maxRecDepth 100000 in
/-- The reference counts from one number ahead. -/
theorem near_any {c a b z : Int} {N : Nat} {w : World} (h0 : 0 ≤ c) (ha : 0 ≤ z) (haz : a = z + 1) (hN : b = z + (N : Int)) (hb256 : b ≤ 255) :
    Calls Tryd.prog 25 #[.int .u32 c, .int .i64 z, .int .i64 b] w fun e w' => e = .returned (.int .u32 (nearN c a N)) ∧ Below w.heap.size w w' := by
  have HN := Lib.hid (And.intro hN (And.intro hb256 haz))
  clear hN hb256 haz
  go_enter Tryd.func25, Tryd.ntmps25
  go_wp2_with fail
  go_loopw [7, 8] (fun s v wr => ∃ (k : Nat) (i m : Int), k ≤ N + 1 ∧ v = .int .i64 i ∧ s = .int .i64 m ∧ i = z + (k : Int) ∧ m = nearN c a (k - 1) - 1 ∧ Below w.heap.size w wr) (fun _ i _ => (z + (N : Int) + 1 - intOf i).toNat)
  case atStart => exact ⟨0, z, z, Nat.zero_le _, rfl, rfl, by simp, by show z = a - 1; rw [HN.out.2.2]; omega, Below.refl _ _⟩
  case round =>
    obtain ⟨k, i, m, hk, rfl, rfl, hi, hm, hB⟩ := hrel
    have X := Lib.hid hB
    have HI := Lib.hid (And.intro hi hm)
    clear hB
    by_cases hlt : i ≤ b
    · have hin := nearN_in c a (k - 1)
      have HX := nearN_next c a k
      have hz := HN.out
      have hkN : k ≤ N := by omega
      rw [show a + (k : Int) = i + 1 by omega, show nearN c a (k - 1) = m + 1 by omega] at HX
      have hw1 : IntKind.i64.wrap (i + 1) = i + 1 := by rw [IntKind.wrap_i64]; omega
      have hw2 : IntKind.u32.wrap (i + 1) = i + 1 := by rw [IntKind.wrap_u32]; omega
      have hw3 : IntKind.i64.wrap (m + 1) = m + 1 := by rw [IntKind.wrap_i64]; omega
      have hw4 : IntKind.u32.wrap (m + 1) = m + 1 := by rw [IntKind.wrap_u32]; omega
      have HP := Lib.hid (show 0 ≤ i + 1 ∧ 0 ≤ m + 1 ∧ i + 1 = z + ((k + 1 : Nat) : Int) ∧ k + 1 ≤ N + 1 from ⟨by omega, by omega, by omega, by omega⟩)
      have HY := Lib.hid HX
      clear HX hin hz hkN hi hm hk
      go_wp2_with fail
      refine (rfar_any h0 HP.out.1).mono ?_
      rintro e w3 ⟨rfl, hb3⟩
      have Y := Lib.hid (X.out.trans (hb3.mono X.out.size))
      clear hb3 X
      go_wp2_with fail
      refine (rfar_any h0 HP.out.2.1).mono ?_
      rintro e w4 ⟨rfl, hb4⟩
      have Z := Lib.hid (Y.out.trans (hb4.mono Y.out.size))
      clear hb4 Y
      by_cases hl : farS c (i + 1) < farS c (m + 1)
      · have HE := Lib.hid (HY.out.trans (if_pos hl))
        clear HY HI
        go_wp2_with fail
        go_roundw
        case rel => exact ⟨k + 1, i + 1, i, HP.out.2.2.2, by go_num, by go_num, HP.out.2.2.1, by rw [HE.out]; omega, Z.out⟩
        case measure => simp [intOf]; have := HN.out; omega
      · have HE := Lib.hid (HY.out.trans (if_neg hl))
        clear HY HI
        go_wp2_with fail
        go_roundw
        case rel => exact ⟨k + 1, i + 1, m, HP.out.2.2.2, by go_num, by go_num, HP.out.2.2.1, by rw [HE.out]; omega, Z.out⟩
        case measure => simp [intOf]; have := HN.out; omega
    · have hkN : k = N + 1 := by have := HN.out; omega
      have hM : m + 1 = nearN c a N := by rw [hm, hkN]; simp
      have hin := nearN_in c a N
      have hz := HN.out
      have hw3 : IntKind.i64.wrap (m + 1) = m + 1 := by rw [IntKind.wrap_i64]; omega
      have hw4 : IntKind.u32.wrap (m + 1) = m + 1 := by rw [IntKind.wrap_u32]; omega
      have HM := Lib.hid hM
      clear hM hin hz hi hm hk hkN HI
      go_wp2_with fail
      go_ret
      rw [HM.out]
      exact ⟨rfl, X.out⟩
end Go.Proofs.YtfbfidlgfdnneaaDoor
