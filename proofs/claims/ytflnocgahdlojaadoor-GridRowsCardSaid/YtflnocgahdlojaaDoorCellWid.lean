/-
  utf.Width: how many columns a rune takes.
-/
import Derived.Test.YtflnocgahdlojaaDoorUtfEnc
import Derived.Test.YtflnocgahdlojaaDoorCellTab
import Derived.LoopTactic
import Derived.Deep.CutBlock
import Derived.Test.YtflnocgahdlojaaDoorWireLeaf
import Derived.Laws.Rows
import Derived.Lib.Hide
namespace Go.Proofs.YtflnocgahdlojaaDoor
open Go.RowKit

/-- The first stretch from k on that holds r. -/
def inSt (r : Int) : List (Int × Int × Int) → Int
  | [] => 1
  | x :: l => if x.1 ≤ r ∧ r ≤ x.2.1 then x.2.2 else inSt r l
def widthS (r : Int) : Int := if mayS r = true then inSt r stL else 0
theorem valid_may (r : Int) : Lib.validRune r = mayS r := by
  unfold Lib.validRune mayS
  rw [Bool.eq_iff_iff]
  simp
  omega
theorem idx_st (k : Nat) (hk : k < 15) (w : World) : (Instr.index 92 (.agg stCells.toArray) (.int .i64 (k : Int))).run Tryd.prog w =
    .ok (.agg #[.int .i32 (stL.getD k (0, 0, 0)).1, .int .i32 (stL.getD k (0, 0, 0)).2.1, .int .i64 (stL.getD k (0, 0, 0)).2.2]) w := by
  have h15 : k = 0 ∨ k = 1 ∨ k = 2 ∨ k = 3 ∨ k = 4 ∨ k = 5 ∨ k = 6 ∨ k = 7 ∨ k = 8 ∨ k = 9 ∨ k = 10 ∨ k = 11 ∨ k = 12 ∨ k = 13 ∨ k = 14 := by omega
  rcases h15 with rfl | rfl | rfl | rfl | rfl | rfl | rfl | rfl | rfl | rfl | rfl | rfl | rfl | rfl | rfl <;> (show _ = _; kernel_rfl)
theorem infoSt : (Tryd.prog.info? 92).map (·.size) = some stCells.toArray.size := by kernel_rfl

set_option maxHeartbeats 1600000 in
theorem width_any {w : World} (r : Int) (hT : Tabs w) :
    Calls Tryd.prog 70 #[.int .i32 r] w fun e w' => e = .returned (.int .i64 (widthS r)) ∧ Below w.heap.size w w' := by
  have H := Lib.hid (And.intro hT (valid_may r))
  clear hT
  cases hm : mayS r
  · have HV := Lib.hid (H.out.2.trans hm)
    go_enter Tryd.func70, Tryd.ntmps70
    go_wp2_with fail
    refine (Tryd.utf8_ValidRune r w).mono ?_
    rintro e w1 ⟨rfl, rfl⟩
    rw [HV.out]
    go_wp2_with fail
    go_ret
    exact ⟨by simp [widthS, hm], Below.refl _ _⟩
  · have HV := Lib.hid (H.out.2.trans hm)
    obtain ⟨t, fr, hst⟩ := H.out.1.st
    have HS := Lib.hid hst
    clear hst
    obtain ⟨ANS, hA⟩ : ∃ ANS, inSt r stL = ANS := ⟨_, rfl⟩
    have HA := Lib.hid hA
    clear hA
    go_enter Tryd.func70, Tryd.ntmps70
    go_wp2_with fail
    refine (Tryd.utf8_ValidRune r w).mono ?_
    rintro e w1 ⟨rfl, rfl⟩
    rw [HV.out]
    go_wp2_with (refine wpList_load_row rfl 92 (.global 0) rfl 0 rfl t stCells.toArray fr _ HS.out Tryd.underlying92 rfl infoSt ?_)
    generalize hcs : stCells.toArray = CS
    go_loopw [9] (fun i wr => ∃ k : Nat, k ≤ 15 ∧ i = .int .i64 k ∧ inSt r (stL.drop k) = ANS ∧ Below w1.heap.size w1 wr) (fun i _ => 15 - (iOf i).toNat)
    case atStart => exact ⟨0, by omega, rfl, HA.out, Below.refl _ _⟩
    case round =>
      obtain ⟨k, hk, rfl, hst, hbw⟩ := hrel
      have HW := Lib.hid (And.intro hst hbw)
      clear hst hbw
      by_cases hlt : k < 15
      · have hkl : (k : Int) < 15 := by omega
        obtain ⟨lo, hi, co, he⟩ : ∃ lo hi co, stL.getD k (0, 0, 0) = (lo, hi, co) := ⟨_, _, _, rfl⟩
        have hidx := idx_st k hlt
        rw [he, hcs] at hidx
        have hd : stL.drop k = (lo, hi, co) :: stL.drop (k + 1) := by
          have hl : k < stL.length := hlt
          rw [List.drop_eq_getElem_cons hl, ← he]; simp [List.getD, List.getElem?_eq_getElem hl]
        have HD := Lib.hid hd
        clear hd he
        by_cases h1 : lo ≤ r
        · have h1' : decide (lo ≤ r) = true := by simpa using h1
          by_cases h2 : r ≤ hi
          · have h2' : decide (r ≤ hi) = true := by simpa using h2
            go_wp2_with fail
            go_ret
            have := HW.out.1
            rw [HD.out] at this
            simp only [inSt, h1, h2, and_self, if_true] at this
            exact ⟨by simp [widthS, hm, HA.out, this], HW.out.2.alloc HW.out.2.size _⟩
          · have h2' : decide (r ≤ hi) = false := by simpa using h2
            go_wp2_with fail
            go_roundw
            case rel =>
              have := HW.out.1
              rw [HD.out] at this
              simp only [inSt, h2, and_false, if_false] at this
              exact ⟨k + 1, by omega, by go_num, this, HW.out.2.alloc HW.out.2.size _⟩
            case measure => simp [iOf]; omega
        · have h1' : decide (lo ≤ r) = false := by simpa using h1
          go_wp2_with fail
          go_roundw
          case rel =>
            have := HW.out.1
            rw [HD.out] at this
            simp only [inSt, h1, false_and, if_false] at this
            exact ⟨k + 1, by omega, by go_num, this, HW.out.2.alloc HW.out.2.size _⟩
          case measure => simp [iOf]; omega
      · obtain rfl : k = 15 := by omega
        go_wp2_with fail
        go_ret
        have := HW.out.1
        exact ⟨by simp only [widthS, hm, if_true, HA.out, ← this]; rfl, HW.out.2⟩
end Go.Proofs.YtflnocgahdlojaaDoor
