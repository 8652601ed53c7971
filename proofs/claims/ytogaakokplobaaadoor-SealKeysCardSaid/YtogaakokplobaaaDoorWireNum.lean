/-
  Contracts of wire.Num and of the reference's Num.
-/
import Derived.Test.YtogaakokplobaaaDoorWireLeaf
import Derived.Test.YtogaakokplobaaaDoorWireSpec
namespace Go.Proofs.YtogaakokplobaaaDoor
open Go.RowKit

/-- What both answer. -/
def numS (n size : Int) : List Int := if 1 ≤ size ∧ size ≤ 8 then numL n size.toNat else []

theorem numS_len (n size : Int) : (numS n size).length ≤ 8 := by
  unfold numS
  split
  · rw [numL_len]; omega
  · simp

theorem num_any (n size : Int) (w : World) (_ : 0 ≤ n) (_ : n ≤ 18446744073709551615) :
    Calls Tryd.prog 33 #[.int .u64 n, .int .i64 size] w fun e w' => ∃ v, e = .returned v ∧ Made 5 (numS n size) w v w' := by
  obtain ⟨i0, hi, hz0, hz1, hz2⟩ := info_parts info8
  by_cases hs : 1 ≤ size ∧ size ≤ 8
  · obtain ⟨s, rfl⟩ : ∃ s : Nat, size = s := ⟨size.toNat, by omega⟩
    have hb : decide (1 ≤ (s : Int) ∧ (s : Int) ≤ 8) = true := by simpa using hs
    obtain ⟨hs1, hs2⟩ := hs
    go_enter Tryd.func33, Tryd.ntmps33
    go_wp2_with (first
      | (go_at_call 41; refine (sizeMay_any _ _).mono ?_; rintro e w' ⟨rfl, rfl⟩)
      | (at_make; refine wpList_make_full _ rfl _ _ 22 rfl w.heap.size 5 i0 (.int .u8 0) 1 Tryd.underlying22 hi hz0 hz1 .i64 .i64 (s : Int) (s : Int) s rfl rfl rfl rfl (by rw [hz2]; omega) (by unfold maxLen; omega) (Nat.le_refl _) ?_; intro w1 hown hg))
    have hbel : Below w.heap.size w w1 := Below.grown (Below.refl _ _) hg (Nat.le_refl _) (by intro k hk; cases hk)
    clear hg
    go_loopw [14] (fun i wr => ∃ k : Nat, k ≤ s ∧ i = .int .i64 k ∧ wr.ownsRow w.heap.size 5 1 (.slice (some ⟨w.heap.size, 0, none⟩) s s) s ((rowL s n k).map (Value.int .u8)) ∧ Below w.heap.size w wr) (fun i _ => s - (intOf i).toNat)
    case atStart => exact ⟨0, Nat.zero_le _, rfl, by simpa [rowL_zero, toList_madeCells_one, Value.cells] using hown, hbel⟩
    case round =>
      clear hown hbel
      obtain ⟨k, hk, rfl, hown, hbel⟩ := hrel
      by_cases hlt : k < s
      · have hc : wr.cell? ⟨w.heap.size, s - 1 - k, none⟩ = some (.int .u8 0) := by
          rw [hown.cellAt (s - 1 - k) (by omega), List.getElem?_map, rowL_at n hlt]; rfl
        have hf := hown.frozenAt (s - 1 - k)
        have hst := hown.stored (s - 1 - k) (.int .u8 (n / 2 ^ (8 * k) % 256))
        rw [← List.map_set, pow8, rowL_set n hlt] at hst
        have H1 := Lib.hid (And.intro hst.1 (hbel.setCell (p := ⟨w.heap.size, s - 1 - k, none⟩) (Nat.le_refl _) (.int .u8 (n / 256 ^ k % 256))))
        clear hst hown hbel
        go_wp2
        go_roundw
        case rel => exact ⟨k + 1, by omega, by go_num, by simpa only [pow8] using H1.out⟩
        case measure => simp [intOf]; omega
      · obtain rfl : k = s := by omega
        rw [rowL_full] at hown
        have H := Made.mk (w := w) hown hbel
        clear hown hbel
        go_wp2
        go_ret
        exact ⟨_, rfl, by unfold numS; rw [if_pos ⟨hs1, hs2⟩]; exact H⟩
  · have hb : decide (1 ≤ size ∧ size ≤ 8) = false := by simpa using hs
    go_enter Tryd.func33, Tryd.ntmps33
    go_wp2_with (first
      | (go_at_call 41; refine (sizeMay_any _ _).mono ?_; rintro e w' ⟨rfl, rfl⟩))
    go_ret
    exact ⟨_, rfl, by unfold numS; rw [if_neg hs]; exact Made.nil _ _⟩

theorem refNum_any (n size : Int) (w : World) (hn : 0 ≤ n) (hn' : n ≤ 18446744073709551615) :
    Calls Tryd.prog 34 #[.int .u64 n, .int .i64 size] w fun e w' => ∃ v, e = .returned v ∧ Made 5 (numS n size) w v w' := by
  obtain ⟨i0, hi, hz0, hz1, hz2⟩ := info_parts info8
  by_cases hs : 1 ≤ size ∧ size ≤ 8
  · obtain ⟨s, rfl⟩ : ∃ s : Nat, size = s := ⟨size.toNat, by omega⟩
    obtain ⟨hs1, hs2⟩ := hs
    go_enter Tryd.func34, Tryd.ntmps34
    go_wp2_with (first
      | (at_make; refine wpList_make_full _ rfl _ _ 22 rfl w.heap.size 5 i0 (.int .u8 0) 1 Tryd.underlying22 hi hz0 hz1 .i64 .i64 (s : Int) (s : Int) s rfl rfl rfl rfl (by rw [hz2]; omega) (by unfold maxLen; omega) (Nat.le_refl _) ?_; intro w1 hown hg))
    have hbel : Below w.heap.size w w1 := Below.grown (Below.refl _ _) hg (Nat.le_refl _) (by intro k hk; cases hk)
    clear hg
    go_loopw [6, 0] (fun i x wr => ∃ k : Nat, k ≤ s ∧ i = .int .i64 k ∧ x = .int .u64 (n / 256 ^ k) ∧ wr.ownsRow w.heap.size 5 1 (.slice (some ⟨w.heap.size, 0, none⟩) s s) s ((rowL s n k).map (Value.int .u8)) ∧ Below w.heap.size w wr) (fun i _ _ => s - (intOf i).toNat)
    case atStart => exact ⟨0, Nat.zero_le _, rfl, by simp, by simpa [rowL_zero, toList_madeCells_one, Value.cells] using hown, hbel⟩
    case round =>
      clear hown hbel
      obtain ⟨k, hk, rfl, rfl, hown, hbel⟩ := hrel
      by_cases hlt : k < s
      · have hc : wr.cell? ⟨w.heap.size, s - 1 - k, none⟩ = some (.int .u8 0) := by
          rw [hown.cellAt (s - 1 - k) (by omega), List.getElem?_map, rowL_at n hlt]; rfl
        have hf := hown.frozenAt (s - 1 - k)
        have hst := hown.stored (s - 1 - k) (.int .u8 (n / 256 ^ k % 256))
        rw [← List.map_set, rowL_set n hlt] at hst
        have H1 := Lib.hid (And.intro hst.1 (hbel.setCell (p := ⟨w.heap.size, s - 1 - k, none⟩) (Nat.le_refl _) (.int .u8 (n / 256 ^ k % 256))))
        have hd := div_step n k
        obtain ⟨hb1, hb2⟩ := div_bounds k hn hn'
        have HD := Lib.hid hd
        obtain ⟨x, hx⟩ : ∃ x, x = n / 256 ^ k := ⟨_, rfl⟩
        rw [← hx] at hb1 hb2 HD H1 ⊢
        clear hst hown hbel hd hx
        go_wp2
        go_roundw
        case rel => exact ⟨k + 1, by omega, by go_num, by rw [HD.out], H1.out⟩
        case measure => simp [intOf]; omega
      · obtain rfl : k = s := by omega
        rw [rowL_full] at hown
        have H := Made.mk (w := w) hown hbel
        clear hown hbel
        go_wp2
        go_ret
        exact ⟨_, rfl, by unfold numS; rw [if_pos ⟨hs1, hs2⟩]; exact H⟩
  · by_cases h1 : size < 1
    · go_enter Tryd.func34, Tryd.ntmps34
      go_wp2
      go_ret
      exact ⟨_, rfl, by unfold numS; rw [if_neg hs]; exact Made.nil _ _⟩
    · have h2 : 8 < size := by omega
      go_enter Tryd.func34, Tryd.ntmps34
      go_wp2
      go_ret
      exact ⟨_, rfl, by unfold numS; rw [if_neg hs]; exact Made.nil _ _⟩

end Go.Proofs.YtogaakokplobaaaDoor
