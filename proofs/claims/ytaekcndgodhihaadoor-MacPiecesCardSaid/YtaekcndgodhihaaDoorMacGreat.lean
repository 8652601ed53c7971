/-
  How great parts are, and copies of them: what the laws of layer 4 ask of what they are handed, and make of it.
-/
import Derived.Test.YtaekcndgodhihaaDoorShaSize
import Derived.Test.YtaekcndgodhihaaDoorMacPts
import Derived.Maps.AppendAt
namespace Go.Proofs.YtaekcndgodhihaaDoor
open Go.RowKit

/-- More parts and bytes than are gone through? -/
def greatB (L : List (List Int)) : Bool := decide (16384 < L.length + L.flatten.length)
theorem flat_take_le (L : List (List Int)) (k : Nat) : (L.take k).flatten.length ≤ L.flatten.length := by
  have h4 := congrArg (fun l => l.flatten.length) (List.take_append_drop k L)
  simp only [List.flatten_append, List.length_append] at h4
  omega
theorem retB' {a b : Bool} (h : a = b) : Ending.returned (.bool a) = .returned (.bool b) := by rw [h]

set_option maxRecDepth 100000 in
set_option maxHeartbeats 800000 in
theorem great_any {A : Option Addr} {n c : Nat} {L : List (List Int)} (w : World) (hp : Ps w A n L) (hn : n ≤ 140737488351232) (hl : ∀ l ∈ L, l.length ≤ 140737488351232) :
    Calls Tryd.prog 8 #[.slice A n c] w fun e w' => e = .returned (.bool (greatB L)) ∧ w = w' := by
  have H := Lib.hid (And.intro hp hl)
  clear hp hl
  go_enter Tryd.func8, Tryd.ntmps8
  go_wp2_with fail
  go_loopw [3, 7] (fun v3 i wr => ∃ (k s : Nat), k ≤ n ∧ s ≤ 16384 ∧ i = .int .i64 k ∧ v3 = .int .i64 s ∧ s = k + (L.take k).flatten.length ∧ w = wr) (fun _ i _ => n - (intOf i).toNat)
  case atStart => exact ⟨0, 0, Nat.zero_le _, by omega, rfl, rfl, rfl, rfl⟩
  case round =>
    obtain ⟨k, s, hk, hs, rfl, rfl, he, rfl⟩ := hrel
    have HE := Lib.hid he
    clear he
    by_cases hlt : k < n
    · have hkl : (k : Int) < (n : Int) := by omega
      obtain ⟨ad, rfl, hblt, hel⟩ := H.out.1.at_ (by omega)
      obtain ⟨A', m', c', hc, hsb, hmc, hcm, hb8⟩ := hel k hlt
      have hkL : k < L.length := by rw [H.out.1.len]; exact hlt
      have hm : m' ≤ 140737488351232 := by
        rw [← hsb.len]
        refine H.out.2 _ ?_
        rw [List.getD, List.getElem?_eq_getElem hkL]
        exact List.getElem_mem hkL
      have XL := Lib.hid (show s + (1 + m') = (k + 1) + (L.take (k + 1)).flatten.length ∧ k + 1 ≤ L.length from ⟨by rw [flat_take hkL, hsb.len, HE.out]; omega, hkL⟩)
      clear hsb hb8 hel hblt hkL
      by_cases hbig : (16384 : Int) < (s : Int) + (1 + (m' : Int))
      · have HG := Lib.hid (show true = greatB L from by
          have h1 := flat_take_le L (k + 1)
          have h2 := XL.out
          unfold greatB
          symm
          rw [decide_eq_true_eq]
          omega)
        go_wp2_with fail
        go_ret
        exact ⟨retB' HG.out, rfl⟩
      · go_wp2_with fail
        go_roundw
        case rel => exact ⟨k + 1, s + (1 + m'), by omega, by omega, by go_num, by go_num, XL.out.1, trivial⟩
        case measure => simp [intOf]; omega
    · have HG := Lib.hid (show false = greatB L from by
        have e : L.take k = L := List.take_of_length_le (by rw [H.out.1.len]; omega)
        have h1 := HE.out
        have h2 := H.out.1.len
        rw [e] at h1
        unfold greatB
        symm
        rw [decide_eq_false_iff_not]
        omega)
      go_wp2_with fail
      go_ret
      exact ⟨retB' HG.out, rfl⟩
theorem great_not {L : List (List Int)} (h : greatB L = false) : L.length + L.flatten.length ≤ 16384 := by
  unfold greatB at h
  rw [decide_eq_false_iff_not] at h
  omega

/-- The first j places of a row hold copies of the first j lists, each in a block of its own behind the row's. -/
def Copied (w : World) (G : Nat) (xs : List Value) (L : List (List Int)) (j : Nat) : Prop :=
  ∀ k, k < j → ∃ g m, xs[k]? = some (.slice (some ⟨g, 0, none⟩) m m) ∧ G < g ∧ Sb w (some ⟨g, 0, none⟩) m (L.getD k []) ∧ m ≤ 9223372036854775807 ∧ B8s (L.getD k [])
theorem Copied.below {w w' : World} {G : Nat} {xs : List Value} {L : List (List Int)} {j : Nat} (h : Copied w G xs L j) (hb : Below w.heap.size w w') : Copied w' G xs L j := fun k hk => by
  obtain ⟨g, m, h1, h2, h3, h4⟩ := h k hk
  exact ⟨g, m, h1, h2, h3.below hb, h4⟩
theorem Copied.stored {w : World} {G : Nat} {xs : List Value} {L : List (List Int)} {j g m : Nat} (h : Copied w G xs L j) (hx : j < xs.length) (hg : G < g) (hs : Sb w (some ⟨g, 0, none⟩) m (L.getD j [])) (hm : m ≤ 9223372036854775807) (h8 : B8s (L.getD j [])) :
    Copied (w.setCell ⟨G, j, none⟩ (.slice (some ⟨g, 0, none⟩) m m)) G (xs.set j (.slice (some ⟨g, 0, none⟩) m m)) L (j + 1) := fun k hk => by
  have far : ∀ {g' m' : Nat} {z : List Int}, G < g' → Sb w (some ⟨g', 0, none⟩) m' z → Sb (w.setCell ⟨G, j, none⟩ (.slice (some ⟨g, 0, none⟩) m m)) (some ⟨g', 0, none⟩) m' z := fun hlt hz =>
    hz.grown (grownBy_set w _ _) (fun ad had _ e => by
      simp only [Option.some.injEq] at had e
      subst had
      simp only at e
      omega)
  by_cases hkj : k = j
  · subst hkj
    exact ⟨g, m, by rw [List.getElem?_set_self hx], hg, far hg hs, hm, h8⟩
  · obtain ⟨g', m', h1, h2, h3, h4⟩ := h k (by omega)
    exact ⟨g', m', by rw [List.getElem?_set_ne (fun e => hkj e.symm)]; exact h1, h2, far h2 h3, h4⟩
theorem Copied.all {w : World} {G : Nat} {xs : List Value} {L : List (List Int)} {j : Nat} (h : Copied w G xs L j) (hx : xs.length = j) (hL : L.length = j) : Pv w xs L :=
  ⟨hx.trans hL.symm, fun k hk => by
    obtain ⟨g, m, h1, _, h3, h4, h5⟩ := h k (by omega)
    exact ⟨_, m, m, h1, h3, Nat.le_refl _, h4, h5⟩⟩

set_option maxRecDepth 100000 in
set_option maxHeartbeats 1600000 in
theorem copies_any {A : Option Addr} {n c : Nat} {L : List (List Int)} (w1 : World) (hp : Ps w1 A n L) (hn2 : n ≤ 1000000) (hll : ∀ l ∈ L, l.length ≤ 140737488351232) :
    Calls Tryd.prog 10 #[.slice A n c] w1 fun e w' => ∃ g, e = .returned (.slice (some ⟨g, 0, none⟩) n n) ∧ Ps w' (some ⟨g, 0, none⟩) n L ∧ Below w1.heap.size w1 w' := by
  obtain ⟨i0, hi, hz0, hz1, hz2⟩ := info_parts infoS
  have H := Lib.hid (show True ∧ Ps w1 A n L ∧ (∀ l ∈ L, l.length ≤ 140737488351232) from ⟨trivial, hp, hll⟩)
  clear hp hll
  go_enter Tryd.func10, Tryd.ntmps10
  go_wp2_with (first
    | (at_make; refine wpList_make_full _ rfl _ _ 23 rfl w1.heap.size 22 i0 (.slice none 0 0) 1 Tryd.underlying23 hi hz0 hz1 .i64 .i64 (n : Int) (n : Int) n rfl rfl rfl rfl (by rw [hz2]; omega) (by unfold maxLen; omega) (Nat.le_refl _) ?_; intro w2 hown hg))
  obtain ⟨x0, hx0⟩ : ∃ x, x = (madeCells (Value.slice none 0 0).cells (n * 1)).toList := ⟨_, rfl⟩
  have X2 := Lib.hid (show w2.ownsRow w1.heap.size 22 1 (.slice (some ⟨w1.heap.size, 0, none⟩) n n) n x0 ∧ Below w1.heap.size w1 w2 from by
    rw [hx0]
    exact ⟨hown, (Below.refl _ _).grown hg (Nat.le_refl _) (by intro k hk; cases hk)⟩)
  clear hown hg hx0
  go_loopw [10] (fun i wr => ∃ (j : Nat) (xs : List Value), j ≤ n ∧ i = .int .i64 j ∧ wr.ownsRow w1.heap.size 22 1 (.slice (some ⟨w1.heap.size, 0, none⟩) n n) n xs ∧ Copied wr w1.heap.size xs L j ∧ Below w1.heap.size w1 wr) (fun i _ => n - (intOf i).toNat)
  case atStart => exact ⟨0, x0, Nat.zero_le _, rfl, X2.out.1, fun k hk => absurd hk (by omega), X2.out.2⟩
  case round =>
    clear X2
    obtain ⟨j, xs, hj, rfl, hown, hcp, hbel⟩ := hrel
    have X := Lib.hid (show wr.ownsRow w1.heap.size 22 1 (.slice (some ⟨w1.heap.size, 0, none⟩) n n) n xs ∧ Copied wr w1.heap.size xs L j ∧ Below w1.heap.size w1 wr from ⟨hown, hcp, hbel⟩)
    have hxl := Lib.hid (show xs.length = n from by have := hown.1; simpa using this)
    have hG := Lib.hid (show w1.heap.size < wr.heap.size from by
      rcases hown.2 with ⟨h, _⟩ | ⟨g, cap, cur, hv, _, hg, _⟩
      · simp at h
      · injection hv with hA
        injection hA with hA
        injection hA with hA
        subst hA
        exact (Array.getElem?_eq_some_iff.1 hg).1)
    clear hown hcp hbel
    by_cases hlt : j < n
    · have hjl : (j : Int) < (n : Int) := by omega
      obtain ⟨ad, rfl, hblt, hel⟩ := H.out.2.1.at_ (by omega)
      obtain ⟨A', m, c', hc, hsb, _, hcm, hb8⟩ := hel j hlt
      have hcell := (X.out.2.2.cell (p := ad.add j) (by rw [addBlock]; exact hblt)).trans hc
      have hjL : j < L.length := by rw [H.out.2.1.len]; exact hlt
      have hm : m ≤ 140737488351232 := by
        rw [← hsb.len]
        refine H.out.2.2 _ ?_
        rw [List.getD, List.getElem?_eq_getElem hjL]
        exact List.getElem_mem hjL
      have HS := Lib.hid (And.intro (hsb.below X.out.2.2) hb8)
      clear hsb hb8 hel hblt hjL hc
      go_wp2_with fail
      refine (copy_any HS.out.1 (by omega)).mono ?_
      rintro e w2 ⟨g, rfl, hownc, hb2⟩
      have Y := Lib.hid (show w2.ownsRow w1.heap.size 22 1 (.slice (some ⟨w1.heap.size, 0, none⟩) n n) n xs ∧ Copied w2 w1.heap.size xs L j ∧ Below w1.heap.size w1 w2 ∧ w1.heap.size < g ∧ Sb w2 (some ⟨g, 0, none⟩) m (L.getD j []) from by
        refine ⟨own_belowS X.out.1 hb2, X.out.2.1.below hb2, X.out.2.2.trans (hb2.mono (Nat.le_of_lt hG.out)), ?_, Sb.own hownc⟩
        have h1 := hG.out
        rcases hownc.2 with ⟨h, _⟩ | ⟨g', cap, cur, hv, h2, _⟩
        · simp at h
        · injection hv with hA
          injection hA with hA
          injection hA with hA
          subst hA
          omega)
      have hcG : w2.cell? ⟨w1.heap.size, j, none⟩ = some (xs[j]'(by rw [hxl.out]; exact hlt)) := by
        rw [Y.out.1.cellAt j (by omega), List.getElem?_eq_getElem]
      have hfG := Y.out.1.frozenAt j
      clear hownc hb2 hcell
      go_wp2_with fail
      go_roundw
      case rel => exact ⟨j + 1, xs.set j _, by omega, by go_num, (Y.out.1.stored j _).1, Y.out.2.1.stored (by rw [hxl.out]; exact hlt) Y.out.2.2.2.1 Y.out.2.2.2.2 (by omega) HS.out.2, Y.out.2.2.1.setCell (Nat.le_refl _) _⟩
      case measure => simp [intOf]; omega
    · obtain rfl : j = n := by omega
      have HP := Lib.hid (X.out.2.1.all hxl.out H.out.2.1.len)
      clear hlt hj
      go_wp2_with fail
      go_ret
      exact ⟨_, rfl, Ps.own X.out.1 HP.out (Below.refl _ _), X.out.2.2⟩

theorem mac_eql (s : List Int) (h : s.length = 32) : ∀ w, (binOp .eql 28 (.agg (u8A s)) (.agg (u8A s))).run Tryd.prog w = .ok (.bool true) w := fun w => by
  rw [run_eql_u8A w 28 5 32 Tryd.underlying28 Tryd.underlying5 size1 s s h h]
  simp

end Go.Proofs.YtaekcndgodhihaaDoor
