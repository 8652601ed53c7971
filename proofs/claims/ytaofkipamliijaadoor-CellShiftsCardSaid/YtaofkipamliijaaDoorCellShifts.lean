/-
  Proved: CellShifts answers true for every row, every place, every number and every pen, over the table that the program lays (a tied card).
-/
import Derived.Test.YtaofkipamliijaaDoorOpen
import Derived.Test.YtaofkipamliijaaDoorCards
import Derived.Test.YtaofkipamliijaaDoorTie
import Derived.SevenTiedAt
import Derived.Test.YtaofkipamliijaaDoorCellTab
import Derived.Test.YtaofkipamliijaaDoorCellIn
import Derived.Test.YtaofkipamliijaaDoorCellFixed
import Derived.Test.YtaofkipamliijaaDoorCellRefRow
import Derived.Test.YtaofkipamliijaaDoorCellKeep
import Derived.WalkKit
import Derived.Deep.RegionHeld3
import Derived.Laws.ByValue
namespace Go.Proofs.YtaofkipamliijaaDoor.cellShifts
open Go.ChangeShapes Go.WideShapes Go.ChangeAt Go.RowKit

/-- A cell behind cuts at a and b. -/
def cc (L : List Ce) (a b j : Nat) : Ce := if ((cAt L j).wd = 1 ∧ (j + 1 = a ∨ j + 1 = b)) ∨ ((cAt L j).wd = 2 ∧ (j = a ∨ j = b)) then blankS (cAt L j).p else cAt L j
theorem ins_at {L : List Ce} (h : RowOk L) {a k : Nat} (p : Pn) (hk : 1 ≤ k) (hak : a + k ≤ L.length) {i : Nat} (hi : i < L.length) :
    cAt (insertS L (a : Int) (k : Int) p) i = if i < a then cc L a (L.length - k) i else if i < a + k then blankS p else cc L a (L.length - k) (i - k) := by
  unfold insertS
  simp only []
  rw [if_pos (by omega), Int.toNat_natCast, show (min (k : Int) ((L.length : Int) - (a : Int))).toNat = k by omega]
  obtain ⟨M, hM⟩ : ∃ M, M = cutS (cutS L a) (L.length - k) := ⟨_, rfl⟩
  have hMl : M.length = L.length := by rw [hM, cutS_length, cutS_length]
  have hMc : ∀ j, j < L.length → cAt M j = cc L a (L.length - k) j := fun j hj => by rw [hM, cut2 h (by omega) hj]; rfl
  rw [← hM]
  have hTl : ((M.drop a).take (L.length - (a + k))).length = L.length - (a + k) := by rw [List.length_take, List.length_drop, hMl]; omega
  have hf1 : a + k + ((M.drop a).take (L.length - (a + k))).length ≤ M.length := by omega
  rw [cAt_overS (by rw [overS_length hf1, List.length_replicate]; omega), List.length_replicate, cAt_overS hf1, hTl, cAt_replicate, cAt_take, cAt_drop]
  by_cases e1 : i < a
  · rw [if_neg (by omega), if_neg (by omega), if_pos e1, hMc i hi]
  · rw [if_neg e1]
    by_cases e2 : i < a + k
    · rw [if_pos (by omega), if_pos (by omega), if_pos e2]
    · rw [if_neg (by omega), if_pos (by omega), if_pos (by omega), if_neg e2, show a + (i - (a + k)) = i - k by omega, hMc _ (by omega)]
theorem del_at {L : List Ce} (h : RowOk L) {a k : Nat} (p : Pn) (hk : 1 ≤ k) (hak : a + k ≤ L.length) {i : Nat} (hi : i < L.length) :
    cAt (deleteS L (a : Int) (k : Int) p) i = if i < a then cc L a (a + k) i else if i < L.length - k then cc L a (a + k) (i + k) else blankS p := by
  unfold deleteS
  simp only []
  rw [if_pos (by omega), Int.toNat_natCast, show (min (k : Int) ((L.length : Int) - (a : Int))).toNat = k by omega]
  obtain ⟨M, hM⟩ : ∃ M, M = cutS (cutS L a) (a + k) := ⟨_, rfl⟩
  have hMl : M.length = L.length := by rw [hM, cutS_length, cutS_length]
  have hMc : ∀ j, j < L.length → cAt M j = cc L a (a + k) j := fun j hj => by rw [hM, cut2 h (by omega) hj]; rfl
  rw [← hM]
  have hf1 : a + (M.drop (a + k)).length ≤ M.length := by rw [List.length_drop]; omega
  rw [cAt_overS (by rw [overS_length hf1, List.length_replicate]; omega), List.length_replicate, cAt_overS hf1, List.length_drop, hMl, cAt_replicate, cAt_drop]
  by_cases e1 : i < a
  · rw [if_neg (by omega), if_neg (by omega), if_pos e1, hMc i hi]
  · rw [if_neg e1]
    by_cases e2 : i < L.length - k
    · rw [if_neg (by omega), if_pos (by omega), if_pos e2, show a + k + (i - a) = i + k by omega, hMc _ (by omega)]
    · rw [if_pos (by omega), if_pos (by omega), if_neg e2]
theorem ins_len {L : List Ce} (h : RowOk L) {a k : Nat} (p : Pn) (hk : 1 ≤ k) (hak : a + k ≤ L.length) : (insertS L (a : Int) (k : Int) p).length = L.length := by
  rw [insert_eq h p (by omega) (by omega) (by omega), mendS_length, insR_len p (by omega)]
theorem del_len {L : List Ce} (h : RowOk L) {a k : Nat} (p : Pn) (hk : 1 ≤ k) (hak : a + k ≤ L.length) : (deleteS L (a : Int) (k : Int) p).length = L.length := by
  rw [delete_eq h p (by omega) (by omega) (by omega), mendS_length, delR_len p (by omega)]
/-- Put in and taken out again. -/
theorem shifts_at {L : List Ce} (h : RowOk L) {a k : Nat} {p : Pn} (hp : penMayS p = true) (hk : 1 ≤ k) (hak : a + k ≤ L.length) {i : Nat} (hi : i < L.length)
    (h1 : ¬ ((cAt L a).wd = 2 ∧ (i = a ∨ i + 1 = a))) (h2 : ¬ ((cAt L (L.length - k)).wd = 2 ∧ (i = L.length - k ∨ i + 1 = L.length - k))) :
    cAt (deleteS (insertS L (a : Int) (k : Int) p) (a : Int) (k : Int) p) i = if i < L.length - k then cAt L i else blankS p := by
  have hI := ins_ok h (a : Int) (k : Int) hp
  have hIl := ins_len h p hk hak
  rw [del_at hI p hk (by omega) (by omega), hIl]
  have hpair : ∀ j, j + 1 < L.length → ((cAt L j).wd = 1 ↔ (cAt L (j + 1)).wd = 2) := fun j hj => h.pair hj
  by_cases e1 : i < a
  · rw [if_pos e1, if_pos (by omega)]
    have hc : cAt (insertS L (a : Int) (k : Int) p) i = cAt L i := by
      rw [ins_at h p hk hak hi, if_pos e1]
      unfold cc
      rw [if_neg]
      rintro (⟨e, e2 | e2⟩ | ⟨e, e2 | e2⟩)
      · have h3 := (hpair i (by omega)).1 e
        rw [e2] at h3
        exact h1 ⟨h3, .inr e2⟩
      · have h3 := (hpair i (by omega)).1 e
        rw [e2] at h3
        exact h2 ⟨h3, .inr e2⟩
      · omega
      · omega
    unfold cc
    rw [hc, if_neg]
    rintro (⟨e, e2 | e2⟩ | ⟨e, e2 | e2⟩)
    · have h3 := (hpair i (by omega)).1 e
      rw [e2] at h3
      exact h1 ⟨h3, .inr e2⟩
    · omega
    · omega
    · omega
  · rw [if_neg e1]
    by_cases e2 : i < L.length - k
    · rw [if_pos e2, if_pos e2]
      have hc : cAt (insertS L (a : Int) (k : Int) p) (i + k) = cAt L i := by
        rw [ins_at h p hk hak (by omega), if_neg (by omega), if_neg (by omega), Nat.add_sub_cancel]
        unfold cc
        rw [if_neg]
        rintro (⟨e, e3 | e3⟩ | ⟨e, e3 | e3⟩)
        · omega
        · have h3 := (hpair i (by omega)).1 e
          rw [e3] at h3
          exact h2 ⟨h3, .inr e3⟩
        · subst e3; exact h1 ⟨e, .inl rfl⟩
        · omega
      unfold cc
      rw [hc, if_neg]
      rintro (⟨e, e3 | e3⟩ | ⟨e, e3 | e3⟩)
      · omega
      · omega
      · omega
      · have e4 : i = a := by omega
        subst e4
        exact h1 ⟨e, .inl rfl⟩
    · rw [if_neg e2, if_neg e2]

/-- Is a letter cut at a place? -/
theorem cutAt_any {w : World} {A : Option Addr} {n c b : Nat} {L : List Ce} {k : Nat} (h : Vs ceV w A n L) (hc : w.cell? ⟨b, 0, none⟩ = some (.slice A n c)) (hk : k < n) {B : Bool} (hB : decide ((cAt L k).wd = 2) = B) :
    Calls Tryd.prog 24 #[.int .i64 (k : Int), .pointer (some ⟨b, 0, none⟩)] w fun e w' => e = .returned (.bool B) ∧ w = w' := by
  obtain ⟨ad, rfl⟩ := h.addr (by omega)
  obtain ⟨_, a1, _, _, _, _⟩ := h.six hk
  have hk2 : (k : Int) < (n : Int) := by omega
  have hB2 : ((cAt L k).wd == 2) = B := by rw [← hB]; exact beqD _ _
  generalize (cAt L k).wd = v at a1 hB2
  clear hB h hk
  go_enter Tryd.func24, Tryd.ntmps24
  go_wp2_with fail
  go_ret
  exact ⟨rfl, rfl⟩

set_option maxHeartbeats 12800000 in
set_option maxRecDepth 100000 in
/-- The walk. -/
theorem walk {A : Option Addr} {n c : Nat} {L : List Ce} {x y : Int} {p : Pn} (w : World) (hT : Tabs w) (hs : Vs ceV w A n L ∧ n ≤ c ∧ c ≤ maxLen) (_ : (Lit.int .i64 x).wf = true) (_ : (Lit.int .i64 y).wf = true) (_ : True) :
    Calls Tryd.prog 7 #[.slice A n c, .int .i64 x, .int .i64 y, .agg (pnA p)] w fun e w' => e = .returned (.bool true) ∧ Below w.heap.size w w' := by
  obtain ⟨hv, hc1, hc2⟩ := hs
  unfold maxLen at hc2
  obtain ⟨w0, hw0⟩ : ∃ w0, w0 = (w.alloc (.cells #[.slice A n c] 29)).alloc (.cells (pnA p) 26) := ⟨_, rfl⟩
  obtain ⟨b, hbe⟩ : ∃ b, b = w.heap.size := ⟨_, rfl⟩
  have H := Lib.hid (show Below w.heap.size w w0 ∧ Tabs w0 ∧ Vs ceV w0 A n L ∧ w0.cell? ⟨b, 0, none⟩ = some (.slice A n c) ∧ Pen4 w0 (b + 1) p from by
    have h1 : Below w.heap.size w (w.alloc (.cells #[.slice A n c] 29)) := (Below.refl _ _).alloc (Nat.le_refl _) _
    have h2 : Below (w.alloc (.cells #[.slice A n c] 29)).heap.size (w.alloc (.cells #[.slice A n c] 29)) ((w.alloc (.cells #[.slice A n c] 29)).alloc (.cells (pnA p) 26)) := (Below.refl _ _).alloc (Nat.le_refl _) _
    have h3 : Below w.heap.size w ((w.alloc (.cells #[.slice A n c] 29)).alloc (.cells (pnA p) 26)) := h1.trans (h2.mono h1.size)
    have h4 := pen4_new (w.alloc (.cells #[.slice A n c] 29)) p 26
    have h5 : (w.alloc (.cells #[.slice A n c] 29)).cell? ⟨w.heap.size, 0, none⟩ = some (.slice A n c) := cell_of_row _ _ 0 _ _ _ (heap_alloc_new w _)
    have e1 : (w.alloc (.cells #[.slice A n c] 29)).heap.size = w.heap.size + 1 := by simp
    rw [e1] at h4
    rw [hw0, hbe]
    exact ⟨h3, hT.below h3 (Nat.le_refl _), hv.below h3, (h2.cell (by simp)).trans h5, h4⟩)
  have HL := Lib.hid hv.len
  clear hv hT
  unfold pnA at hw0
  go_enter Tryd.func7, Tryd.ntmps7
  unfold pnA
  go_upto_region 1 with fail
  rw [← hw0, ← hbe]
  clear hw0 hbe
  have hcb := H.out.2.2.2.1
  go_wp2_with fail
  refine (refRowMay_any H.out.2.2.1 (by omega)).mono ?_
  rintro e w1 ⟨rfl, hb⟩
  have X := Lib.hid (show Below w.heap.size w w1 ∧ Tabs w1 ∧ Vs ceV w1 A n L ∧ w1.cell? ⟨b, 0, none⟩ = some (.slice A n c) ∧ Pen4 w1 (b + 1) p from ⟨H.out.1.trans (hb.mono H.out.1.size), H.out.2.1.below hb (Nat.le_refl _), H.out.2.2.1.below hb, (hb.cell (by have := H.out.2.2.2.2.lt; show b < _; omega)).trans H.out.2.2.2.1, H.out.2.2.2.2.below hb⟩)
  clear hb H hcb
  have hcb := X.out.2.2.2.1
  obtain ⟨c0, c1, c2, c3, _⟩ := X.out.2.2.2.2
  by_cases hm : rowMay L = false
  · rw [hm]
    clear hm
    go_wp2_with fail
    refine (fixedC_any X.out.2.1).mono ?_
    rintro e w9 ⟨rfl, hb⟩
    have X9 := Lib.hid (X.out.1.trans (hb.mono X.out.1.size))
    clear hb c0 c1 c2 c3 hcb
    go_wp2_with fail
    go_ret
    exact ⟨rfl, X9.out⟩
  have hm' : rowMay L = true := by simpa using hm
  have HM := Lib.hid ((rowMay_iff L).1 hm')
  rw [hm']
  have hn80 : n ≤ 80 := by rw [← HL.out]; exact HM.out.le
  clear hm hm'
  go_wp2_with fail
  refine (refPenMay_any p _).mono ?_
  rintro e w2 ⟨rfl, hb⟩
  have X2 := Lib.hid (show Below w.heap.size w w2 ∧ Tabs w2 ∧ Vs ceV w2 A n L ∧ w2.cell? ⟨b, 0, none⟩ = some (.slice A n c) ∧ Pen4 w2 (b + 1) p from ⟨X.out.1.trans (hb.mono X.out.1.size), X.out.2.1.below hb (Nat.le_refl _), X.out.2.2.1.below hb, (hb.cell (by have := X.out.2.2.2.2.lt; show b < _; omega)).trans X.out.2.2.2.1, X.out.2.2.2.2.below hb⟩)
  clear hb X c0 c1 c2 c3 hcb
  have hcb := X2.out.2.2.2.1
  obtain ⟨c0, c1, c2, c3, _⟩ := X2.out.2.2.2.2
  by_cases hp : penMayS p = false
  · rw [hp]
    clear hp
    go_wp2_with fail
    refine (fixedC_any X2.out.2.1).mono ?_
    rintro e w9 ⟨rfl, hb⟩
    have X9 := Lib.hid (X2.out.1.trans (hb.mono X2.out.1.size))
    clear hb c0 c1 c2 c3 hcb
    go_wp2_with fail
    go_ret
    exact ⟨rfl, X9.out⟩
  have hp' : penMayS p = true := by simpa using hp
  have HPM := Lib.hid hp'
  rw [hp']
  clear hp hp'
  by_cases hx0 : x < 0
  ·
    go_wp2_with fail
    refine (fixedC_any X2.out.2.1).mono ?_
    rintro e w9 ⟨rfl, hb⟩
    have X9 := Lib.hid (X2.out.1.trans (hb.mono X2.out.1.size))
    clear hb c0 c1 c2 c3 hcb
    go_wp2_with fail
    go_ret
    exact ⟨rfl, X9.out⟩
  by_cases hx1 : (n : Int) ≤ x
  · have hx2 : 0 ≤ x := by omega
    go_wp2_with fail
    refine (fixedC_any X2.out.2.1).mono ?_
    rintro e w9 ⟨rfl, hb⟩
    have X9 := Lib.hid (X2.out.1.trans (hb.mono X2.out.1.size))
    clear hb c0 c1 c2 c3 hcb
    go_wp2_with fail
    go_ret
    exact ⟨rfl, X9.out⟩
  obtain ⟨a, rfl⟩ : ∃ a : Nat, x = (a : Int) := ⟨x.toNat, by omega⟩
  have hax : (a : Int) < (n : Int) := by omega
  by_cases hy0 : y < 1
  ·
    go_wp2_with fail
    refine (fixedC_any X2.out.2.1).mono ?_
    rintro e w9 ⟨rfl, hb⟩
    have X9 := Lib.hid (X2.out.1.trans (hb.mono X2.out.1.size))
    clear hb c0 c1 c2 c3 hcb
    go_wp2_with fail
    go_ret
    exact ⟨rfl, X9.out⟩
  by_cases hy1 : (n : Int) - (a : Int) < y
  · have hy2 : 1 ≤ y := by omega
    go_wp2_with fail
    refine (fixedC_any X2.out.2.1).mono ?_
    rintro e w9 ⟨rfl, hb⟩
    have X9 := Lib.hid (X2.out.1.trans (hb.mono X2.out.1.size))
    clear hb c0 c1 c2 c3 hcb
    go_wp2_with fail
    go_ret
    exact ⟨rfl, X9.out⟩
  obtain ⟨k, rfl⟩ : ∃ k : Nat, y = (k : Int) := ⟨y.toNat, by omega⟩
  have hk1 : 1 ≤ k := by omega
  have hk1' : (1 : Int) ≤ (k : Int) := by omega
  have hk2 : a + k ≤ n := by omega
  have hk2' : (k : Int) ≤ (n : Int) - (a : Int) := by omega
  clear hx0 hx1 hy0 hy1
  obtain ⟨I, hIe⟩ : ∃ I, insertS L (a : Int) (k : Int) p = I := ⟨_, rfl⟩
  obtain ⟨M, hMe⟩ : ∃ M, deleteS I (a : Int) (k : Int) p = M := ⟨_, rfl⟩
  have HI := Lib.hid (show I.length = n ∧ RowOk I ∧ M.length = n from by
    have h1 : RowOk I := by rw [← hIe]; exact ins_ok HM.out _ _ HPM.out
    have h2 : I.length = n := by rw [← hIe, ins_len HM.out p hk1 (by rw [HL.out]; exact hk2)]; exact HL.out
    exact ⟨h2, h1, by rw [← hMe, del_len h1 p hk1 (by rw [h2]; exact hk2)]; exact h2⟩)
  have HS := Lib.hid (show ∀ i, i < n → ¬ ((cAt L a).wd = 2 ∧ (i = a ∨ i + 1 = a)) → ¬ ((cAt L (n - k)).wd = 2 ∧ (i = n - k ∨ i + 1 = n - k)) → cAt M i = if i < n - k then cAt L i else blankS p from fun i hi h1 h2 => by
    rw [← hMe, ← hIe, shifts_at HM.out HPM.out hk1 (by rw [HL.out]; exact hk2) (by rw [HL.out]; exact hi) h1 (by rw [HL.out]; exact h2), HL.out])
  have HIN := Lib.hid (show ∀ w', Below w2.heap.size w2 w' → Calls Tryd.prog 23 #[.slice A n c, .int .i64 (a : Int), .int .i64 (k : Int), .agg #[.int .u32 p.fg, .int .u32 p.bg, .int .u8 p.st, .int .u16 p.lk]] w' fun e w'' => ∃ g5 c5, e = .returned (.slice (some ⟨g5, 0, none⟩) n c5) ∧ Vs ceV w'' (some ⟨g5, 0, none⟩) n I ∧ Below w2.heap.size w2 w'' from fun w' hb => by
    refine (insert_at (ok := true) (R := I) (a : Int) (k : Int) p (X2.out.2.2.1.below hb) (X2.out.2.1.below hb (Nat.le_refl _)) (by omega) (by rw [(rowMay_iff L).2 HM.out, HPM.out]; rfl) hIe).mono fun e w'' h => ?_
    obtain ⟨hb2, g5, c5, he, _, _, _, hR⟩ := h.1 rfl
    have h6 := hR.vs
    rw [HI.out.1] at he h6
    exact ⟨g5, c5, he, h6, hb.trans (hb2.mono hb.size)⟩)
  have HDE := Lib.hid (show ∀ (w' : World) (g5 c5 : Nat), Vs ceV w' (some ⟨g5, 0, none⟩) n I → Below w2.heap.size w2 w' → Calls Tryd.prog 22 #[.slice (some ⟨g5, 0, none⟩) n c5, .int .i64 (a : Int), .int .i64 (k : Int), .agg #[.int .u32 p.fg, .int .u32 p.bg, .int .u8 p.st, .int .u16 p.lk]] w' fun e w'' => ∃ g6 c6, e = .returned (.slice (some ⟨g6, 0, none⟩) n c6) ∧ Rw ceV 28 w'' g6 M ∧ Below w2.heap.size w2 w'' from fun w' g5 c5 hv hb => by
    refine (delete_at (ok := true) (R := M) (a : Int) (k : Int) p hv (X2.out.2.1.below hb (Nat.le_refl _)) (by omega) (by rw [(rowMay_iff I).2 HI.out.2.1, HPM.out]; rfl) hMe).mono fun e w'' h => ?_
    obtain ⟨hb2, g5, c5, he, _, _, _, hR⟩ := h.1 rfl
    rw [HI.out.2.2] at he
    exact ⟨g5, c5, he, hR, hb.trans (hb2.mono hb.size)⟩)
  have SX := Lib.hid (show ∀ w', Below w2.heap.size w2 w' → (Below w2.heap.size w2 w' ∧ (w'.cell? ⟨b, 0, none⟩ = some (.slice A n c) ∧ w'.cell? ⟨b + 1, 0, none⟩ = some (.int .u32 p.fg) ∧ w'.cell? ⟨b + 1, 1, none⟩ = some (.int .u32 p.bg) ∧ w'.cell? ⟨b + 1, 2, none⟩ = some (.int .u8 p.st) ∧ w'.cell? ⟨b + 1, 3, none⟩ = some (.int .u16 p.lk))) from fun w' hb => by
    obtain ⟨e0, e1, e2, e3, e4⟩ := X2.out.2.2.2.2.below hb
    exact ⟨hb, (hb.cell (by have := X2.out.2.2.2.2.lt; show b < _; omega)).trans X2.out.2.2.2.1, e0, e1, e2, e3⟩)
  clear hIe hMe
  have hb0 : Below w2.heap.size w2 w2 := Below.refl _ _
  go_wp2_with fail
  go_region_held3 (fun w' => Below w2.heap.size w2 w' ∧ (w'.cell? ⟨b, 0, none⟩ = some (.slice A n c) ∧ w'.cell? ⟨b + 1, 0, none⟩ = some (.int .u32 p.fg) ∧ w'.cell? ⟨b + 1, 1, none⟩ = some (.int .u32 p.bg) ∧ w'.cell? ⟨b + 1, 2, none⟩ = some (.int .u8 p.st) ∧ w'.cell? ⟨b + 1, 3, none⟩ = some (.int .u16 p.lk)))
    ((refine SX.out _ ?_; (try go_split_ands); first | assumption | exact belowN (by assumption) 1))
    ((first
      | (go_at_call 23; (try go_split_ands); refine (HIN.out _ (by assumption)).mono ?_; rintro e w4 ⟨g5, c5, rfl, hv4, hb4⟩)
      | (go_at_call 22; (try go_split_ands); refine (HDE.out _ _ _ hv4 (by assumption)).mono ?_; rintro e w5 ⟨g6, c6, rfl, hR5, hb5⟩)))
  have Y5 := Lib.hid (And.intro hb5 hR5)
  clear hb4 hv4 hb5 hR5 HIN HDE c0 c1 c2 c3 hcb hb0
  obtain ⟨_, hcb, _⟩ := SX.out _ Y5.out.1
  go_wp2_with fail
  refine (fixedC_any (X2.out.2.1.below Y5.out.1 (Nat.le_refl _))).mono ?_
  rintro e w6 ⟨rfl, hb⟩
  have Y := Lib.hid (show Below w2.heap.size w2 w6 ∧ Rw ceV 28 w6 g6 M from ⟨Y5.out.1.trans (hb.mono Y5.out.1.size), Y5.out.2.below hb⟩)
  clear hb Y5 hcb
  obtain ⟨_, hcb, _⟩ := SX.out _ Y.out.1
  go_wp2_with fail
  clear hcb
  obtain ⟨q, hq⟩ : ∃ q : Nat, (n : Int) - (k : Int) = (q : Int) := ⟨n - k, by omega⟩
  have hqn : q + k = n := by omega
  have hqk : n - k = q := by omega
  have HQ := Lib.hid hqk
  clear hqk
  obtain ⟨B1, hB1⟩ : ∃ B, decide ((cAt L a).wd = 2) = B := ⟨_, rfl⟩
  obtain ⟨B2, hB2⟩ : ∃ B, decide ((cAt L q).wd = 2) = B := ⟨_, rfl⟩
  have HB := Lib.hid (And.intro hB1 hB2)
  clear hB1 hB2
  have hmf : ∀ (fn : Fn) (first cap : Array Value) (w : World), (Instr.makeFunc fn first cap).run Tryd.prog w = .ok (.func fn first cap) w := fun _ _ _ _ => rfl
  go_loopw [63] (fun i wr => ∃ j : Nat, j ≤ n ∧ i = .int .i64 j ∧ Below w6.heap.size w6 wr) (fun i _ => n - (intOf i).toNat)
  case atStart => exact ⟨0, Nat.zero_le _, rfl, Below.refl _ _⟩
  case round =>
    obtain ⟨j, hj, rfl, hbw⟩ := hrel
    have Z := Lib.hid (show Below w2.heap.size w2 wr ∧ Rw ceV 28 wr g6 M ∧ Below w6.heap.size w6 wr from ⟨Y.out.1.trans (hbw.mono Y.out.1.size), Y.out.2.below hbw, hbw⟩)
    clear hbw
    obtain ⟨_, hcb, d0, d1, d2, d3⟩ := SX.out _ Z.out.1
    by_cases hlt : j < n
    · have hjl : (j : Int) < (n : Int) := by omega
      have HC1 := Lib.hid (cutAt_any (c := c) (b := b) (k := a) (X2.out.2.2.1.below Z.out.1) hcb (by omega) HB.out.1)
      have HC2 := Lib.hid (cutAt_any (c := c) (b := b) (k := q) (X2.out.2.2.1.below Z.out.1) hcb (by omega) HB.out.2)
      cases B1
      · cases B2
        · have hM := HS.out j hlt (fun e => by have h := HB.out.1; rw [decide_eq_false_iff_not] at h; exact h e.1) (fun e => by have h := HB.out.2; rw [decide_eq_false_iff_not] at h; rw [HQ.out] at e; exact h e.1)
          rw [HQ.out] at hM
          by_cases hja : j < a
          · have hM2 : cAt M j = cAt L j := by rw [hM, if_pos (by omega)]
            have hja2 : (j : Int) < (a : Int) := by omega
            obtain ⟨b0, b1, b2, b3, b4, b5⟩ := Z.out.2.1.six (k := j) (by rw [HI.out.2.2]; exact hlt)
            rw [hM2] at b0 b1 b2 b3 b4 b5
            have hvL := X2.out.2.2.1.below Z.out.1
            obtain ⟨ad, rfl⟩ := hvL.addr (by omega)
            have hadl := hvL.lt (by omega)
            obtain ⟨a0, a1, a2, a3, a4, a5⟩ := hvL.six hlt
            have hq2 : ∀ w, (binOp .neq 28 (.agg (ceA (cAt L j))) (.agg (ceA (cAt L j)))).run Tryd.prog w = .ok (.bool false) w := fun w => by rw [ce_neq]; simp
            have hgd := guardCe
            clear hM hM2 hvL d0 d1 d2 d3
            generalize cAt L j = z at a0 a1 a2 a3 a4 a5 b0 b1 b2 b3 b4 b5 hq2
            unfold ceA at hq2
            go_wp2_with fail
            refine HC1.out.mono ?_
            rintro e w7 ⟨rfl, rfl⟩
            go_wp2_with fail
            refine HC2.out.mono ?_
            rintro e w8 ⟨rfl, rfl⟩
            go_wp2_with fail
            go_quiet (fail)
            go_wp2_with fail
            go_roundw
            case rel => exact ⟨j + 1, by omega, by go_num, belowN Z.out.2.2 _⟩
            case measure => simp [intOf]; omega
          · by_cases hjq : j < q
            · have hM2 : cAt M j = cAt L j := by rw [hM, if_pos (by omega)]
              have hja2 : (a : Int) ≤ (j : Int) := by omega
              have hjq2 : (j : Int) < (q : Int) := by omega
              obtain ⟨b0, b1, b2, b3, b4, b5⟩ := Z.out.2.1.six (k := j) (by rw [HI.out.2.2]; exact hlt)
              rw [hM2] at b0 b1 b2 b3 b4 b5
              have hvL := X2.out.2.2.1.below Z.out.1
              obtain ⟨ad, rfl⟩ := hvL.addr (by omega)
              have hadl := hvL.lt (by omega)
              obtain ⟨a0, a1, a2, a3, a4, a5⟩ := hvL.six hlt
              have hq2 : ∀ w, (binOp .neq 28 (.agg (ceA (cAt L j))) (.agg (ceA (cAt L j)))).run Tryd.prog w = .ok (.bool false) w := fun w => by rw [ce_neq]; simp
              have hgd := guardCe
              clear hM hM2 hvL d0 d1 d2 d3
              generalize cAt L j = z at a0 a1 a2 a3 a4 a5 b0 b1 b2 b3 b4 b5 hq2
              unfold ceA at hq2
              go_wp2_with fail
              refine HC1.out.mono ?_
              rintro e w7 ⟨rfl, rfl⟩
              go_wp2_with fail
              refine HC2.out.mono ?_
              rintro e w8 ⟨rfl, rfl⟩
              go_wp2_with fail
              go_quiet (fail)
              go_wp2_with fail
              go_roundw
              case rel => exact ⟨j + 1, by omega, by go_num, belowN Z.out.2.2 _⟩
              case measure => simp [intOf]; omega
            · have hM2 : cAt M j = blankS p := by rw [hM, if_neg (by omega)]
              have hja2 : (a : Int) ≤ (j : Int) := by omega
              have hjq2 : (q : Int) ≤ (j : Int) := by omega
              have SX2 := Lib.hid (show ∀ w', Below wr.heap.size wr w' → (Below wr.heap.size wr w' ∧ (w'.cell? ⟨g6, j * 6, none⟩ = some (.int .i32 32) ∧ w'.cell? ⟨g6, j * 6 + 1, none⟩ = some (.int .u8 0) ∧ w'.cell? ⟨g6, j * 6 + 2, none⟩ = some (.int .u32 0) ∧ w'.cell? ⟨g6, j * 6 + 3, none⟩ = some (.int .u32 p.bg) ∧ w'.cell? ⟨g6, j * 6 + 4, none⟩ = some (.int .u8 0) ∧ w'.cell? ⟨g6, j * 6 + 5, none⟩ = some (.int .u16 0)) ∧
                  (w'.cell? ⟨b + 1, 0, none⟩ = some (.int .u32 p.fg) ∧ w'.cell? ⟨b + 1, 1, none⟩ = some (.int .u32 p.bg) ∧ w'.cell? ⟨b + 1, 2, none⟩ = some (.int .u8 p.st) ∧ w'.cell? ⟨b + 1, 3, none⟩ = some (.int .u16 p.lk))) from fun w' hb => by
                have h6 := (Z.out.2.1.below hb).six (k := j) (by rw [HI.out.2.2]; exact hlt)
                rw [hM2] at h6
                obtain ⟨_, _, e0, e1, e2, e3⟩ := SX.out _ (Z.out.1.trans (hb.mono Z.out.1.size))
                exact ⟨hb, h6, e0, e1, e2, e3⟩)
              have HBk := Lib.hid (show ∀ w' : World, Below wr.heap.size wr w' → Calls Tryd.prog 16 #[.agg #[.int .u32 p.fg, .int .u32 p.bg, .int .u8 p.st, .int .u16 p.lk]] w' fun e w'' => e = .returned (.agg #[.int .i32 32, .int .u8 0, .int .u32 0, .int .u32 p.bg, .int .u8 0, .int .u16 0]) ∧ Below wr.heap.size wr w'' from fun w' hb => (blank_any p w').mono fun e w'' h => ⟨h.1, hb.trans (h.2.mono hb.size)⟩)
              have hq2 : ∀ w, (binOp .neq 28 (.agg #[.int .i32 32, .int .u8 0, .int .u32 0, .int .u32 p.bg, .int .u8 0, .int .u16 0]) (.agg #[.int .i32 32, .int .u8 0, .int .u32 0, .int .u32 p.bg, .int .u8 0, .int .u16 0])).run Tryd.prog w = .ok (.bool false) w := fun w => (ce_neq (blankS p) (blankS p) w).trans (by simp)
              have hgd := guardCe
              have hb0 : Below wr.heap.size wr wr := Below.refl _ _
              clear hM hM2
              go_wp2_with fail
              refine HC1.out.mono ?_
              rintro e w7 ⟨rfl, rfl⟩
              go_wp2_with fail
              refine HC2.out.mono ?_
              rintro e w8 ⟨rfl, rfl⟩
              go_wp2_with fail
              go_region_held3 (fun w' => Below wr.heap.size wr w' ∧ (w'.cell? ⟨g6, j * 6, none⟩ = some (.int .i32 32) ∧ w'.cell? ⟨g6, j * 6 + 1, none⟩ = some (.int .u8 0) ∧ w'.cell? ⟨g6, j * 6 + 2, none⟩ = some (.int .u32 0) ∧ w'.cell? ⟨g6, j * 6 + 3, none⟩ = some (.int .u32 p.bg) ∧ w'.cell? ⟨g6, j * 6 + 4, none⟩ = some (.int .u8 0) ∧ w'.cell? ⟨g6, j * 6 + 5, none⟩ = some (.int .u16 0)) ∧
                  (w'.cell? ⟨b + 1, 0, none⟩ = some (.int .u32 p.fg) ∧ w'.cell? ⟨b + 1, 1, none⟩ = some (.int .u32 p.bg) ∧ w'.cell? ⟨b + 1, 2, none⟩ = some (.int .u8 p.st) ∧ w'.cell? ⟨b + 1, 3, none⟩ = some (.int .u16 p.lk)))
                ((refine SX2.out _ ?_; (try go_split_ands); first | assumption | exact belowN (by assumption) 1))
                ((first | (go_at_call 16; (try go_split_ands); refine (HBk.out _ (by assumption)).mono ?_; rintro e w9 ⟨rfl, hb9⟩)))
              go_wp2_with fail
              go_roundw
              case rel => exact ⟨j + 1, by omega, by go_num, Z.out.2.2.trans (hb9.mono Z.out.2.2.size)⟩
              case measure => simp [intOf]; omega
        · by_cases hjq0 : j = q
          · have eq1 : ((j : Int) == (q : Int)) = true := by simp; omega
            have eq2 : (j == q) = true := by simp; omega
            go_wp2_with fail
            refine HC1.out.mono ?_
            rintro e w7 ⟨rfl, rfl⟩
            go_wp2_with fail
            refine HC2.out.mono ?_
            rintro e w8 ⟨rfl, rfl⟩
            go_wp2_with fail
            go_roundw
            case rel => exact ⟨j + 1, by omega, by go_num, Z.out.2.2⟩
            case measure => simp [intOf]; omega
          · have eq1 : ((j : Int) == (q : Int)) = false := by simp; omega
            have eq2 : (j == q) = false := by simp; omega
            by_cases hjq1 : j + 1 = q
            · have eq3 : ((j : Int) == (q : Int) - 1) = true := by simp; omega
              go_wp2_with fail
              refine HC1.out.mono ?_
              rintro e w7 ⟨rfl, rfl⟩
              go_wp2_with fail
              refine HC2.out.mono ?_
              rintro e w8 ⟨rfl, rfl⟩
              go_wp2_with fail
              go_roundw
              case rel => exact ⟨j + 1, by omega, by go_num, Z.out.2.2⟩
              case measure => simp [intOf]; omega
            · have eq3 : ((j : Int) == (q : Int) - 1) = false := by simp; omega
              have hM := HS.out j hlt (fun e => by have h := HB.out.1; rw [decide_eq_false_iff_not] at h; exact h e.1) (fun e => by rw [HQ.out] at e; omega)
              rw [HQ.out] at hM
              by_cases hja : j < a
              · have hM2 : cAt M j = cAt L j := by rw [hM, if_pos (by omega)]
                have hja2 : (j : Int) < (a : Int) := by omega
                obtain ⟨b0, b1, b2, b3, b4, b5⟩ := Z.out.2.1.six (k := j) (by rw [HI.out.2.2]; exact hlt)
                rw [hM2] at b0 b1 b2 b3 b4 b5
                have hvL := X2.out.2.2.1.below Z.out.1
                obtain ⟨ad, rfl⟩ := hvL.addr (by omega)
                have hadl := hvL.lt (by omega)
                obtain ⟨a0, a1, a2, a3, a4, a5⟩ := hvL.six hlt
                have hq2 : ∀ w, (binOp .neq 28 (.agg (ceA (cAt L j))) (.agg (ceA (cAt L j)))).run Tryd.prog w = .ok (.bool false) w := fun w => by rw [ce_neq]; simp
                have hgd := guardCe
                clear hM hM2 hvL d0 d1 d2 d3
                generalize cAt L j = z at a0 a1 a2 a3 a4 a5 b0 b1 b2 b3 b4 b5 hq2
                unfold ceA at hq2
                go_wp2_with fail
                refine HC1.out.mono ?_
                rintro e w7 ⟨rfl, rfl⟩
                go_wp2_with fail
                refine HC2.out.mono ?_
                rintro e w8 ⟨rfl, rfl⟩
                go_wp2_with fail
                go_quiet (fail)
                go_wp2_with fail
                go_roundw
                case rel => exact ⟨j + 1, by omega, by go_num, belowN Z.out.2.2 _⟩
                case measure => simp [intOf]; omega
              · by_cases hjq : j < q
                · have hM2 : cAt M j = cAt L j := by rw [hM, if_pos (by omega)]
                  have hja2 : (a : Int) ≤ (j : Int) := by omega
                  have hjq2 : (j : Int) < (q : Int) := by omega
                  obtain ⟨b0, b1, b2, b3, b4, b5⟩ := Z.out.2.1.six (k := j) (by rw [HI.out.2.2]; exact hlt)
                  rw [hM2] at b0 b1 b2 b3 b4 b5
                  have hvL := X2.out.2.2.1.below Z.out.1
                  obtain ⟨ad, rfl⟩ := hvL.addr (by omega)
                  have hadl := hvL.lt (by omega)
                  obtain ⟨a0, a1, a2, a3, a4, a5⟩ := hvL.six hlt
                  have hq2 : ∀ w, (binOp .neq 28 (.agg (ceA (cAt L j))) (.agg (ceA (cAt L j)))).run Tryd.prog w = .ok (.bool false) w := fun w => by rw [ce_neq]; simp
                  have hgd := guardCe
                  clear hM hM2 hvL d0 d1 d2 d3
                  generalize cAt L j = z at a0 a1 a2 a3 a4 a5 b0 b1 b2 b3 b4 b5 hq2
                  unfold ceA at hq2
                  go_wp2_with fail
                  refine HC1.out.mono ?_
                  rintro e w7 ⟨rfl, rfl⟩
                  go_wp2_with fail
                  refine HC2.out.mono ?_
                  rintro e w8 ⟨rfl, rfl⟩
                  go_wp2_with fail
                  go_quiet (fail)
                  go_wp2_with fail
                  go_roundw
                  case rel => exact ⟨j + 1, by omega, by go_num, belowN Z.out.2.2 _⟩
                  case measure => simp [intOf]; omega
                · have hM2 : cAt M j = blankS p := by rw [hM, if_neg (by omega)]
                  have hja2 : (a : Int) ≤ (j : Int) := by omega
                  have hjq2 : (q : Int) ≤ (j : Int) := by omega
                  have SX2 := Lib.hid (show ∀ w', Below wr.heap.size wr w' → (Below wr.heap.size wr w' ∧ (w'.cell? ⟨g6, j * 6, none⟩ = some (.int .i32 32) ∧ w'.cell? ⟨g6, j * 6 + 1, none⟩ = some (.int .u8 0) ∧ w'.cell? ⟨g6, j * 6 + 2, none⟩ = some (.int .u32 0) ∧ w'.cell? ⟨g6, j * 6 + 3, none⟩ = some (.int .u32 p.bg) ∧ w'.cell? ⟨g6, j * 6 + 4, none⟩ = some (.int .u8 0) ∧ w'.cell? ⟨g6, j * 6 + 5, none⟩ = some (.int .u16 0)) ∧
                      (w'.cell? ⟨b + 1, 0, none⟩ = some (.int .u32 p.fg) ∧ w'.cell? ⟨b + 1, 1, none⟩ = some (.int .u32 p.bg) ∧ w'.cell? ⟨b + 1, 2, none⟩ = some (.int .u8 p.st) ∧ w'.cell? ⟨b + 1, 3, none⟩ = some (.int .u16 p.lk))) from fun w' hb => by
                    have h6 := (Z.out.2.1.below hb).six (k := j) (by rw [HI.out.2.2]; exact hlt)
                    rw [hM2] at h6
                    obtain ⟨_, _, e0, e1, e2, e3⟩ := SX.out _ (Z.out.1.trans (hb.mono Z.out.1.size))
                    exact ⟨hb, h6, e0, e1, e2, e3⟩)
                  have HBk := Lib.hid (show ∀ w' : World, Below wr.heap.size wr w' → Calls Tryd.prog 16 #[.agg #[.int .u32 p.fg, .int .u32 p.bg, .int .u8 p.st, .int .u16 p.lk]] w' fun e w'' => e = .returned (.agg #[.int .i32 32, .int .u8 0, .int .u32 0, .int .u32 p.bg, .int .u8 0, .int .u16 0]) ∧ Below wr.heap.size wr w'' from fun w' hb => (blank_any p w').mono fun e w'' h => ⟨h.1, hb.trans (h.2.mono hb.size)⟩)
                  have hq2 : ∀ w, (binOp .neq 28 (.agg #[.int .i32 32, .int .u8 0, .int .u32 0, .int .u32 p.bg, .int .u8 0, .int .u16 0]) (.agg #[.int .i32 32, .int .u8 0, .int .u32 0, .int .u32 p.bg, .int .u8 0, .int .u16 0])).run Tryd.prog w = .ok (.bool false) w := fun w => (ce_neq (blankS p) (blankS p) w).trans (by simp)
                  have hgd := guardCe
                  have hb0 : Below wr.heap.size wr wr := Below.refl _ _
                  clear hM hM2
                  go_wp2_with fail
                  refine HC1.out.mono ?_
                  rintro e w7 ⟨rfl, rfl⟩
                  go_wp2_with fail
                  refine HC2.out.mono ?_
                  rintro e w8 ⟨rfl, rfl⟩
                  go_wp2_with fail
                  go_region_held3 (fun w' => Below wr.heap.size wr w' ∧ (w'.cell? ⟨g6, j * 6, none⟩ = some (.int .i32 32) ∧ w'.cell? ⟨g6, j * 6 + 1, none⟩ = some (.int .u8 0) ∧ w'.cell? ⟨g6, j * 6 + 2, none⟩ = some (.int .u32 0) ∧ w'.cell? ⟨g6, j * 6 + 3, none⟩ = some (.int .u32 p.bg) ∧ w'.cell? ⟨g6, j * 6 + 4, none⟩ = some (.int .u8 0) ∧ w'.cell? ⟨g6, j * 6 + 5, none⟩ = some (.int .u16 0)) ∧
                      (w'.cell? ⟨b + 1, 0, none⟩ = some (.int .u32 p.fg) ∧ w'.cell? ⟨b + 1, 1, none⟩ = some (.int .u32 p.bg) ∧ w'.cell? ⟨b + 1, 2, none⟩ = some (.int .u8 p.st) ∧ w'.cell? ⟨b + 1, 3, none⟩ = some (.int .u16 p.lk)))
                    ((refine SX2.out _ ?_; (try go_split_ands); first | assumption | exact belowN (by assumption) 1))
                    ((first | (go_at_call 16; (try go_split_ands); refine (HBk.out _ (by assumption)).mono ?_; rintro e w9 ⟨rfl, hb9⟩)))
                  go_wp2_with fail
                  go_roundw
                  case rel => exact ⟨j + 1, by omega, by go_num, Z.out.2.2.trans (hb9.mono Z.out.2.2.size)⟩
                  case measure => simp [intOf]; omega
      · by_cases hja0 : j = a
        · have ea1 : ((j : Int) == (a : Int)) = true := by simp; omega
          have ea2 : (j == a) = true := by simp; omega
          go_wp2_with fail
          refine HC1.out.mono ?_
          rintro e w7 ⟨rfl, rfl⟩
          go_wp2_with fail
          go_roundw
          case rel => exact ⟨j + 1, by omega, by go_num, Z.out.2.2⟩
          case measure => simp [intOf]; omega
        · have ea1 : ((j : Int) == (a : Int)) = false := by simp; omega
          have ea2 : (j == a) = false := by simp; omega
          by_cases hja1 : j + 1 = a
          · have ea3 : ((j : Int) == (a : Int) - 1) = true := by simp; omega
            go_wp2_with fail
            refine HC1.out.mono ?_
            rintro e w7 ⟨rfl, rfl⟩
            go_wp2_with fail
            go_roundw
            case rel => exact ⟨j + 1, by omega, by go_num, Z.out.2.2⟩
            case measure => simp [intOf]; omega
          · have ea3 : ((j : Int) == (a : Int) - 1) = false := by simp; omega
            cases B2
            · have hM := HS.out j hlt (fun e => by omega) (fun e => by have h := HB.out.2; rw [decide_eq_false_iff_not] at h; rw [HQ.out] at e; exact h e.1)
              rw [HQ.out] at hM
              by_cases hja : j < a
              · have hM2 : cAt M j = cAt L j := by rw [hM, if_pos (by omega)]
                have hja2 : (j : Int) < (a : Int) := by omega
                obtain ⟨b0, b1, b2, b3, b4, b5⟩ := Z.out.2.1.six (k := j) (by rw [HI.out.2.2]; exact hlt)
                rw [hM2] at b0 b1 b2 b3 b4 b5
                have hvL := X2.out.2.2.1.below Z.out.1
                obtain ⟨ad, rfl⟩ := hvL.addr (by omega)
                have hadl := hvL.lt (by omega)
                obtain ⟨a0, a1, a2, a3, a4, a5⟩ := hvL.six hlt
                have hq2 : ∀ w, (binOp .neq 28 (.agg (ceA (cAt L j))) (.agg (ceA (cAt L j)))).run Tryd.prog w = .ok (.bool false) w := fun w => by rw [ce_neq]; simp
                have hgd := guardCe
                clear hM hM2 hvL d0 d1 d2 d3
                generalize cAt L j = z at a0 a1 a2 a3 a4 a5 b0 b1 b2 b3 b4 b5 hq2
                unfold ceA at hq2
                go_wp2_with fail
                refine HC1.out.mono ?_
                rintro e w7 ⟨rfl, rfl⟩
                go_wp2_with fail
                refine HC2.out.mono ?_
                rintro e w8 ⟨rfl, rfl⟩
                go_wp2_with fail
                go_quiet (fail)
                go_wp2_with fail
                go_roundw
                case rel => exact ⟨j + 1, by omega, by go_num, belowN Z.out.2.2 _⟩
                case measure => simp [intOf]; omega
              · by_cases hjq : j < q
                · have hM2 : cAt M j = cAt L j := by rw [hM, if_pos (by omega)]
                  have hja2 : (a : Int) ≤ (j : Int) := by omega
                  have hjq2 : (j : Int) < (q : Int) := by omega
                  obtain ⟨b0, b1, b2, b3, b4, b5⟩ := Z.out.2.1.six (k := j) (by rw [HI.out.2.2]; exact hlt)
                  rw [hM2] at b0 b1 b2 b3 b4 b5
                  have hvL := X2.out.2.2.1.below Z.out.1
                  obtain ⟨ad, rfl⟩ := hvL.addr (by omega)
                  have hadl := hvL.lt (by omega)
                  obtain ⟨a0, a1, a2, a3, a4, a5⟩ := hvL.six hlt
                  have hq2 : ∀ w, (binOp .neq 28 (.agg (ceA (cAt L j))) (.agg (ceA (cAt L j)))).run Tryd.prog w = .ok (.bool false) w := fun w => by rw [ce_neq]; simp
                  have hgd := guardCe
                  clear hM hM2 hvL d0 d1 d2 d3
                  generalize cAt L j = z at a0 a1 a2 a3 a4 a5 b0 b1 b2 b3 b4 b5 hq2
                  unfold ceA at hq2
                  go_wp2_with fail
                  refine HC1.out.mono ?_
                  rintro e w7 ⟨rfl, rfl⟩
                  go_wp2_with fail
                  refine HC2.out.mono ?_
                  rintro e w8 ⟨rfl, rfl⟩
                  go_wp2_with fail
                  go_quiet (fail)
                  go_wp2_with fail
                  go_roundw
                  case rel => exact ⟨j + 1, by omega, by go_num, belowN Z.out.2.2 _⟩
                  case measure => simp [intOf]; omega
                · have hM2 : cAt M j = blankS p := by rw [hM, if_neg (by omega)]
                  have hja2 : (a : Int) ≤ (j : Int) := by omega
                  have hjq2 : (q : Int) ≤ (j : Int) := by omega
                  have SX2 := Lib.hid (show ∀ w', Below wr.heap.size wr w' → (Below wr.heap.size wr w' ∧ (w'.cell? ⟨g6, j * 6, none⟩ = some (.int .i32 32) ∧ w'.cell? ⟨g6, j * 6 + 1, none⟩ = some (.int .u8 0) ∧ w'.cell? ⟨g6, j * 6 + 2, none⟩ = some (.int .u32 0) ∧ w'.cell? ⟨g6, j * 6 + 3, none⟩ = some (.int .u32 p.bg) ∧ w'.cell? ⟨g6, j * 6 + 4, none⟩ = some (.int .u8 0) ∧ w'.cell? ⟨g6, j * 6 + 5, none⟩ = some (.int .u16 0)) ∧
                      (w'.cell? ⟨b + 1, 0, none⟩ = some (.int .u32 p.fg) ∧ w'.cell? ⟨b + 1, 1, none⟩ = some (.int .u32 p.bg) ∧ w'.cell? ⟨b + 1, 2, none⟩ = some (.int .u8 p.st) ∧ w'.cell? ⟨b + 1, 3, none⟩ = some (.int .u16 p.lk))) from fun w' hb => by
                    have h6 := (Z.out.2.1.below hb).six (k := j) (by rw [HI.out.2.2]; exact hlt)
                    rw [hM2] at h6
                    obtain ⟨_, _, e0, e1, e2, e3⟩ := SX.out _ (Z.out.1.trans (hb.mono Z.out.1.size))
                    exact ⟨hb, h6, e0, e1, e2, e3⟩)
                  have HBk := Lib.hid (show ∀ w' : World, Below wr.heap.size wr w' → Calls Tryd.prog 16 #[.agg #[.int .u32 p.fg, .int .u32 p.bg, .int .u8 p.st, .int .u16 p.lk]] w' fun e w'' => e = .returned (.agg #[.int .i32 32, .int .u8 0, .int .u32 0, .int .u32 p.bg, .int .u8 0, .int .u16 0]) ∧ Below wr.heap.size wr w'' from fun w' hb => (blank_any p w').mono fun e w'' h => ⟨h.1, hb.trans (h.2.mono hb.size)⟩)
                  have hq2 : ∀ w, (binOp .neq 28 (.agg #[.int .i32 32, .int .u8 0, .int .u32 0, .int .u32 p.bg, .int .u8 0, .int .u16 0]) (.agg #[.int .i32 32, .int .u8 0, .int .u32 0, .int .u32 p.bg, .int .u8 0, .int .u16 0])).run Tryd.prog w = .ok (.bool false) w := fun w => (ce_neq (blankS p) (blankS p) w).trans (by simp)
                  have hgd := guardCe
                  have hb0 : Below wr.heap.size wr wr := Below.refl _ _
                  clear hM hM2
                  go_wp2_with fail
                  refine HC1.out.mono ?_
                  rintro e w7 ⟨rfl, rfl⟩
                  go_wp2_with fail
                  refine HC2.out.mono ?_
                  rintro e w8 ⟨rfl, rfl⟩
                  go_wp2_with fail
                  go_region_held3 (fun w' => Below wr.heap.size wr w' ∧ (w'.cell? ⟨g6, j * 6, none⟩ = some (.int .i32 32) ∧ w'.cell? ⟨g6, j * 6 + 1, none⟩ = some (.int .u8 0) ∧ w'.cell? ⟨g6, j * 6 + 2, none⟩ = some (.int .u32 0) ∧ w'.cell? ⟨g6, j * 6 + 3, none⟩ = some (.int .u32 p.bg) ∧ w'.cell? ⟨g6, j * 6 + 4, none⟩ = some (.int .u8 0) ∧ w'.cell? ⟨g6, j * 6 + 5, none⟩ = some (.int .u16 0)) ∧
                      (w'.cell? ⟨b + 1, 0, none⟩ = some (.int .u32 p.fg) ∧ w'.cell? ⟨b + 1, 1, none⟩ = some (.int .u32 p.bg) ∧ w'.cell? ⟨b + 1, 2, none⟩ = some (.int .u8 p.st) ∧ w'.cell? ⟨b + 1, 3, none⟩ = some (.int .u16 p.lk)))
                    ((refine SX2.out _ ?_; (try go_split_ands); first | assumption | exact belowN (by assumption) 1))
                    ((first | (go_at_call 16; (try go_split_ands); refine (HBk.out _ (by assumption)).mono ?_; rintro e w9 ⟨rfl, hb9⟩)))
                  go_wp2_with fail
                  go_roundw
                  case rel => exact ⟨j + 1, by omega, by go_num, Z.out.2.2.trans (hb9.mono Z.out.2.2.size)⟩
                  case measure => simp [intOf]; omega
            · by_cases hjq0 : j = q
              · have eq1 : ((j : Int) == (q : Int)) = true := by simp; omega
                have eq2 : (j == q) = true := by simp; omega
                go_wp2_with fail
                refine HC1.out.mono ?_
                rintro e w7 ⟨rfl, rfl⟩
                go_wp2_with fail
                refine HC2.out.mono ?_
                rintro e w8 ⟨rfl, rfl⟩
                go_wp2_with fail
                go_roundw
                case rel => exact ⟨j + 1, by omega, by go_num, Z.out.2.2⟩
                case measure => simp [intOf]; omega
              · have eq1 : ((j : Int) == (q : Int)) = false := by simp; omega
                have eq2 : (j == q) = false := by simp; omega
                by_cases hjq1 : j + 1 = q
                · have eq3 : ((j : Int) == (q : Int) - 1) = true := by simp; omega
                  go_wp2_with fail
                  refine HC1.out.mono ?_
                  rintro e w7 ⟨rfl, rfl⟩
                  go_wp2_with fail
                  refine HC2.out.mono ?_
                  rintro e w8 ⟨rfl, rfl⟩
                  go_wp2_with fail
                  go_roundw
                  case rel => exact ⟨j + 1, by omega, by go_num, Z.out.2.2⟩
                  case measure => simp [intOf]; omega
                · have eq3 : ((j : Int) == (q : Int) - 1) = false := by simp; omega
                  have hM := HS.out j hlt (fun e => by omega) (fun e => by rw [HQ.out] at e; omega)
                  rw [HQ.out] at hM
                  by_cases hja : j < a
                  · have hM2 : cAt M j = cAt L j := by rw [hM, if_pos (by omega)]
                    have hja2 : (j : Int) < (a : Int) := by omega
                    obtain ⟨b0, b1, b2, b3, b4, b5⟩ := Z.out.2.1.six (k := j) (by rw [HI.out.2.2]; exact hlt)
                    rw [hM2] at b0 b1 b2 b3 b4 b5
                    have hvL := X2.out.2.2.1.below Z.out.1
                    obtain ⟨ad, rfl⟩ := hvL.addr (by omega)
                    have hadl := hvL.lt (by omega)
                    obtain ⟨a0, a1, a2, a3, a4, a5⟩ := hvL.six hlt
                    have hq2 : ∀ w, (binOp .neq 28 (.agg (ceA (cAt L j))) (.agg (ceA (cAt L j)))).run Tryd.prog w = .ok (.bool false) w := fun w => by rw [ce_neq]; simp
                    have hgd := guardCe
                    clear hM hM2 hvL d0 d1 d2 d3
                    generalize cAt L j = z at a0 a1 a2 a3 a4 a5 b0 b1 b2 b3 b4 b5 hq2
                    unfold ceA at hq2
                    go_wp2_with fail
                    refine HC1.out.mono ?_
                    rintro e w7 ⟨rfl, rfl⟩
                    go_wp2_with fail
                    refine HC2.out.mono ?_
                    rintro e w8 ⟨rfl, rfl⟩
                    go_wp2_with fail
                    go_quiet (fail)
                    go_wp2_with fail
                    go_roundw
                    case rel => exact ⟨j + 1, by omega, by go_num, belowN Z.out.2.2 _⟩
                    case measure => simp [intOf]; omega
                  · by_cases hjq : j < q
                    · have hM2 : cAt M j = cAt L j := by rw [hM, if_pos (by omega)]
                      have hja2 : (a : Int) ≤ (j : Int) := by omega
                      have hjq2 : (j : Int) < (q : Int) := by omega
                      obtain ⟨b0, b1, b2, b3, b4, b5⟩ := Z.out.2.1.six (k := j) (by rw [HI.out.2.2]; exact hlt)
                      rw [hM2] at b0 b1 b2 b3 b4 b5
                      have hvL := X2.out.2.2.1.below Z.out.1
                      obtain ⟨ad, rfl⟩ := hvL.addr (by omega)
                      have hadl := hvL.lt (by omega)
                      obtain ⟨a0, a1, a2, a3, a4, a5⟩ := hvL.six hlt
                      have hq2 : ∀ w, (binOp .neq 28 (.agg (ceA (cAt L j))) (.agg (ceA (cAt L j)))).run Tryd.prog w = .ok (.bool false) w := fun w => by rw [ce_neq]; simp
                      have hgd := guardCe
                      clear hM hM2 hvL d0 d1 d2 d3
                      generalize cAt L j = z at a0 a1 a2 a3 a4 a5 b0 b1 b2 b3 b4 b5 hq2
                      unfold ceA at hq2
                      go_wp2_with fail
                      refine HC1.out.mono ?_
                      rintro e w7 ⟨rfl, rfl⟩
                      go_wp2_with fail
                      refine HC2.out.mono ?_
                      rintro e w8 ⟨rfl, rfl⟩
                      go_wp2_with fail
                      go_quiet (fail)
                      go_wp2_with fail
                      go_roundw
                      case rel => exact ⟨j + 1, by omega, by go_num, belowN Z.out.2.2 _⟩
                      case measure => simp [intOf]; omega
                    · have hM2 : cAt M j = blankS p := by rw [hM, if_neg (by omega)]
                      have hja2 : (a : Int) ≤ (j : Int) := by omega
                      have hjq2 : (q : Int) ≤ (j : Int) := by omega
                      have SX2 := Lib.hid (show ∀ w', Below wr.heap.size wr w' → (Below wr.heap.size wr w' ∧ (w'.cell? ⟨g6, j * 6, none⟩ = some (.int .i32 32) ∧ w'.cell? ⟨g6, j * 6 + 1, none⟩ = some (.int .u8 0) ∧ w'.cell? ⟨g6, j * 6 + 2, none⟩ = some (.int .u32 0) ∧ w'.cell? ⟨g6, j * 6 + 3, none⟩ = some (.int .u32 p.bg) ∧ w'.cell? ⟨g6, j * 6 + 4, none⟩ = some (.int .u8 0) ∧ w'.cell? ⟨g6, j * 6 + 5, none⟩ = some (.int .u16 0)) ∧
                          (w'.cell? ⟨b + 1, 0, none⟩ = some (.int .u32 p.fg) ∧ w'.cell? ⟨b + 1, 1, none⟩ = some (.int .u32 p.bg) ∧ w'.cell? ⟨b + 1, 2, none⟩ = some (.int .u8 p.st) ∧ w'.cell? ⟨b + 1, 3, none⟩ = some (.int .u16 p.lk))) from fun w' hb => by
                        have h6 := (Z.out.2.1.below hb).six (k := j) (by rw [HI.out.2.2]; exact hlt)
                        rw [hM2] at h6
                        obtain ⟨_, _, e0, e1, e2, e3⟩ := SX.out _ (Z.out.1.trans (hb.mono Z.out.1.size))
                        exact ⟨hb, h6, e0, e1, e2, e3⟩)
                      have HBk := Lib.hid (show ∀ w' : World, Below wr.heap.size wr w' → Calls Tryd.prog 16 #[.agg #[.int .u32 p.fg, .int .u32 p.bg, .int .u8 p.st, .int .u16 p.lk]] w' fun e w'' => e = .returned (.agg #[.int .i32 32, .int .u8 0, .int .u32 0, .int .u32 p.bg, .int .u8 0, .int .u16 0]) ∧ Below wr.heap.size wr w'' from fun w' hb => (blank_any p w').mono fun e w'' h => ⟨h.1, hb.trans (h.2.mono hb.size)⟩)
                      have hq2 : ∀ w, (binOp .neq 28 (.agg #[.int .i32 32, .int .u8 0, .int .u32 0, .int .u32 p.bg, .int .u8 0, .int .u16 0]) (.agg #[.int .i32 32, .int .u8 0, .int .u32 0, .int .u32 p.bg, .int .u8 0, .int .u16 0])).run Tryd.prog w = .ok (.bool false) w := fun w => (ce_neq (blankS p) (blankS p) w).trans (by simp)
                      have hgd := guardCe
                      have hb0 : Below wr.heap.size wr wr := Below.refl _ _
                      clear hM hM2
                      go_wp2_with fail
                      refine HC1.out.mono ?_
                      rintro e w7 ⟨rfl, rfl⟩
                      go_wp2_with fail
                      refine HC2.out.mono ?_
                      rintro e w8 ⟨rfl, rfl⟩
                      go_wp2_with fail
                      go_region_held3 (fun w' => Below wr.heap.size wr w' ∧ (w'.cell? ⟨g6, j * 6, none⟩ = some (.int .i32 32) ∧ w'.cell? ⟨g6, j * 6 + 1, none⟩ = some (.int .u8 0) ∧ w'.cell? ⟨g6, j * 6 + 2, none⟩ = some (.int .u32 0) ∧ w'.cell? ⟨g6, j * 6 + 3, none⟩ = some (.int .u32 p.bg) ∧ w'.cell? ⟨g6, j * 6 + 4, none⟩ = some (.int .u8 0) ∧ w'.cell? ⟨g6, j * 6 + 5, none⟩ = some (.int .u16 0)) ∧
                          (w'.cell? ⟨b + 1, 0, none⟩ = some (.int .u32 p.fg) ∧ w'.cell? ⟨b + 1, 1, none⟩ = some (.int .u32 p.bg) ∧ w'.cell? ⟨b + 1, 2, none⟩ = some (.int .u8 p.st) ∧ w'.cell? ⟨b + 1, 3, none⟩ = some (.int .u16 p.lk)))
                        ((refine SX2.out _ ?_; (try go_split_ands); first | assumption | exact belowN (by assumption) 1))
                        ((first | (go_at_call 16; (try go_split_ands); refine (HBk.out _ (by assumption)).mono ?_; rintro e w9 ⟨rfl, hb9⟩)))
                      go_wp2_with fail
                      go_roundw
                      case rel => exact ⟨j + 1, by omega, by go_num, Z.out.2.2.trans (hb9.mono Z.out.2.2.size)⟩
                      case measure => simp [intOf]; omega
    · go_wp2_with fail
      go_ret
      exact ⟨rfl, X2.out.1.trans (Z.out.1.mono X2.out.1.size)⟩

set_option maxRecDepth 100000 in
theorem lifted (os : Os) (started : os.Started) (H : Type) (enc : TypeId × Value → H) :
    ReturnsInHanded {} Tryd.checked os 7 .any (fun w args => (Rows.cellShiftsSpec.pre enc Tryd.prog Tryd.f7 [] false w args ∧ laidMetH Tryd.prog laidL w) ∧ sizedMet enc Tryd.prog Tryd.f7 (OpenSpec.ofChange Rows.cellShiftsSpec) false w args)
      (Rows.cellShiftsSpec.post enc Tryd.prog Tryd.f7 false true false false) := by
  refine returnsInHanded_of_change_and (C := Tryd.checked) (X := fun w _ => laidMetH Tryd.prog laidL w) (fun _ _ _ hh h => h.of_heap hh) own started (by kernel_rfl) Tryd.func7
    (ChangeSpec.witness_shaped (enc := enc) (C := Tryd.checked) (os := os) (X := fun w _ => laidMetH Tryd.prog laidL w) false (World.laidAll Tryd.prog os laidL) #[.slice none 0 0, .int .i64 0, .int .i64 0, .agg #[.int .u32 0, .int .u32 0, .int .u8 0, .int .u16 0]] 8 (World.laidAll_os _ _ _) (start_shaped os) (by kernel_rfl) (by kernel_rfl) (by kernel_rfl) (start_met os _)) ?_
  intro W base args ds gs before hval0 hW _ hsz0 hL _
  have hsz : (DataW.weightsEach Tryd.prog (Tryd.f7.params.toList ++ Rows.cellShiftsSpec.plain.varTypes Tryd.prog) (ds ++ gs)).all (· ≤ reachBytes) = true := hsz0
  clear hsz0
  have hval : ∀ (j : Nat) t v, Tryd.f7.params[j]? = some t → args[j]? = some v → Value.okWide Tryd.prog W .any base t v := hval0
  have hW' := hW
  obtain ⟨p, q, hA0, hV, rfl, _, _⟩ := hW
  have hA : DataW.TrodAll enc Tryd.prog W 0 (fun _ => true) true Tryd.f7.params.toList args.toList ds p := hA0
  rw [Tryd.params7] at hA hval hsz
  obtain ⟨v0, vs0, d0, ds0, p0, q0, hargs, rfl, rfl, h0, r0⟩ := trodAll_cons hA
  obtain ⟨v1, vs1, d1, ds1, p1, q1, rfl, rfl, rfl, h1, r1⟩ := trodAll_cons r0
  obtain ⟨v2, vs2, d2, ds2, p2, q2, rfl, rfl, rfl, h2, r2⟩ := trodAll_cons r1
  obtain ⟨v3, vs3, d3, ds3, p3, q3, rfl, rfl, rfl, h3, r3⟩ := trodAll_cons r2
  obtain ⟨rfl, rfl, rfl⟩ := trodAll_nil r3
  obtain rfl : args = #[v0, v1, v2, v3] := by cases args; simp_all
  obtain ⟨rfl, rfl⟩ := trodVars_none hV
  have lt0 : ∀ x ∈ p0, x.block < W.heap.size := by obtain ⟨m, hm⟩ := h0; exact DataW.trod_lt m _ _ _ hm
  obtain ⟨A0, n0, c0, L0, rfl, s0⟩ := open_cells (hval 0 29 v0 rfl rfl) h0
  obtain ⟨a1, rfl, rfl, rfl, w1⟩ := open_int Tryd.underlying3 (hval 1 3 v1 rfl rfl) h1
  obtain ⟨a2, rfl, rfl, rfl, w2⟩ := open_int Tryd.underlying3 (hval 2 3 v2 rfl rfl) h2
  have lt3 : ∀ x ∈ p3, x.block < W.heap.size := by obtain ⟨m, hm⟩ := h3; exact DataW.trod_lt m _ _ _ hm
  obtain ⟨q3, rfl, s3⟩ := open_pen (hval 3 26 v3 rfl rfl) h3
  clear hA0 hval0
  refine (walk W (tabs_of_laid hL) s0 w1 w2 s3).mono fun e W' ⟨he, bel⟩ => ?_
  subst he
  exact ⟨_, rfl, _, _, _, [], _, [], hW', trodAll_mk1 (shut_bool Tryd.underlying4 _), (trodAll_cons_mk (Below.trod laidOut (by kernel_rfl) (of_decide_eq_true (by kernel_rfl)) h0 bel lt0) (trodAll_cons_mk (shut_int Tryd.underlying3 w1) (trodAll_cons_mk (shut_int Tryd.underlying3 w2) (trodAll_cons_mk (Below.trod laidOut (by kernel_rfl) (of_decide_eq_true (by kernel_rfl)) h3 bel lt3) trodAll_mk0)))), rfl, bel.frame _, fun h => by cases h⟩

theorem over : Rows.cellShiftsRow.holds Tryd.pinned (OpenSpec.ofChange Rows.cellShiftsSpec) :=
  OpenClaim.holds_of_wide 7 Tryd.f7 rfl rfl rfl rfl rfl rfl rfl ⟨rfl, rfl, rfl, rfl, rfl⟩ rfl rfl rfl rfl rfl (by kernel_rfl) Tryd.func7 (by kernel_rfl)
    (of_decide_eq_true (by kernel_rfl)) (by unfold Func.isWrapper; first | (rw [if_pos (by decide +kernel)]; kernel_rfl) | (rw [if_neg (by decide +kernel)]; exact ⟨rfl, rfl⟩))
    (fun os started H enc _ => lifted os started H enc)

theorem proved : Rows.CellShiftsCardSaid :=
  Claim7.holds_tied_plain_at .later [] [.data] true Rows.cellShiftsCard.stood.harness false
    over (fun _ h => by cases h) (by kernel_rfl) (fun _ h => by cases h) cellShifts_row_tie rfl ⟨rfl, rfl⟩ (by kernel_rfl) rfl
    (fun f fn hf hfn => by
      obtain rfl : f = 7 := Option.some.inj ((show Tryd.prog.funcNamed "spyglass/spyglasslaw08.CellShifts" = some 7 by kernel_rfl).symm.trans hf) |>.symm
      obtain rfl : fn = Tryd.f7 := (Option.some.inj (Tryd.func7.symm.trans hfn)).symm
      exact ⟨by kernel_rfl, fun j t ht => by
        rw [Tryd.params7] at ht
        have hm : t ∈ [29, 3, 3, 26] := by simpa using Array.mem_of_getElem? ht
        have hall : ([29, 3, 3, 26].all fun u => !Tryd.prog.wantsStandIn u) = true := by kernel_rfl
        exact (show Tryd.prog.wantsStandIn t = false by simpa using List.all_eq_true.1 hall t hm)⟩)
    (by kernel_rfl)
end Go.Proofs.YtaofkipamliijaaDoor.cellShifts
