/-
  cell.hasPlace, cell.writable, cell.cut.
-/
import Derived.Test.YtflnocgahdlojaaDoorCellRowMay
import Derived.Test.YtflnocgahdlojaaDoorCellPure
namespace Go.Proofs.YtflnocgahdlojaaDoor
open Go.RowKit

theorem hasPlace_any {A : Option Addr} {n c : Nat} (x : Int) (w : World) :
    Calls Tryd.prog 67 #[.slice A n c, .int .i64 x] w fun e w' => e = .returned (.bool (decide (0 ≤ x ∧ x < (n : Int)))) ∧ w = w' := by
  by_cases h1 : 0 ≤ x
  · by_cases h2 : x < (n : Int)
    · have hd : decide (0 ≤ x ∧ x < (n : Int)) = true := by simp; omega
      rw [hd]
      clear hd
      go_enter Tryd.func67, Tryd.ntmps67
      go_wp2_with fail
      go_ret
      exact ⟨rfl, rfl⟩
    · have hd : decide (0 ≤ x ∧ x < (n : Int)) = false := by simp; omega
      rw [hd]
      clear hd
      have h3 : (n : Int) ≤ x := by omega
      go_enter Tryd.func67, Tryd.ntmps67
      go_wp2_with fail
      go_ret
      exact ⟨rfl, rfl⟩
  · have hd : decide (0 ≤ x ∧ x < (n : Int)) = false := by simp; omega
    rw [hd]
    clear hd
    have h3 : x < 0 := by omega
    go_enter Tryd.func67, Tryd.ntmps67
    go_wp2_with fail
    go_ret
    exact ⟨rfl, rfl⟩

/-- The four cells of a block that was made of a pen. -/
structure Pen4 (w : World) (b : Nat) (p : Pn) : Prop where
  c0 : w.cell? ⟨b, 0, none⟩ = some (.int .u32 p.fg)
  c1 : w.cell? ⟨b, 1, none⟩ = some (.int .u32 p.bg)
  c2 : w.cell? ⟨b, 2, none⟩ = some (.int .u8 p.st)
  c3 : w.cell? ⟨b, 3, none⟩ = some (.int .u16 p.lk)
  lt : b < w.heap.size
theorem pen4_new (w : World) (p : Pn) (t : TypeId) : Pen4 (w.alloc (.cells (pnA p) t)) w.heap.size p :=
  ⟨cell_of_row _ _ 0 _ _ _ (heap_alloc_new w _), cell_of_row _ _ 1 _ _ _ (heap_alloc_new w _), cell_of_row _ _ 2 _ _ _ (heap_alloc_new w _), cell_of_row _ _ 3 _ _ _ (heap_alloc_new w _), by simp⟩
theorem Pen4.kept {w w' : World} {b : Nat} {p : Pn} (h : Pen4 w b p) (hb : w'.heap[b]? = w.heap[b]?) (hs : w.heap.size ≤ w'.heap.size) : Pen4 w' b p :=
  ⟨(World.cell?_of_block hb).trans h.c0, (World.cell?_of_block hb).trans h.c1, (World.cell?_of_block hb).trans h.c2, (World.cell?_of_block hb).trans h.c3, Nat.lt_of_lt_of_le h.lt hs⟩
theorem Pen4.below {w w' : World} {b : Nat} {p : Pn} (h : Pen4 w b p) (hb : Below w.heap.size w w') : Pen4 w' b p := h.kept (hb.block _ h.lt) hb.size
theorem Pen4.grown {w w' : World} {b : Nat} {p : Pn} (h : Pen4 w b p) {row : Option Nat} (hg : w.grownBy w' row) (hne : row ≠ some b) : Pen4 w' b p := h.kept (hg.block _ h.lt fun e => hne e.symm) hg.size

/-- What writable leaves. -/
def WrPost (L : List Ce) (p : Pn) (w : World) (e : Ending) (w' : World) : Prop :=
  ((rowMay L && penMayS p) = true → MadeC L w e w') ∧ ((rowMay L && penMayS p) = false → e = .returned (.slice none 0 0) ∧ Below w.heap.size w w')
theorem writable_any {w : World} {A : Option Addr} {n c : Nat} {L : List Ce} (p : Pn) (h : Vs ceV w A n L) (hT : Tabs w) (hn : n ≤ 1000000) :
    Calls Tryd.prog 63 #[.slice A n c, .agg (pnA p)] w (WrPost L p w) := by
  have H := Lib.hid (show Vs ceV (w.alloc (.cells (pnA p) 29)) A n L ∧ Tabs (w.alloc (.cells (pnA p) 29)) ∧ Pen4 (w.alloc (.cells (pnA p) 29)) w.heap.size p from ⟨h.alloc _, hT.below ((Below.refl _ _).alloc (Nat.le_refl _) _) (Nat.le_refl _), pen4_new w p _⟩)
  have HL := Lib.hid h.len
  clear h hT
  go_enter Tryd.func63, Tryd.ntmps63
  unfold pnA
  go_wp2_with fail
  refine (rowMay_any H.out.1 H.out.2.1 hn).mono ?_
  rintro e w1 ⟨rfl, hb⟩
  obtain ⟨c0, c1, c2, c3, _⟩ := H.out.2.2.below hb
  have X := Lib.hid (show Below w.heap.size w w1 ∧ Vs ceV w1 A n L from ⟨((Below.refl _ _).alloc (Nat.le_refl _) _).trans (hb.mono (by simp)), H.out.1.below hb⟩)
  clear hb
  obtain ⟨M, hM⟩ : ∃ M, rowMay L = M := ⟨_, rfl⟩
  rw [hM]
  have HM := Lib.hid hM
  clear hM
  cases M
  · have HP : Hid (WrPost L p w (.returned (.slice none 0 0)) w1) := ⟨fun e => (by rw [HM.out] at e; cases e), fun _ => ⟨rfl, X.out.1⟩⟩
    go_wp2_with fail
    go_ret
    exact HP.out
  · go_wp2_with fail
    refine (penMay_any p _).mono ?_
    rintro e w2 ⟨rfl, hb⟩
    have X2 := Lib.hid (show Below w.heap.size w w2 ∧ Vs ceV w2 A n L from ⟨X.out.1.trans (hb.mono X.out.1.size), X.out.2.below hb⟩)
    clear hb c0 c1 c2 c3 X H
    obtain ⟨M, hM⟩ : ∃ M, penMayS p = M := ⟨_, rfl⟩
    rw [hM]
    have HM2 := Lib.hid hM
    clear hM
    cases M
    · have HP : Hid (WrPost L p w (.returned (.slice none 0 0)) w2) := ⟨fun e => (by rw [HM2.out, Bool.and_false] at e; cases e), fun _ => ⟨rfl, X2.out.1⟩⟩
      go_wp2_with fail
      go_ret
      exact HP.out
    · have HN := Lib.hid (show 0 < n from by rw [← HL.out]; exact ((rowMay_iff L).1 HM.out).pos)
      go_wp2_with fail
      refine (cloneC_any X2.out.2 HN.out hn).mono ?_
      rintro e w3 ⟨hb, g, c', rfl, hg, hc1, hc2, hR⟩
      have HP : Hid (WrPost L p w (.returned (.slice (some ⟨g, 0, none⟩) L.length c')) w3) := ⟨fun _ => ⟨X2.out.1.trans (hb.mono X2.out.1.size), g, c', rfl, by have := X2.out.1.size; omega, hc1, hc2, hR⟩, fun e => (by rw [HM.out, HM2.out] at e; cases e)⟩
      clear hb hg hc1 hc2 hR
      go_wp2_with fail
      go_ret
      exact HP.out

theorem Rw.six {w : World} {t : TypeId} {g : Nat} {L : List Ce} (h : Rw ceV t w g L) {k : Nat} (hk : k < L.length) : w.cell? ⟨g, k * 6, none⟩ = some (.int .i32 (cAt L k).r) ∧ w.cell? ⟨g, k * 6 + 1, none⟩ = some (.int .u8 (cAt L k).wd) ∧
    w.cell? ⟨g, k * 6 + 2, none⟩ = some (.int .u32 (cAt L k).p.fg) ∧ w.cell? ⟨g, k * 6 + 3, none⟩ = some (.int .u32 (cAt L k).p.bg) ∧ w.cell? ⟨g, k * 6 + 4, none⟩ = some (.int .u8 (cAt L k).p.st) ∧ w.cell? ⟨g, k * 6 + 5, none⟩ = some (.int .u16 (cAt L k).p.lk) := by
  have h1 := h.get ceV_len (getElem?_cAt hk)
  exact ⟨h1 0 _ rfl, h1 1 _ rfl, h1 2 _ rfl, h1 3 _ rfl, h1 4 _ rfl, h1 5 _ rfl⟩

/-- What cut leaves. -/
def CutPost (L : List Ce) (a g : Nat) (w : World) (e : Ending) (w' : World) : Prop := e = .returned (.tuple #[]) ∧ Rw ceV 41 w' g (cutS L a) ∧ w.grownBy w' (some g)
set_option maxHeartbeats 800000 in
theorem cut_any {w : World} {g n c : Nat} {L : List Ce} (a : Nat) (h : Rw ceV 41 w g L) (hl : L.length = n) (ha : a ≤ 1000000) (hp : a < L.length → (cAt L a).wd = 2 → 0 < a) :
    Calls Tryd.prog 64 #[.slice (some ⟨g, 0, none⟩) n c, .int .i64 (a : Int)] w (CutPost L a g w) := by
  have H := Lib.hid (And.intro h hl)
  by_cases h1 : a < n
  · have ha1 : (a : Int) < (n : Int) := by omega
    have hd : decide (0 ≤ (a : Int) ∧ (a : Int) < (n : Int)) = true := by simp; omega
    obtain ⟨_, b1, b2, b3, b4, b5⟩ := h.six (k := a) (by omega)
    by_cases h2 : (cAt L a).wd = 2
    · rw [h2] at b1
      have h0 := hp (by omega) h2
      obtain ⟨_, _, d2, d3, d4, d5⟩ := h.six (k := a - 1) (by omega)
      have he : cutS L a = (L.set (a - 1) (blankS (cAt L (a - 1)).p)).set a (blankS (cAt L a).p) := by unfold cutS; rw [if_pos ⟨by omega, h2⟩]
      unfold CutPost
      rw [he]
      obtain ⟨x, hx⟩ : ∃ x, x = cAt L a := ⟨_, rfl⟩
      obtain ⟨y, hy⟩ : ∃ y, y = cAt L (a - 1) := ⟨_, rfl⟩
      rw [← hx] at b2 b3 b4 b5 ⊢
      rw [← hy] at d2 d3 d4 d5 ⊢
      have HX := Lib.hid (And.intro hx hy)
      have k1 : (0 : Int) ≤ (a : Int) - 1 := by omega
      have k2 : ((a : Int) - 1).toNat = a - 1 := by omega
      have k3 : (a : Int) - 1 < (n : Int) := by omega
      clear hx hy he h hl hp h2 h0 b2 b3 b4 b5
      go_enter Tryd.func64, Tryd.ntmps64
      go_wp2_with fail
      refine (hasPlace_any (a : Int) w).mono ?_
      rintro e w1 ⟨rfl, rfl⟩
      rw [hd]
      clear hd
      go_wp2_with fail
      refine (blank_any y.p w).mono ?_
      rintro e w1 ⟨rfl, hb⟩
      have hR := H.out.1.below hb
      have Y := Lib.hid (show w.grownBy w1 (some g) from grownBy_below hb)
      clear hb b1 d2 d3 d4 d5
      have HF := Lib.hid (show ∀ w2, Rw ceV 41 w2 g (L.set (a - 1) (blankS y.p)) → (w2.cell? ⟨g, a * 6 + 2, none⟩ = some (.int .u32 x.p.fg) ∧ w2.cell? ⟨g, a * 6 + 3, none⟩ = some (.int .u32 x.p.bg) ∧ w2.cell? ⟨g, a * 6 + 4, none⟩ = some (.int .u8 x.p.st) ∧ w2.cell? ⟨g, a * 6 + 5, none⟩ = some (.int .u16 x.p.lk)) from fun w2 hR2 => by
        have h6 := hR2.six (k := a) (by rw [List.length_set]; have := H.out.2; omega)
        rw [cAt_set, if_neg (by omega), ← HX.out.1] at h6
        exact ⟨h6.2.2.1, h6.2.2.2.1, h6.2.2.2.2.1, h6.2.2.2.2.2⟩)
      go_wp2_with (refine wpList_store_V rfl 41 (.tmp 25) (.tmp 24) rfl ceV_len one_ce infoCe g _ (a - 1) (blankS y.p) _ rfl rfl rfl rfl 41 L hR (by have := H.out.2; omega) ?_; intro w2 hR2 hg2; obtain ⟨e2, e3, e4, e5⟩ := HF.out _ hR2)
      have Y2 := Lib.hid (Y.out.trans hg2)
      clear hR hg2 Y
      refine (blank_any x.p w2).mono ?_
      rintro e w3 ⟨rfl, hb⟩
      have hR3 := hR2.below hb
      have Y3 := Lib.hid (show w.grownBy w3 (some g) from Y2.out.trans (grownBy_below hb))
      clear hb e2 e3 e4 e5 Y2 HF hR2
      go_wp2_with (refine wpList_store_V rfl 41 (.tmp 34) (.tmp 33) rfl ceV_len one_ce infoCe g _ a (blankS x.p) _ rfl rfl rfl rfl 41 _ hR3 (by rw [List.length_set]; have := H.out.2; omega) ?_; intro w4 hR4 hg4)
      have Y4 := Lib.hid (Y3.out.trans hg4)
      go_end0
      exact ⟨rfl, hR4, Y4.out⟩
    · have t2 : ((cAt L a).wd == 2) = false := by simpa using h2
      have he : cutS L a = L := by unfold cutS; rw [if_neg (fun e => h2 e.2)]
      unfold CutPost
      rw [he]
      generalize (cAt L a).wd = V at b1 h2 t2
      clear he h hl hp h2 b2 b3 b4 b5
      go_enter Tryd.func64, Tryd.ntmps64
      go_wp2_with fail
      refine (hasPlace_any (a : Int) w).mono ?_
      rintro e w1 ⟨rfl, rfl⟩
      rw [hd]
      clear hd
      go_wp2_with fail
      go_end0
      exact ⟨rfl, H.out.1, World.grownBy.refl _ _⟩
  · have hd : decide (0 ≤ (a : Int) ∧ (a : Int) < (n : Int)) = false := by simp; omega
    have he : cutS L a = L := by unfold cutS; rw [if_neg (fun e => by omega)]
    unfold CutPost
    rw [he]
    clear he h hl hp
    go_enter Tryd.func64, Tryd.ntmps64
    go_wp2_with fail
    refine (hasPlace_any (a : Int) w).mono ?_
    rintro e w1 ⟨rfl, rfl⟩
    rw [hd]
    clear hd
    go_wp2_with fail
    go_end0
    exact ⟨rfl, H.out.1, World.grownBy.refl _ _⟩
end Go.Proofs.YtflnocgahdlojaaDoor
