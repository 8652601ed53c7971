/-
  An act in a block: its fields stored; the reference's Copy of an act.
-/
import Derived.Test.YtappnfifhpmekaaDoorParseMem
import Derived.Test.YtappnfifhpmekaaDoorRecsApp
import Derived.Test.YtappnfifhpmekaaDoorWireLeaf
import Derived.Deep.CutBlock
namespace Go.Proofs.YtappnfifhpmekaaDoor
open Go.RowKit

def ac0 : AcR := ⟨⟨0, 0, 0, 0, [], []⟩, none, 0, 0, none, 0, 0⟩
theorem infoAc : (Tryd.prog.info? 25).map (fun i => (i.zero, i.size, i.bytes)) = some (some (.agg (acA ac0)), 6, 64) := by kernel_rfl
theorem infoAc1 : (Tryd.prog.info? 25).map (·.size) = some 6 := by kernel_rfl
theorem infoInt3 : (Tryd.prog.info? 3).map (fun i => (i.zero, i.size, i.bytes)) = some (some (.int .i64 0), 1, 8) := by kernel_rfl
/-- An act's block, which may be written. -/
abbrev Bx (w : World) (g : Nat) (x : AcR) : Prop := Rw acV 25 w g [x]
theorem Bx.new (w : World) (x : AcR) : Bx (w.alloc (.cells (acA x) 25)) w.heap.size x := made_rw (f := acV) w 25 [x]
theorem bx_cells {w : World} {g : Nat} {x : AcR} (h : Bx w g x) : Sxb w g x :=
  ⟨h.lt, h.cell (j := 0) rfl, h.cell (j := 1) rfl, h.cell (j := 2) rfl, h.cell (j := 3) rfl, h.cell (j := 4) rfl, h.cell (j := 5) rfl⟩
theorem bx_setP {w : World} {g : Nat} {x : AcR} (h : Bx w g x) (P : Option Addr) (np cp : Nat) : Bx (w.setCell ⟨g, 4, none⟩ (.slice P np cp)) g ⟨x.a, P, np, cp, x.T, x.nt, x.ct⟩ := by
  obtain ⟨r, h⟩ := h
  exact ⟨r, by rw [heap_setCell_same w g 4 _ _ _ h]; rfl⟩
theorem bx_setT {w : World} {g : Nat} {x : AcR} (h : Bx w g x) (T : Option Addr) (nt ct : Nat) : Bx (w.setCell ⟨g, 5, none⟩ (.slice T nt ct)) g ⟨x.a, x.P, x.np, x.cp, T, nt, ct⟩ := by
  obtain ⟨r, h⟩ := h
  exact ⟨r, by rw [heap_setCell_same w g 5 _ _ _ h]; rfl⟩
theorem own_ge {w : World} {base : Nat} {e : TypeId} {size : Nat} {A : Option Addr} {n c : Nat} {xs : List Value} (h : w.ownsRow base e size (.slice A n c) n xs) : ∀ ad, A = some ad → base ≤ ad.block := by
  rintro ad rfl
  rcases h.2 with ⟨h1, _⟩ | ⟨g, cap, cur, hv, hb, _⟩
  · cases h1
  · injection hv with hv
    injection hv with hv
    rw [hv]
    exact hb
set_option maxHeartbeats 2000000 in
theorem refCopyA_any {w : World} {x : AcR} (h : RdA w x) (hp : x.np ≤ 1000000) (ht : x.nt ≤ 140737488355328) :
    Calls Tryd.prog 8 #[.agg (acA x)] w fun e w' => ∃ y : AcR, e = .returned (.agg (acA y)) ∧ y.a = x.a ∧ RdA w' y ∧ Below w.heap.size w w' := by
  obtain ⟨a, P, np, cp, T, nt, ct⟩ := x
  obtain ⟨b, hb⟩ : ∃ b, b = w.heap.size := ⟨_, rfl⟩
  have HB := Lib.hid hb
  have H := Lib.hid h
  simp only at hp ht
  have H0 : Hid (Bx ((w.alloc (.cells #[.int .i64 a.k, .int .i32 a.r, .int .u8 a.m, .int .u8 a.fin, .slice P np cp, .slice T nt ct] 25)).alloc (.cells #[.int .i64 0, .int .i32 0, .int .u8 0, .int .u8 0, .slice none 0 0, .slice none 0 0] 25)) b ⟨a, P, np, cp, T, nt, ct⟩ ∧ Bx ((w.alloc (.cells #[.int .i64 a.k, .int .i32 a.r, .int .u8 a.m, .int .u8 a.fin, .slice P np cp, .slice T nt ct] 25)).alloc (.cells #[.int .i64 0, .int .i32 0, .int .u8 0, .int .u8 0, .slice none 0 0, .slice none 0 0] 25)) (b + 1) ac0 ∧ Below w.heap.size w ((w.alloc (.cells #[.int .i64 a.k, .int .i32 a.r, .int .u8 a.m, .int .u8 a.fin, .slice P np cp, .slice T nt ct] 25)).alloc (.cells #[.int .i64 0, .int .i32 0, .int .u8 0, .int .u8 0, .slice none 0 0, .slice none 0 0] 25)) ∧ ((w.alloc (.cells #[.int .i64 a.k, .int .i32 a.r, .int .u8 a.m, .int .u8 a.fin, .slice P np cp, .slice T nt ct] 25)).alloc (.cells #[.int .i64 0, .int .i32 0, .int .u8 0, .int .u8 0, .slice none 0 0, .slice none 0 0] 25)).heap.size = b + 2) := Lib.hid (by
    have h1 := Bx.new w ⟨a, P, np, cp, T, nt, ct⟩
    have h2 := Bx.new (w.alloc (.cells #[.int .i64 a.k, .int .i32 a.r, .int .u8 a.m, .int .u8 a.fin, .slice P np cp, .slice T nt ct] 25)) ac0
    rw [World.size_alloc] at h2
    rw [hb]
    exact ⟨h1.below ((Below.refl _ _).alloc (Nat.le_refl _) _), h2, ((Below.refl _ _).alloc (Nat.le_refl _) _).alloc (by simp) _, by simp⟩)
  clear h hb
  show Calls _ _ #[.agg #[.int .i64 a.k, .int .i32 a.r, .int .u8 a.m, .int .u8 a.fin, .slice P np cp, .slice T nt ct]] w _
  go_enter Tryd.func8, Tryd.ntmps8
  go_upto_region 1 with fail
  rw [← HB.out]
  generalize ((w.alloc (.cells #[.int .i64 a.k, .int .i32 a.r, .int .u8 a.m, .int .u8 a.fin, .slice P np cp, .slice T nt ct] 25)).alloc (.cells #[.int .i64 0, .int .i32 0, .int .u8 0, .int .u8 0, .slice none 0 0, .slice none 0 0] 25)) = w2 at H0 ⊢
  have hs2 : w2.heap.size = b + 2 := H0.out.2.2.2
  have HS2 := Lib.hid hs2
  clear hs2
  obtain ⟨_, _, _, _, _, p4, p5⟩ := bx_cells H0.out.1
  have f4 := H0.out.1.free 4
  have f5 := H0.out.1.free 5
  have HI : Hid (Ik .i64 (w2.alloc (.cells #[] 3)) P np a.ps) := Lib.hid ((H.out.p.below H0.out.2.2.1).below ((Below.refl _ _).alloc (Nat.le_refl _) _))
  go_wp2_with (at_builtin; refine wpList_appI _ rfl _ _ 22 rfl w2.heap.size 3 .i64 8 (by omega) Tryd.underlying22 infoInt3 (.slice (some ⟨w2.heap.size, 0, none⟩) 0 0) 0 [] rfl (World.ownsRow_lit w2 #[] 0 (Nat.le_refl _) (by unfold maxLen; omega) rfl) P np cp np (by omega) a.ps rfl HI.out hp (by simp) ?_; intro P3 cp3 w3 hown hg3; have H3 : Hid (Bx w3 b ⟨a, P, np, cp, T, nt, ct⟩ ∧ Bx w3 (b + 1) ac0 ∧ Below w2.heap.size w2 w3 ∧ Ik .i64 w3 P3 np a.ps ∧ np ≤ cp3 ∧ cp3 ≤ maxLen ∧ ∀ ad, P3 = some ad → w2.heap.size ≤ ad.block) := Lib.hid (by
    have hb3 : Below w2.heap.size w2 w3 := ((Below.refl _ _).alloc (Nat.le_refl _) _).grown hg3 (by simp) (fun k hk => by have : w2.heap.size = k := (by simpa [Value.ownBlock] using hk); omega)
    obtain ⟨A9, c9, e9, l1, l2⟩ := own_shape hown
    injection e9 with _ _ e9
    subst e9
    exact ⟨H0.out.1.below hb3, H0.out.2.1.below hb3, hb3, Ik.own hown, l1, l2, own_ge hown⟩); clear hown hg3 p4 p5 f4 f5; obtain ⟨_, _, _, _, _, p4, p5⟩ := bx_cells H3.out.1; have f4 := H3.out.1.free 4)
  obtain ⟨w4, hw4⟩ : ∃ w4, w4 = w3.setCell ⟨b, 4, none⟩ (.slice P3 np cp3) := ⟨_, rfl⟩
  rw [← hw4]
  have H4 : Hid (Bx w4 b ⟨a, P3, np, cp3, T, nt, ct⟩ ∧ Bx w4 (b + 1) ac0 ∧ Below w.heap.size w w4 ∧ Ik .i64 w4 P3 np a.ps ∧ np ≤ cp3 ∧ cp3 ≤ maxLen ∧ Sb w4 T nt a.tx ∧ b + 2 ≤ w4.heap.size) := Lib.hid (by
    obtain ⟨k1, k2, k3, k4, k5, k6, k7⟩ := H3.out
    have hs2 := HS2.out
    have hbw := HB.out
    have hz3 := k3.size
    have hg4 : w3.grownBy w4 (some b) := by rw [hw4]; exact grownBy_set w3 ⟨b, 4, none⟩ _
    have hz4 := hg4.size
    have hbl : Below w.heap.size w w4 := (H0.out.2.2.1.trans (k3.mono (by omega))).grown hg4 (by omega) (fun k hk => by injection hk with hk; omega)
    exact ⟨by rw [hw4]; exact bx_setP k1 _ _ _, k2.grown hg4 (fun e => by injection e with e; omega), hbl, k4.grown hg4 (fun ad e _ e2 => by injection e2 with e2; have := k7 ad e; omega), k5, k6, H.out.t.below hbl, by omega⟩)
  have H3g := Lib.hid (show ∀ ad, P3 = some ad → b + 2 ≤ ad.block from fun ad e => by have := H3.out.2.2.2.2.2.2 ad e; have := HS2.out; omega)
  clear H3 hw4 p4 p5 f4 HI
  refine (copy_any H4.out.2.2.2.2.2.2.1 ht).mono ?_
  rintro e w5 ⟨g, rfl, hown, hb5⟩
  have H5 : Hid (Bx w5 b ⟨a, P3, np, cp3, T, nt, ct⟩ ∧ Bx w5 (b + 1) ac0 ∧ Below w.heap.size w w5 ∧ Ik .i64 w5 P3 np a.ps ∧ Sb w5 (some ⟨g, 0, none⟩) nt a.tx ∧ b + 2 ≤ g) := Lib.hid (by
    obtain ⟨k1, k2, k3, k4, k5, k6, k7, k8⟩ := H4.out
    have := own_ge hown _ rfl
    exact ⟨k1.below hb5, k2.below hb5, k3.trans (hb5.mono k3.size), k4.below hb5, Sb.own hown, by show b + 2 ≤ g; have h2 : w4.heap.size ≤ g := this; omega⟩)
  have hnt := Lib.hid (own_shape hown)
  clear hown hb5
  obtain ⟨_, p0, p1, p2, p3, p4, p5⟩ := bx_cells H5.out.1
  have f5 := H5.out.1.free 5
  obtain ⟨w6, hw6⟩ : ∃ w6, w6 = w5.setCell ⟨b, 5, none⟩ (.slice (some ⟨g, 0, none⟩) nt nt) := ⟨_, rfl⟩
  have H6 : Hid (Bx w6 (b + 1) ac0 ∧ Below w.heap.size w w6 ∧ Ik .i64 w6 P3 np a.ps ∧ Sb w6 (some ⟨g, 0, none⟩) nt a.tx) := Lib.hid (by
    obtain ⟨k1, k2, k3, k4, k5, k6⟩ := H5.out
    have hbw := HB.out
    have hg6 : w5.grownBy w6 (some b) := by rw [hw6]; exact grownBy_set w5 ⟨b, 5, none⟩ _
    exact ⟨k2.grown hg6 (fun e => by injection e with e; omega), k3.grown hg6 k3.size (fun k hk => by injection hk with hk; omega), k4.grown hg6 (fun ad e _ e2 => by injection e2 with e2; have := H3g.out ad e; omega), k5.grown hg6 (fun ad e _ e2 => by
      injection e2 with e2
      injection e with e
      rw [← e] at e2
      have e3 : b = g := e2
      omega)⟩)
  have HW6 := Lib.hid hw6
  clear hw6
  go_wp2_with (refine wpList_store_V rfl 25 (.tmp 2) (.tmp 12) rfl acV_len one_ac infoAc1 (b + 1) _ 0 ⟨a, P3, np, cp3, some ⟨g, 0, none⟩, nt, nt⟩ _ rfl (by omega) rfl rfl 25 [ac0] (by rw [← HW6.out]; exact H6.out.1) (by decide) ?_; intro w7 hR7 hg7)
  rw [← HW6.out] at hg7
  have H7 : Hid (RdA w7 ⟨a, P3, np, cp3, some ⟨g, 0, none⟩, nt, nt⟩ ∧ Below w.heap.size w w7) := Lib.hid (by
    obtain ⟨k2, k3, k4, k5⟩ := H6.out
    have hbw := HB.out
    obtain ⟨A9, c9, e9, l1, l2⟩ := hnt.out
    injection e9 with _ _ e9
    exact ⟨⟨k4.grown hg7 (fun ad e _ e2 => by injection e2 with e2; have := H3g.out ad e; omega), k5.grown hg7 (fun ad e _ e2 => by
      injection e2 with e2
      injection e with e
      rw [← e] at e2
      have e3 : b + 1 = g := e2
      have := H5.out.2.2.2.2.2
      omega), H4.out.2.2.2.2.1, H4.out.2.2.2.2.2.1, Nat.le_refl _, by rw [e9]; exact l2⟩, k3.grown hg7 k3.size (fun k hk => by injection hk with hk; omega)⟩)
  obtain ⟨_, y0, y1, y2, y3, y4, y5⟩ := bx_cells (x := ⟨a, P3, np, cp3, some ⟨g, 0, none⟩, nt, nt⟩) hR7
  simp only at y0 y1 y2 y3 y4 y5
  exact bodyPost_ret (v := .agg #[.int .i64 a.k, .int .i32 a.r, .int .u8 a.m, .int .u8 a.fin, .slice P3 np cp3, .slice (some ⟨g, 0, none⟩) nt nt]) (by simp [results, Tryd.results8, go_sem, y0, y1, y2, y3, y4, y5]) rfl ⟨_, rfl, rfl, H7.out.1, H7.out.2⟩
end Go.Proofs.YtappnfifhpmekaaDoor
