/-
  Part 17 of what the laws of emul want: ProjPen.
-/
import Derived.Deep.RegionWith
import Derived.Deep.RegionHeld3
import Derived.Deep.DeepCutAuto
import Derived.Test.YtojchkhnalnncaaDoorPj16
namespace Go.Proofs.YtojchkhnalnncaaDoor
open Go.RowKit
theorem meetP_end {J K' : Act → World → Prop} {R : Act → World → Prop} {Q' : Exit → Act → World → Prop} {a : Act} {w : World} (h2 : ∀ a' w', Met J a' w' → K' a' w') (h1 : ∀ a' w', R a' w' → J a' w') (h : R a w) : Exit.then K' Q' .normal a w := h2 _ _ (h1 _ _ h)
def pnL (p : Pn) : List Value := [.int .u32 p.fg, .int .u32 p.bg, .int .u8 p.st, .int .u16 p.lk]
theorem pnL_len (p : Pn) : (pnL p).length = 4 := rfl
theorem one_pnL (L : List Pn) : ∀ v ∈ rowV pnL L, v.oneCell' = true := by
 induction L with
 | nil => intro v hv; cases hv
 | cons c L ih =>
  intro v hv
  simp only [rowV, List.mem_append] at hv
  rcases hv with hv | hv
  · simp only [pnL, List.mem_cons, List.not_mem_nil, or_false] at hv
    rcases hv with rfl | rfl | rfl | rfl <;> rfl
  · exact ih v hv
theorem infoPn2 : (Tryd.prog.info? 35).map (·.size) = some 4 := by kernel_rfl
abbrev Pb (w : World) (g : Nat) (p : Pn) : Prop := Rw pnL 35 w g [p]
theorem Pb.new (w : World) (p : Pn) : Pb (w.alloc (.cells (pnA p) 35)) w.heap.size p := made_rw (f := pnL) w 35 [p]
theorem Pb.set0 {w : World} {g : Nat} {p : Pn} (h : Pb w g p) (z : Int) : Pb (w.setCell ⟨g, 0, none⟩ (.int .u32 z)) g { p with fg := z } := by
 obtain ⟨r, h⟩ := h
 exact ⟨r, by rw [heap_setCell_same w g 0 _ _ _ h]; rfl⟩
theorem Pb.set1 {w : World} {g : Nat} {p : Pn} (h : Pb w g p) (z : Int) : Pb (w.setCell ⟨g, 1, none⟩ (.int .u32 z)) g { p with bg := z } := by
 obtain ⟨r, h⟩ := h
 exact ⟨r, by rw [heap_setCell_same w g 1 _ _ _ h]; rfl⟩
theorem Pb.set3 {w : World} {g : Nat} {p : Pn} (h : Pb w g p) (z : Int) : Pb (w.setCell ⟨g, 3, none⟩ (.int .u16 z)) g { p with lk := z } := by
 obtain ⟨r, h⟩ := h
 exact ⟨r, by rw [heap_setCell_same w g 3 _ _ _ h]; rfl⟩
theorem Pb.fg {w : World} {g : Nat} {p : Pn} (h : Pb w g p) : w.cell? ⟨g, 0, none⟩ = some (.int .u32 p.fg) := h.cell (j := 0) rfl
theorem Pb.bg {w : World} {g : Nat} {p : Pn} (h : Pb w g p) : w.cell? ⟨g, 1, none⟩ = some (.int .u32 p.bg) := h.cell (j := 1) rfl
theorem Pb.st {w : World} {g : Nat} {p : Pn} (h : Pb w g p) : w.cell? ⟨g, 2, none⟩ = some (.int .u8 p.st) := h.cell (j := 2) rfl
theorem Pb.lk {w : World} {g : Nat} {p : Pn} (h : Pb w g p) : w.cell? ⟨g, 3, none⟩ = some (.int .u16 p.lk) := h.cell (j := 3) rfl
structure Pp (w w1 : World) (b : Nat) (p q : Pn) : Prop where
 b1 : Pb w1 b p
 b2 : Pb w1 (b + 1) q
 bel : Below w.heap.size w w1
 lo : w.heap.size ≤ b
theorem Pp.on {w w1 w2 : World} {b : Nat} {p q : Pn} (h : Pp w w1 b p q) (hb : Below w1.heap.size w1 w2) : Pp w w2 b p q := ⟨h.b1.below hb, h.b2.below hb, h.bel.trans (hb.mono h.bel.size), h.lo⟩
theorem Pp.set {w w1 w2 : World} {b k : Nat} {v : Value} {p p' q : Pn} (h : Pp w w1 b p q) (e : w2 = w1.setCell ⟨b, k, none⟩ v) (h' : Pb w2 b p') : Pp w w2 b p' q := by
 have hg : w1.grownBy w2 (some b) := by rw [e]; exact grownBy_set w1 ⟨b, k, none⟩ v
 exact ⟨h', h.b2.grown hg (by intro e; injection e with e; omega), h.bel.grown hg h.bel.size (fun k hk => by injection hk with hk; have := h.lo; omega), h.lo⟩
set_option maxHeartbeats 6400000 in
set_option maxRecDepth 100000 in
theorem penBy_any {p : Pn} {f : Int} {w : World} (hT : CTabs w) (hp : 0 ≤ p.fg ∧ 0 ≤ p.bg) (hf : 0 ≤ f ∧ f < 4294967296) :
  Calls Tryd.prog 37 #[.agg (pnA p), .int .u32 f] w fun e w' => e = .returned (.agg (pnA (penP f p))) ∧ Below w.heap.size w w' := by
 have HP := Lib.hid hp
 have HF := Lib.hid hf
 have HL := Lib.hid (fun w => lacks_any (has8 hf) (by omega) w)
 obtain ⟨C, hC⟩ : ∃ C, penP f p = C := ⟨_, rfl⟩
 rw [hC]
 have HC := Lib.hid hC
 obtain ⟨b, hb⟩ : ∃ b, b = w.heap.size := ⟨_, rfl⟩
 obtain ⟨w1, hw1⟩ : ∃ w1, w1 = (w.alloc (.cells (pnA p) 35)).alloc (.cells (pnA pn0) 35) := ⟨_, rfl⟩
 have H0 := Lib.hid (show Pp w w1 b p pn0 from by
  have h1 := Pb.new w p
  have h2 := Pb.new (w.alloc (.cells (pnA p) 35)) pn0
  rw [World.size_alloc] at h2
  rw [hb, hw1]
  exact ⟨h1.below ((Below.refl _ _).alloc (Nat.le_refl _) _), h2, ((Below.refl _ _).alloc (Nat.le_refl _) _).alloc (by simp) _, Nat.le_refl _⟩)
 have HT := Lib.hid (fun w' (hb' : Below w.heap.size w w') => hT.below hb' (Nat.le_refl _))
 have HS := Lib.hid (And.intro (fit_pos (f := f) HP.out.1) (fit_pos (f := f) HP.out.2))
 clear hT hp hf hC
 obtain ⟨fg, bg, st, lk⟩ := p
 dsimp only at HP HS
 unfold pnA at hw1 ⊢
 unfold pn0 at hw1
 dsimp only at hw1 ⊢
 go_enter Tryd.func37, Tryd.ntmps37
 go_upto_region 1 with fail
 rw [← hw1, ← hb]
 clear hw1 hb
 go_cut [] from 5 to 14 (fun wc => Pp w wc b ⟨fitS fg f, fitS bg f, st, lk⟩ pn0)
 case first =>
  refine wp_region_noPanic ?_
  refine wp_region_held_drew (S := fun _ => True) (by kernel_rfl) trivial (fun hHeld => ?_)
  have H1 := Lib.hid (H0.out.on (Below.refl _ _).drew)
  generalize w1.drew = w2 at H1 ⊢
  have c0 := H1.out.b1.fg
  have c1 := H1.out.b1.bg
  dsimp only at c0 c1
  refine wpAnyH_take (i := 0) (v := .pointer (some ⟨b, 0, none⟩)) rfl (by kernel_rfl) (by kernel_rfl) (by kernel_rfl) (fun _ _ _ h => h) (Or.inl ⟨by rfl, fun wz hSz => ?_⟩) hHeld ?_
  · go_simp
  simp only [Act.put, List.getElem_toArray, List.getElem_cons_zero]
  try simp only [List.setIfInBounds_toArray]
  try simp only [List.set_cons_succ]
  try simp only [List.set_cons_zero]
  refine wpAnyH_take (i := 2) (v := .int .u32 f) rfl (by kernel_rfl) (by kernel_rfl) (by kernel_rfl) (fun _ _ _ h => h) (Or.inl ⟨by rfl, fun wz hSz => ?_⟩) hHeld ?_
  · go_simp
  simp only [Act.put, List.getElem_toArray, List.getElem_cons_succ, List.getElem_cons_zero]
  try simp only [List.setIfInBounds_toArray]
  try simp only [List.set_cons_succ]
  try simp only [List.set_cons_zero]
  refine wpAnyH_take (i := 4) (v := .pointer (some ⟨b, 1, none⟩)) rfl (by kernel_rfl) (by kernel_rfl) (by kernel_rfl) (fun _ _ _ h => h) (Or.inl ⟨by rfl, fun wz hSz => ?_⟩) hHeld ?_
  · go_simp
  simp only [Act.put, List.getElem_toArray, List.getElem_cons_succ, List.getElem_cons_zero]
  try simp only [List.setIfInBounds_toArray]
  try simp only [List.set_cons_succ]
  try simp only [List.set_cons_zero]
  refine wpAnyH_take (i := 6) (v := .int .u32 f) rfl (by kernel_rfl) (by kernel_rfl) (by kernel_rfl) (fun _ _ _ h => h) (Or.inl ⟨by rfl, fun wz hSz => ?_⟩) hHeld ?_
  · go_simp
  simp only [Act.put, List.getElem_toArray, List.getElem_cons_succ, List.getElem_cons_zero]
  try simp only [List.setIfInBounds_toArray]
  try simp only [List.set_cons_succ]
  try simp only [List.set_cons_zero]
  refine wpAnyH_ready (rs := [1, 5]) (by kernel_rfl) (by simp) (AllReadyH.cons rfl (fun K hK => ?_) (AllReadyH.cons rfl (fun K hK => ?_) AllReadyH.nil))
  · rw [if_pos (by rfl)]
    go_simp
    refine hK.out _ _ trivial (fun hHeld => ?_)
    clear hK K
    try simp only [Act.put, List.getElem_toArray, List.getElem_cons_succ, List.getElem_cons_zero]
    try simp only [List.setIfInBounds_toArray]
    try simp only [List.set_cons_succ]
    try simp only [List.set_cons_zero]
    refine wpAnyH_ready (rs := [3, 5]) (by kernel_rfl) (by simp) (AllReadyH.cons rfl (fun K hK => ?_) (AllReadyH.cons rfl (fun K hK => ?_) AllReadyH.nil))
    · rw [if_pos (by rfl)]
      go_simp
      refine (fit_any (HT.out _ H1.out.bel) HP.out.1 HF.out.1 HF.out.2).mono ?_
      rintro e w3 ⟨rfl, hb⟩
      have H3 := Lib.hid (H1.out.on hb)
      clear hb c0 c1
      have c1 := H3.out.b1.bg
      dsimp only at c1
      refine hK.out _ _ trivial (fun hHeld => ?_)
      clear hK K
      try simp only [Act.put, List.getElem_toArray, List.getElem_cons_succ, List.getElem_cons_zero]
      try simp only [List.setIfInBounds_toArray]
      try simp only [List.set_cons_succ]
      try simp only [List.set_cons_zero]
      refine wpAnyH_ready (rs := [5]) (by kernel_rfl) (by simp) (AllReadyH.cons rfl (fun K hK => ?_) AllReadyH.nil)
      rw [if_pos (by rfl)]
      go_simp
      refine hK.out _ _ trivial (fun hHeld => ?_)
      clear hK K
      try simp only [Act.put, List.getElem_toArray, List.getElem_cons_succ, List.getElem_cons_zero]
      try simp only [List.setIfInBounds_toArray]
      try simp only [List.set_cons_succ]
      try simp only [List.set_cons_zero]
      refine wpAnyH_take (i := 8) (v := .pointer (some ⟨b, 0, none⟩)) rfl (by kernel_rfl) (by kernel_rfl) (by kernel_rfl) (fun _ _ _ h => h) (Or.inl ⟨by rfl, fun wz hSz => ?_⟩) hHeld ?_
      · go_simp
      simp only [Act.put, List.getElem_toArray, List.getElem_cons_succ, List.getElem_cons_zero]
      try simp only [List.setIfInBounds_toArray]
      try simp only [List.set_cons_succ]
      try simp only [List.set_cons_zero]
      refine wpAnyH_ready (rs := [7]) (by kernel_rfl) (by simp) (AllReadyH.cons rfl (fun K hK => ?_) AllReadyH.nil)
      rw [if_pos (by rfl)]
      go_simp
      refine (fit_any (HT.out _ H3.out.bel) HP.out.2 HF.out.1 HF.out.2).mono ?_
      rintro e w4 ⟨rfl, hb⟩
      have H4 := Lib.hid (H3.out.on hb)
      clear hb c1
      have f0 := H4.out.b1.free 0
      have d0 := H4.out.b1.fg
      dsimp only at d0
      have H5 := Lib.hid (H4.out.set rfl (H4.out.b1.set0 (fitS fg f)))
      have f1 := H5.out.b1.free 1
      have d1 := H5.out.b1.bg
      dsimp only at d1
      have H6 := Lib.hid (H5.out.set rfl (H5.out.b1.set1 (fitS bg f)))
      refine hK.out _ _ trivial (fun hHeld => ?_)
      clear hK K
      try simp only [Act.put, List.getElem_toArray, List.getElem_cons_succ, List.getElem_cons_zero]
      try simp only [List.setIfInBounds_toArray]
      try simp only [List.set_cons_succ]
      try simp only [List.set_cons_zero]
      refine wpAnyH_ready (rs := [9]) (by kernel_rfl) (by simp) (AllReadyH.cons rfl (fun K hK => ?_) AllReadyH.nil)
      rw [if_pos (by rfl)]
      go_simp
      refine hK.out _ _ trivial (fun hHeld => ?_)
      clear hK K
      try simp only [Act.put, List.getElem_toArray, List.getElem_cons_succ, List.getElem_cons_zero]
      try simp only [List.setIfInBounds_toArray]
      try simp only [List.set_cons_succ]
      try simp only [List.set_cons_zero]
      refine wpAnyH_take (i := 10) (v := .pointer (some ⟨b, 1, none⟩)) rfl (by kernel_rfl) (by kernel_rfl) (by kernel_rfl) (fun _ _ _ h => h) (Or.inl ⟨by rfl, fun wz hSz => ?_⟩) hHeld ?_
      · go_simp
      simp only [Act.put, List.getElem_toArray, List.getElem_cons_succ, List.getElem_cons_zero]
      try simp only [List.setIfInBounds_toArray]
      try simp only [List.set_cons_succ]
      try simp only [List.set_cons_zero]
      refine wpAnyH_ready (rs := [11]) (by kernel_rfl) (by simp) (AllReadyH.cons rfl (fun K hK => ?_) AllReadyH.nil)
      rw [if_pos (by rfl)]
      go_simp
      refine hK.out _ _ trivial (fun hHeld => ?_)
      clear hK K
      try simp only [Act.put, List.getElem_toArray, List.getElem_cons_succ, List.getElem_cons_zero]
      try simp only [List.setIfInBounds_toArray]
      try simp only [List.set_cons_succ]
      try simp only [List.set_cons_zero]
      refine wpAnyH_done (by kernel_rfl) ?_ _
      refine NoPanic.normal ?_
      refine meetP_end (by assumption) (by assumption) ?_
      (repeat apply Exists.intro)
      refine ⟨?rel, rfl⟩
      case rel => exact H6.out
    · rw [if_pos (by rfl)]
      go_simp
      refine hK.out _ _ trivial (fun hHeld => ?_)
      clear hK K
      try simp only [Act.put, List.getElem_toArray, List.getElem_cons_succ, List.getElem_cons_zero]
      try simp only [List.setIfInBounds_toArray]
      try simp only [List.set_cons_succ]
      try simp only [List.set_cons_zero]
      refine wpAnyH_ready (rs := [3]) (by kernel_rfl) (by simp) (AllReadyH.cons rfl (fun K hK => ?_) AllReadyH.nil)
      rw [if_pos (by rfl)]
      go_simp
      refine (fit_any (HT.out _ H1.out.bel) HP.out.1 HF.out.1 HF.out.2).mono ?_
      rintro e w3 ⟨rfl, hb⟩
      have H3 := Lib.hid (H1.out.on hb)
      clear hb c0 c1
      have c1 := H3.out.b1.bg
      dsimp only at c1
      refine hK.out _ _ trivial (fun hHeld => ?_)
      clear hK K
      try simp only [Act.put, List.getElem_toArray, List.getElem_cons_succ, List.getElem_cons_zero]
      try simp only [List.setIfInBounds_toArray]
      try simp only [List.set_cons_succ]
      try simp only [List.set_cons_zero]
      refine wpAnyH_take (i := 8) (v := .pointer (some ⟨b, 0, none⟩)) rfl (by kernel_rfl) (by kernel_rfl) (by kernel_rfl) (fun _ _ _ h => h) (Or.inl ⟨by rfl, fun wz hSz => ?_⟩) hHeld ?_
      · go_simp
      simp only [Act.put, List.getElem_toArray, List.getElem_cons_succ, List.getElem_cons_zero]
      try simp only [List.setIfInBounds_toArray]
      try simp only [List.set_cons_succ]
      try simp only [List.set_cons_zero]
      refine wpAnyH_ready (rs := [7]) (by kernel_rfl) (by simp) (AllReadyH.cons rfl (fun K hK => ?_) AllReadyH.nil)
      rw [if_pos (by rfl)]
      go_simp
      refine (fit_any (HT.out _ H3.out.bel) HP.out.2 HF.out.1 HF.out.2).mono ?_
      rintro e w4 ⟨rfl, hb⟩
      have H4 := Lib.hid (H3.out.on hb)
      clear hb c1
      have f0 := H4.out.b1.free 0
      have d0 := H4.out.b1.fg
      dsimp only at d0
      have H5 := Lib.hid (H4.out.set rfl (H4.out.b1.set0 (fitS fg f)))
      have f1 := H5.out.b1.free 1
      have d1 := H5.out.b1.bg
      dsimp only at d1
      have H6 := Lib.hid (H5.out.set rfl (H5.out.b1.set1 (fitS bg f)))
      refine hK.out _ _ trivial (fun hHeld => ?_)
      clear hK K
      try simp only [Act.put, List.getElem_toArray, List.getElem_cons_succ, List.getElem_cons_zero]
      try simp only [List.setIfInBounds_toArray]
      try simp only [List.set_cons_succ]
      try simp only [List.set_cons_zero]
      refine wpAnyH_ready (rs := [9]) (by kernel_rfl) (by simp) (AllReadyH.cons rfl (fun K hK => ?_) AllReadyH.nil)
      rw [if_pos (by rfl)]
      go_simp
      refine hK.out _ _ trivial (fun hHeld => ?_)
      clear hK K
      try simp only [Act.put, List.getElem_toArray, List.getElem_cons_succ, List.getElem_cons_zero]
      try simp only [List.setIfInBounds_toArray]
      try simp only [List.set_cons_succ]
      try simp only [List.set_cons_zero]
      refine wpAnyH_take (i := 10) (v := .pointer (some ⟨b, 1, none⟩)) rfl (by kernel_rfl) (by kernel_rfl) (by kernel_rfl) (fun _ _ _ h => h) (Or.inl ⟨by rfl, fun wz hSz => ?_⟩) hHeld ?_
      · go_simp
      simp only [Act.put, List.getElem_toArray, List.getElem_cons_succ, List.getElem_cons_zero]
      try simp only [List.setIfInBounds_toArray]
      try simp only [List.set_cons_succ]
      try simp only [List.set_cons_zero]
      refine wpAnyH_ready (rs := [11]) (by kernel_rfl) (by simp) (AllReadyH.cons rfl (fun K hK => ?_) AllReadyH.nil)
      rw [if_pos (by rfl)]
      go_simp
      refine hK.out _ _ trivial (fun hHeld => ?_)
      clear hK K
      try simp only [Act.put, List.getElem_toArray, List.getElem_cons_succ, List.getElem_cons_zero]
      try simp only [List.setIfInBounds_toArray]
      try simp only [List.set_cons_succ]
      try simp only [List.set_cons_zero]
      refine wpAnyH_done (by kernel_rfl) ?_ _
      refine NoPanic.normal ?_
      refine meetP_end (by assumption) (by assumption) ?_
      (repeat apply Exists.intro)
      refine ⟨?rel, rfl⟩
      case rel => exact H6.out
  · rw [if_pos (by rfl)]
    go_simp
    refine hK.out _ _ trivial (fun hHeld => ?_)
    clear hK K
    try simp only [Act.put, List.getElem_toArray, List.getElem_cons_succ, List.getElem_cons_zero]
    try simp only [List.setIfInBounds_toArray]
    try simp only [List.set_cons_succ]
    try simp only [List.set_cons_zero]
    refine wpAnyH_ready (rs := [1]) (by kernel_rfl) (by simp) (AllReadyH.cons rfl (fun K hK => ?_) AllReadyH.nil)
    rw [if_pos (by rfl)]
    go_simp
    refine hK.out _ _ trivial (fun hHeld => ?_)
    clear hK K
    try simp only [Act.put, List.getElem_toArray, List.getElem_cons_succ, List.getElem_cons_zero]
    try simp only [List.setIfInBounds_toArray]
    try simp only [List.set_cons_succ]
    try simp only [List.set_cons_zero]
    refine wpAnyH_ready (rs := [3]) (by kernel_rfl) (by simp) (AllReadyH.cons rfl (fun K hK => ?_) AllReadyH.nil)
    rw [if_pos (by rfl)]
    go_simp
    refine (fit_any (HT.out _ H1.out.bel) HP.out.1 HF.out.1 HF.out.2).mono ?_
    rintro e w3 ⟨rfl, hb⟩
    have H3 := Lib.hid (H1.out.on hb)
    clear hb c0 c1
    have c1 := H3.out.b1.bg
    dsimp only at c1
    refine hK.out _ _ trivial (fun hHeld => ?_)
    clear hK K
    try simp only [Act.put, List.getElem_toArray, List.getElem_cons_succ, List.getElem_cons_zero]
    try simp only [List.setIfInBounds_toArray]
    try simp only [List.set_cons_succ]
    try simp only [List.set_cons_zero]
    refine wpAnyH_take (i := 8) (v := .pointer (some ⟨b, 0, none⟩)) rfl (by kernel_rfl) (by kernel_rfl) (by kernel_rfl) (fun _ _ _ h => h) (Or.inl ⟨by rfl, fun wz hSz => ?_⟩) hHeld ?_
    · go_simp
    simp only [Act.put, List.getElem_toArray, List.getElem_cons_succ, List.getElem_cons_zero]
    try simp only [List.setIfInBounds_toArray]
    try simp only [List.set_cons_succ]
    try simp only [List.set_cons_zero]
    refine wpAnyH_ready (rs := [7]) (by kernel_rfl) (by simp) (AllReadyH.cons rfl (fun K hK => ?_) AllReadyH.nil)
    rw [if_pos (by rfl)]
    go_simp
    refine (fit_any (HT.out _ H3.out.bel) HP.out.2 HF.out.1 HF.out.2).mono ?_
    rintro e w4 ⟨rfl, hb⟩
    have H4 := Lib.hid (H3.out.on hb)
    clear hb c1
    have f0 := H4.out.b1.free 0
    have d0 := H4.out.b1.fg
    dsimp only at d0
    have H5 := Lib.hid (H4.out.set rfl (H4.out.b1.set0 (fitS fg f)))
    have f1 := H5.out.b1.free 1
    have d1 := H5.out.b1.bg
    dsimp only at d1
    have H6 := Lib.hid (H5.out.set rfl (H5.out.b1.set1 (fitS bg f)))
    refine hK.out _ _ trivial (fun hHeld => ?_)
    clear hK K
    try simp only [Act.put, List.getElem_toArray, List.getElem_cons_succ, List.getElem_cons_zero]
    try simp only [List.setIfInBounds_toArray]
    try simp only [List.set_cons_succ]
    try simp only [List.set_cons_zero]
    refine wpAnyH_ready (rs := [9]) (by kernel_rfl) (by simp) (AllReadyH.cons rfl (fun K hK => ?_) AllReadyH.nil)
    rw [if_pos (by rfl)]
    go_simp
    refine hK.out _ _ trivial (fun hHeld => ?_)
    clear hK K
    try simp only [Act.put, List.getElem_toArray, List.getElem_cons_succ, List.getElem_cons_zero]
    try simp only [List.setIfInBounds_toArray]
    try simp only [List.set_cons_succ]
    try simp only [List.set_cons_zero]
    refine wpAnyH_take (i := 10) (v := .pointer (some ⟨b, 1, none⟩)) rfl (by kernel_rfl) (by kernel_rfl) (by kernel_rfl) (fun _ _ _ h => h) (Or.inl ⟨by rfl, fun wz hSz => ?_⟩) hHeld ?_
    · go_simp
    simp only [Act.put, List.getElem_toArray, List.getElem_cons_succ, List.getElem_cons_zero]
    try simp only [List.setIfInBounds_toArray]
    try simp only [List.set_cons_succ]
    try simp only [List.set_cons_zero]
    refine wpAnyH_ready (rs := [11]) (by kernel_rfl) (by simp) (AllReadyH.cons rfl (fun K hK => ?_) AllReadyH.nil)
    rw [if_pos (by rfl)]
    go_simp
    refine hK.out _ _ trivial (fun hHeld => ?_)
    clear hK K
    try simp only [Act.put, List.getElem_toArray, List.getElem_cons_succ, List.getElem_cons_zero]
    try simp only [List.setIfInBounds_toArray]
    try simp only [List.set_cons_succ]
    try simp only [List.set_cons_zero]
    refine wpAnyH_done (by kernel_rfl) ?_ _
    refine NoPanic.normal ?_
    refine meetP_end (by assumption) (by assumption) ?_
    (repeat apply Exists.intro)
    refine ⟨?rel, rfl⟩
    case rel => exact H6.out
 case rest =>
  have H1 := Lib.hid hcut
  clear hcut H0
  have c0 := H1.out.b1.fg
  have c1 := H1.out.b1.bg
  have c2 := H1.out.b1.st
  have c3 := H1.out.b1.lk
  have f3 := H1.out.b1.free 3
  dsimp only at c0 c1 c2 c3
  go_wp2_with fail
  refine (HL.out _).mono ?_
  rintro e w2 ⟨rfl, rfl⟩
  have HB : Hid (HS.out = HS.out) := Lib.hid rfl
  clear HB
  cases hB : hasB f 3
  · have H2 := Lib.hid (H1.out.set rfl (H1.out.b1.set3 0))
    obtain ⟨w3, hw3⟩ : ∃ w3, w3 = w2.setCell ⟨b, 3, none⟩ (.int .u16 0) := ⟨_, rfl⟩
    rw [← hw3] at H2
    go_upto_region 4 with fail
    rw [← hw3]
    clear hw3 c0 c1 c2 c3 f3
    have c0 := H2.out.b1.fg
    have c1 := H2.out.b1.bg
    have c2 := H2.out.b1.st
    have c3 := H2.out.b1.lk
    dsimp only at c0 c1 c2 c3
    go_wp2_with (refine wpList_store_V rfl 35 (.tmp 4) (.tmp 18) rfl pnL_len one_pnL infoPn2 (b + 1) _ 0 ⟨fitS fg f, fitS bg f, st, 0⟩ _ rfl (by omega) rfl rfl 35 [pn0] H2.out.b2 (by decide) ?_; intro w7 hR7 hg7)
    have hR8 : Pb w7 (b + 1) ⟨fitS fg f, fitS bg f, st, 0⟩ := hR7
    have y0 := hR8.fg
    have y1 := hR8.bg
    have y2 := hR8.st
    have y3 := hR8.lk
    have HB := Lib.hid (show Below w.heap.size w w7 from H2.out.bel.grown hg7 H2.out.bel.size (fun k hk => by injection hk with hk; have := H2.out.lo; omega))
    have hE : C = ⟨fitS fg f, fitS bg f, st, 0⟩ := by rw [← HC.out]; unfold penP; rw [hB]; rfl
    rw [hE]
    dsimp only at y0 y1 y2 y3 ⊢
    exact bodyPost_ret (v := .agg #[.int .u32 (fitS fg f), .int .u32 (fitS bg f), .int .u8 st, .int .u16 0]) (by simp [results, Tryd.results37, go_sem, y0, y1, y2, y3]) rfl ⟨rfl, HB.out⟩
  · go_wp2_with (refine wpList_store_V rfl 35 (.tmp 4) (.tmp 18) rfl pnL_len one_pnL infoPn2 (b + 1) _ 0 ⟨fitS fg f, fitS bg f, st, lk⟩ _ rfl (by omega) rfl rfl 35 [pn0] H1.out.b2 (by decide) ?_; intro w7 hR7 hg7)
    have hR8 : Pb w7 (b + 1) ⟨fitS fg f, fitS bg f, st, lk⟩ := hR7
    have y0 := hR8.fg
    have y1 := hR8.bg
    have y2 := hR8.st
    have y3 := hR8.lk
    have HB := Lib.hid (show Below w.heap.size w w7 from H1.out.bel.grown hg7 H1.out.bel.size (fun k hk => by injection hk with hk; have := H1.out.lo; omega))
    have hE : C = ⟨fitS fg f, fitS bg f, st, lk⟩ := by rw [← HC.out]; unfold penP; rw [hB]; rfl
    rw [hE]
    dsimp only at y0 y1 y2 y3 ⊢
    exact bodyPost_ret (v := .agg #[.int .u32 (fitS fg f), .int .u32 (fitS bg f), .int .u8 st, .int .u16 lk]) (by simp [results, Tryd.results37, go_sem, y0, y1, y2, y3]) rfl ⟨rfl, HB.out⟩
end Go.Proofs.YtojchkhnalnncaaDoor
