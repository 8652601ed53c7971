/-
  What the program makes of a grid by a call, and what the reference does.
-/
import Derived.Test.YtflnocgahdlojaaDoorGridSm
import Derived.Test.YtflnocgahdlojaaDoorGridRow3
import Derived.Test.YtflnocgahdlojaaDoorGridMove
import Derived.Test.YtflnocgahdlojaaDoorGridRefB
import Derived.Test.YtflnocgahdlojaaDoorGridRefC
import Derived.Test.YtflnocgahdlojaaDoorGridResizeR
namespace Go.Proofs.YtflnocgahdlojaaDoor
open Go.RowKit

def opA9 (o : Op9) : Array Value := #[.int .i64 o.k, .int .i64 o.x, .int .i64 o.y, .int .i64 o.n, .int .i32 o.r, .int .u32 o.p.fg, .int .u32 o.p.bg, .int .u8 o.p.st, .int .u16 o.p.lk]
/-- The nine cells of a block that was made of a call. -/
structure Op9c (w : World) (b : Nat) (o : Op9) : Prop where
  c0 : w.cell? ⟨b, 0, none⟩ = some (.int .i64 o.k)
  c1 : w.cell? ⟨b, 1, none⟩ = some (.int .i64 o.x)
  c2 : w.cell? ⟨b, 2, none⟩ = some (.int .i64 o.y)
  c3 : w.cell? ⟨b, 3, none⟩ = some (.int .i64 o.n)
  c4 : w.cell? ⟨b, 4, none⟩ = some (.int .i32 o.r)
  c5 : w.cell? ⟨b, 5, none⟩ = some (.int .u32 o.p.fg)
  c6 : w.cell? ⟨b, 6, none⟩ = some (.int .u32 o.p.bg)
  c7 : w.cell? ⟨b, 7, none⟩ = some (.int .u8 o.p.st)
  c8 : w.cell? ⟨b, 8, none⟩ = some (.int .u16 o.p.lk)
  lt : b < w.heap.size
theorem op9_new (w : World) (o : Op9) (t : TypeId) : Op9c (w.alloc (.cells (opA9 o) t)) w.heap.size o :=
  ⟨cell_of_row _ _ 0 _ _ _ (heap_alloc_new w _), cell_of_row _ _ 1 _ _ _ (heap_alloc_new w _), cell_of_row _ _ 2 _ _ _ (heap_alloc_new w _), cell_of_row _ _ 3 _ _ _ (heap_alloc_new w _), cell_of_row _ _ 4 _ _ _ (heap_alloc_new w _),
    cell_of_row _ _ 5 _ _ _ (heap_alloc_new w _), cell_of_row _ _ 6 _ _ _ (heap_alloc_new w _), cell_of_row _ _ 7 _ _ _ (heap_alloc_new w _), cell_of_row _ _ 8 _ _ _ (heap_alloc_new w _), by simp⟩
theorem Op9c.below {w w' : World} {b : Nat} {o : Op9} (h : Op9c w b o) (hb : Below w.heap.size w w') : Op9c w' b o := by
  have e : ∀ i, w'.cell? ⟨b, i, none⟩ = w.cell? ⟨b, i, none⟩ := fun i => hb.cell h.lt
  exact ⟨(e 0).trans h.c0, (e 1).trans h.c1, (e 2).trans h.c2, (e 3).trans h.c3, (e 4).trans h.c4, (e 5).trans h.c5, (e 6).trans h.c6, (e 7).trans h.c7, (e 8).trans h.c8, Nat.lt_of_lt_of_le h.lt hb.size⟩
/-- The blocks of a grid, of a call, of the result, just made. -/
structure Bx9 (w w0 : World) (b : Nat) (c r : Int) (A : Option Addr) (n k : Nat) (o : Op9) (L : List Ce) : Prop where
  vs : Vs ceV w0 A n L
  g3 : G3 w0 b c r A n k
  op : Op9c w0 (b + 1) o
  gb : Gb w0 (b + 1 + 1) gr0
  bel : Below w.heap.size w w0
  be : b = w.heap.size
theorem Bx9.mk' {w : World} {A : Option Addr} {n : Nat} {L : List Ce} (c r : Int) (k : Nat) (o : Op9) (h : Vs ceV w A n L) :
    Bx9 w (((w.alloc (.cells (gV c r A n k) 24)).alloc (.cells (opA9 o) 31)).alloc (.cells (gV 0 0 none 0 0) 24)) w.heap.size c r A n k o L := by
  have b1 : Below w.heap.size w (w.alloc (.cells (gV c r A n k) 24)) := (Below.refl _ _).alloc (Nat.le_refl _) _
  have h1 := g3_new w c r A n k 24
  have h2 := op9_new (w.alloc (.cells (gV c r A n k) 24)) o 31
  have h3 := gb_new ((w.alloc (.cells (gV c r A n k) 24)).alloc (.cells (opA9 o) 31)) gr0
  rw [alloc_size, alloc_size] at h3
  rw [alloc_size] at h2
  have b3 := (b1.alloc b1.size (.cells (opA9 o) 31)).alloc (b1.alloc b1.size _).size (.cells (gV 0 0 none 0 0) 24)
  exact ⟨h.below b3, (h1.below ((Below.refl _ _).alloc (Nat.le_refl _) _)).below ((Below.refl _ _).alloc (Nat.le_refl _) _), h2.below ((Below.refl _ _).alloc (Nat.le_refl _) _), h3, b3, rfl⟩

set_option maxHeartbeats 3200000 in
theorem do9_any {w : World} {A : Option Addr} {n k : Nat} {c r : Int} {L : List Ce} (o : Op9) (h : Vs ceV w A n L) (hT : Tabs w) (hkk : n ≤ k) (hn : n ≤ 9223372036854775807) (h0 : 0 ≤ o.k) (h5 : o.k ≤ 5) :
    Calls Tryd.prog 11 #[.agg (gV c r A n k), .agg (opA9 o)] w (GPost (doG c r L o) w) := by
  obtain ⟨w0, hw0⟩ : ∃ w0, w0 = ((w.alloc (.cells (gV c r A n k) 24)).alloc (.cells (opA9 o) 31)).alloc (.cells (gV 0 0 none 0 0) 24) := ⟨_, rfl⟩
  obtain ⟨b, hbe⟩ : ∃ b, b = w.heap.size := ⟨_, rfl⟩
  have H := Lib.hid (show Bx9 w w0 b c r A n k o L from by rw [hw0, hbe]; exact Bx9.mk' c r k o h)
  have HT := Lib.hid (hT.below H.out.bel (Nat.le_refl _))
  clear hT
  clear h
  obtain ⟨G, hG⟩ : ∃ G, doG c r L o = G := ⟨_, rfl⟩
  rw [hG]
  obtain ⟨g0, g1, g2, _⟩ := H.out.g3
  obtain ⟨c0, c1, c2, c3, c4, c5, c6, c7, c8, _⟩ := H.out.op
  unfold gV at hw0
  have hk6 : o.k = 0 ∨ o.k = 1 ∨ o.k = 2 ∨ o.k = 3 ∨ o.k = 4 ∨ o.k = 5 := by omega
  rcases hk6 with hk | hk | hk | hk | hk | hk
  · have HE := Lib.hid (show opG c r L o.p (fun _ => inRowS (fun l => putS l o.x o.r o.p) o.y) = G from by rw [← hG]; unfold doG; rw [if_pos hk])
    have HC := gPut_any (c := c) (r := r) o.x o.y o.r o.p H.out.vs HT.out hkk hn
    rw [HE.out] at HC
    unfold gV pnA at HC
    have HC := Lib.hid HC
    rw [hk] at c0
    unfold opA9 at hw0 ⊢
    rw [hk] at hw0 ⊢
    clear hG hk
    go_enter Tryd.func11, Tryd.ntmps11
    unfold gV
    go_upto_region 1 with fail
    rw [← hw0, ← hbe]
    clear hw0 hbe
    go_wp2_with fail
    refine HC.out.mono ?_
    intro e w1 hq
    clear g0 g1 g2 c0 c1 c2 c3 c4 c5 c6 c7 c8
    obtain ⟨x', hx', hq'⟩ := hq.shape
    subst hx'
    have X := Lib.hid (And.intro hq' (H.out.gb.below hq'.bel))
    clear hq hq'
    unfold gV
    go_wp2_with (refine wpList_store_G rfl (.tmp 4) (.tmp 18) rfl (b + 1 + 1) gr0 x' rfl rfl X.out.2 ?_; intro w5 hG5 hg5)
    refine bodyPost_ret (retG Tryd.results11 hG5 rfl) rfl ?_
    exact X.out.1.grown hg5 (B := w.heap.size) (by intro k hk; injection hk with hk; exact ⟨by have := H.out.gb.lt; omega, by have := H.out.be; omega⟩) rfl H.out.bel
  · have HE := Lib.hid (show opG c r L o.p (fun _ => inRowS (fun l => insertS l o.x o.n o.p) o.y) = G from by rw [← hG]; unfold doG; rw [if_neg (by omega), if_pos hk])
    have HC := gInsert_any (c := c) (r := r) o.x o.y o.n o.p H.out.vs HT.out hkk hn
    rw [HE.out] at HC
    unfold gV pnA at HC
    have HC := Lib.hid HC
    rw [hk] at c0
    unfold opA9 at hw0 ⊢
    rw [hk] at hw0 ⊢
    clear hG hk
    go_enter Tryd.func11, Tryd.ntmps11
    unfold gV
    go_upto_region 1 with fail
    rw [← hw0, ← hbe]
    clear hw0 hbe
    go_wp2_with fail
    refine HC.out.mono ?_
    intro e w1 hq
    clear g0 g1 g2 c0 c1 c2 c3 c4 c5 c6 c7 c8
    obtain ⟨x', hx', hq'⟩ := hq.shape
    subst hx'
    have X := Lib.hid (And.intro hq' (H.out.gb.below hq'.bel))
    clear hq hq'
    unfold gV
    go_wp2_with (refine wpList_store_G rfl (.tmp 4) (.tmp 30) rfl (b + 1 + 1) gr0 x' rfl rfl X.out.2 ?_; intro w5 hG5 hg5)
    refine bodyPost_ret (retG Tryd.results11 hG5 rfl) rfl ?_
    exact X.out.1.grown hg5 (B := w.heap.size) (by intro k hk; injection hk with hk; exact ⟨by have := H.out.gb.lt; omega, by have := H.out.be; omega⟩) rfl H.out.bel
  · have HE := Lib.hid (show opG c r L o.p (fun _ => inRowS (fun l => deleteS l o.x o.n o.p) o.y) = G from by rw [← hG]; unfold doG; rw [if_neg (by omega), if_neg (by omega), if_pos hk])
    have HC := gDelete_any (c := c) (r := r) o.x o.y o.n o.p H.out.vs HT.out hkk hn
    rw [HE.out] at HC
    unfold gV pnA at HC
    have HC := Lib.hid HC
    rw [hk] at c0
    unfold opA9 at hw0 ⊢
    rw [hk] at hw0 ⊢
    clear hG hk
    go_enter Tryd.func11, Tryd.ntmps11
    unfold gV
    go_upto_region 1 with fail
    rw [← hw0, ← hbe]
    clear hw0 hbe
    go_wp2_with fail
    refine HC.out.mono ?_
    intro e w1 hq
    clear g0 g1 g2 c0 c1 c2 c3 c4 c5 c6 c7 c8
    obtain ⟨x', hx', hq'⟩ := hq.shape
    subst hx'
    have X := Lib.hid (And.intro hq' (H.out.gb.below hq'.bel))
    clear hq hq'
    unfold gV
    go_wp2_with (refine wpList_store_G rfl (.tmp 4) (.tmp 42) rfl (b + 1 + 1) gr0 x' rfl rfl X.out.2 ?_; intro w5 hG5 hg5)
    refine bodyPost_ret (retG Tryd.results11 hG5 rfl) rfl ?_
    exact X.out.1.grown hg5 (B := w.heap.size) (by intro k hk; injection hk with hk; exact ⟨by have := H.out.gb.lt; omega, by have := H.out.be; omega⟩) rfl H.out.bel
  · have HE := Lib.hid (show opG c r L o.p (fun c LL => clearS c LL o.x o.n o.p) = G from by rw [← hG]; unfold doG; rw [if_neg (by omega), if_neg (by omega), if_neg (by omega), if_pos hk])
    have HC := gClear_any (c := c) (r := r) o.x o.n o.p H.out.vs HT.out hkk hn
    rw [HE.out] at HC
    unfold gV pnA at HC
    have HC := Lib.hid HC
    rw [hk] at c0
    unfold opA9 at hw0 ⊢
    rw [hk] at hw0 ⊢
    clear hG hk
    go_enter Tryd.func11, Tryd.ntmps11
    unfold gV
    go_upto_region 1 with fail
    rw [← hw0, ← hbe]
    clear hw0 hbe
    go_wp2_with fail
    refine HC.out.mono ?_
    intro e w1 hq
    clear g0 g1 g2 c0 c1 c2 c3 c4 c5 c6 c7 c8
    obtain ⟨x', hx', hq'⟩ := hq.shape
    subst hx'
    have X := Lib.hid (And.intro hq' (H.out.gb.below hq'.bel))
    clear hq hq'
    unfold gV
    go_wp2_with (refine wpList_store_G rfl (.tmp 4) (.tmp 52) rfl (b + 1 + 1) gr0 x' rfl rfl X.out.2 ?_; intro w5 hG5 hg5)
    refine bodyPost_ret (retG Tryd.results11 hG5 rfl) rfl ?_
    exact X.out.1.grown hg5 (B := w.heap.size) (by intro k hk; injection hk with hk; exact ⟨by have := H.out.gb.lt; omega, by have := H.out.be; omega⟩) rfl H.out.bel
  · have HE := Lib.hid (show opG c r L o.p (fun c LL => scrollS c LL o.x o.y o.n o.p) = G from by rw [← hG]; unfold doG; rw [if_neg (by omega), if_neg (by omega), if_neg (by omega), if_neg (by omega), if_pos hk])
    have HC := gScroll_any (c := c) (r := r) o.x o.y o.n o.p H.out.vs HT.out hkk hn
    rw [HE.out] at HC
    unfold gV pnA at HC
    have HC := Lib.hid HC
    rw [hk] at c0
    unfold opA9 at hw0 ⊢
    rw [hk] at hw0 ⊢
    clear hG hk
    go_enter Tryd.func11, Tryd.ntmps11
    unfold gV
    go_upto_region 1 with fail
    rw [← hw0, ← hbe]
    clear hw0 hbe
    go_wp2_with fail
    refine HC.out.mono ?_
    intro e w1 hq
    clear g0 g1 g2 c0 c1 c2 c3 c4 c5 c6 c7 c8
    obtain ⟨x', hx', hq'⟩ := hq.shape
    subst hx'
    have X := Lib.hid (And.intro hq' (H.out.gb.below hq'.bel))
    clear hq hq'
    unfold gV
    go_wp2_with (refine wpList_store_G rfl (.tmp 4) (.tmp 64) rfl (b + 1 + 1) gr0 x' rfl rfl X.out.2 ?_; intro w5 hG5 hg5)
    refine bodyPost_ret (retG Tryd.results11 hG5 rfl) rfl ?_
    exact X.out.1.grown hg5 (B := w.heap.size) (by intro k hk; injection hk with hk; exact ⟨by have := H.out.gb.lt; omega, by have := H.out.be; omega⟩) rfl H.out.bel
  · have HE := Lib.hid (show resG c r L o.x o.y = G from by rw [← hG]; unfold doG; rw [if_neg (by omega), if_neg (by omega), if_neg (by omega), if_neg (by omega), if_neg (by omega)])
    have HC := gResize_any (c := c) (r := r) o.x o.y H.out.vs HT.out hkk hn
    rw [HE.out] at HC
    unfold gV at HC
    have HC := Lib.hid HC
    rw [hk] at c0
    unfold opA9 at hw0 ⊢
    rw [hk] at hw0 ⊢
    clear hG hk
    go_enter Tryd.func11, Tryd.ntmps11
    unfold gV
    go_upto_region 1 with fail
    rw [← hw0, ← hbe]
    clear hw0 hbe
    go_wp2_with fail
    refine HC.out.mono ?_
    intro e w1 hq
    clear g0 g1 g2 c0 c1 c2 c3 c4 c5 c6 c7 c8
    obtain ⟨x', hx', hq'⟩ := hq.shape
    subst hx'
    have X := Lib.hid (And.intro hq' (H.out.gb.below hq'.bel))
    clear hq hq'
    unfold gV
    go_wp2_with (refine wpList_store_G rfl (.tmp 4) (.tmp 72) rfl (b + 1 + 1) gr0 x' rfl rfl X.out.2 ?_; intro w5 hG5 hg5)
    refine bodyPost_ret (retG Tryd.results11 hG5 rfl) rfl ?_
    exact X.out.1.grown hg5 (B := w.heap.size) (by intro k hk; injection hk with hk; exact ⟨by have := H.out.gb.lt; omega, by have := H.out.be; omega⟩) rfl H.out.bel

set_option maxHeartbeats 3200000 in
theorem want9_any {w : World} {A : Option Addr} {n k : Nat} {c r : Int} {L : List Ce} (o : Op9) (h : Vs ceV w A n L) (hkk : n ≤ k) (hn : n ≤ 9223372036854775807) (h0 : 0 ≤ o.k) (h5 : o.k ≤ 5) :
    Calls Tryd.prog 15 #[.agg (gV c r A n k), .agg (opA9 o)] w (GPost (doG c r L o) w) := by
  obtain ⟨w0, hw0⟩ : ∃ w0, w0 = ((w.alloc (.cells (gV c r A n k) 24)).alloc (.cells (opA9 o) 31)).alloc (.cells (gV 0 0 none 0 0) 24) := ⟨_, rfl⟩
  obtain ⟨b, hbe⟩ : ∃ b, b = w.heap.size := ⟨_, rfl⟩
  have H := Lib.hid (show Bx9 w w0 b c r A n k o L from by rw [hw0, hbe]; exact Bx9.mk' c r k o h)
  clear h
  obtain ⟨G, hG⟩ : ∃ G, doG c r L o = G := ⟨_, rfl⟩
  rw [hG]
  obtain ⟨g0, g1, g2, _⟩ := H.out.g3
  obtain ⟨c0, c1, c2, c3, c4, c5, c6, c7, c8, _⟩ := H.out.op
  unfold gV at hw0
  have hk6 : o.k = 0 ∨ o.k = 1 ∨ o.k = 2 ∨ o.k = 3 ∨ o.k = 4 ∨ o.k = 5 := by omega
  rcases hk6 with hk | hk | hk | hk | hk | hk
  · have HE := Lib.hid (show opG c r L o.p (fun _ => inRowS (fun l => putS l o.x o.r o.p) o.y) = G from by rw [← hG]; unfold doG; rw [if_pos hk])
    have HC := refDoP_any (c := c) (r := r) o.x o.y o.r o.n o.p H.out.vs hkk hn
    rw [HE.out] at HC
    unfold gV pnA at HC
    have HC := Lib.hid HC
    rw [hk] at c0
    unfold opA9 at hw0 ⊢
    rw [hk] at hw0 ⊢
    clear hG hk
    go_enter Tryd.func15, Tryd.ntmps15
    unfold gV
    go_upto_region 1 with fail
    rw [← hw0, ← hbe]
    clear hw0 hbe
    go_wp2_with fail
    refine HC.out.mono ?_
    intro e w1 hq
    clear g0 g1 g2 c0 c1 c2 c3 c4 c5 c6 c7 c8
    obtain ⟨x', hx', hq'⟩ := hq.shape
    subst hx'
    have X := Lib.hid (And.intro hq' (H.out.gb.below hq'.bel))
    clear hq hq'
    unfold gV
    go_wp2_with (refine wpList_store_G rfl (.tmp 4) (.tmp 24) rfl (b + 1 + 1) gr0 x' rfl rfl X.out.2 ?_; intro w5 hG5 hg5)
    refine bodyPost_ret (retG Tryd.results15 hG5 rfl) rfl ?_
    exact X.out.1.grown hg5 (B := w.heap.size) (by intro k hk; injection hk with hk; exact ⟨by have := H.out.gb.lt; omega, by have := H.out.be; omega⟩) rfl H.out.bel
  · have HE := Lib.hid (show opG c r L o.p (fun _ => inRowS (fun l => insertS l o.x o.n o.p) o.y) = G from by rw [← hG]; unfold doG; rw [if_neg (by omega), if_pos hk])
    have HC := refDoI_any (c := c) (r := r) o.x o.y o.n o.r o.p H.out.vs hkk hn
    rw [HE.out] at HC
    unfold gV pnA at HC
    have HC := Lib.hid HC
    rw [hk] at c0
    unfold opA9 at hw0 ⊢
    rw [hk] at hw0 ⊢
    clear hG hk
    go_enter Tryd.func15, Tryd.ntmps15
    unfold gV
    go_upto_region 1 with fail
    rw [← hw0, ← hbe]
    clear hw0 hbe
    go_wp2_with fail
    refine HC.out.mono ?_
    intro e w1 hq
    clear g0 g1 g2 c0 c1 c2 c3 c4 c5 c6 c7 c8
    obtain ⟨x', hx', hq'⟩ := hq.shape
    subst hx'
    have X := Lib.hid (And.intro hq' (H.out.gb.below hq'.bel))
    clear hq hq'
    unfold gV
    go_wp2_with (refine wpList_store_G rfl (.tmp 4) (.tmp 24) rfl (b + 1 + 1) gr0 x' rfl rfl X.out.2 ?_; intro w5 hG5 hg5)
    refine bodyPost_ret (retG Tryd.results15 hG5 rfl) rfl ?_
    exact X.out.1.grown hg5 (B := w.heap.size) (by intro k hk; injection hk with hk; exact ⟨by have := H.out.gb.lt; omega, by have := H.out.be; omega⟩) rfl H.out.bel
  · have HE := Lib.hid (show opG c r L o.p (fun _ => inRowS (fun l => deleteS l o.x o.n o.p) o.y) = G from by rw [← hG]; unfold doG; rw [if_neg (by omega), if_neg (by omega), if_pos hk])
    have HC := refDoD_any (c := c) (r := r) o.x o.y o.n o.r o.p H.out.vs hkk hn
    rw [HE.out] at HC
    unfold gV pnA at HC
    have HC := Lib.hid HC
    rw [hk] at c0
    unfold opA9 at hw0 ⊢
    rw [hk] at hw0 ⊢
    clear hG hk
    go_enter Tryd.func15, Tryd.ntmps15
    unfold gV
    go_upto_region 1 with fail
    rw [← hw0, ← hbe]
    clear hw0 hbe
    go_wp2_with fail
    refine HC.out.mono ?_
    intro e w1 hq
    clear g0 g1 g2 c0 c1 c2 c3 c4 c5 c6 c7 c8
    obtain ⟨x', hx', hq'⟩ := hq.shape
    subst hx'
    have X := Lib.hid (And.intro hq' (H.out.gb.below hq'.bel))
    clear hq hq'
    unfold gV
    go_wp2_with (refine wpList_store_G rfl (.tmp 4) (.tmp 24) rfl (b + 1 + 1) gr0 x' rfl rfl X.out.2 ?_; intro w5 hG5 hg5)
    refine bodyPost_ret (retG Tryd.results15 hG5 rfl) rfl ?_
    exact X.out.1.grown hg5 (B := w.heap.size) (by intro k hk; injection hk with hk; exact ⟨by have := H.out.gb.lt; omega, by have := H.out.be; omega⟩) rfl H.out.bel
  · have HE := Lib.hid (show opG c r L o.p (fun c LL => clearS c LL o.x o.n o.p) = G from by rw [← hG]; unfold doG; rw [if_neg (by omega), if_neg (by omega), if_neg (by omega), if_pos hk])
    have HC := refClear_any (c := c) (r := r) o.x o.n o.p H.out.vs hkk hn
    rw [HE.out] at HC
    unfold gV pnA at HC
    have HC := Lib.hid HC
    rw [hk] at c0
    unfold opA9 at hw0 ⊢
    rw [hk] at hw0 ⊢
    clear hG hk
    go_enter Tryd.func15, Tryd.ntmps15
    unfold gV
    go_upto_region 1 with fail
    rw [← hw0, ← hbe]
    clear hw0 hbe
    go_wp2_with fail
    refine HC.out.mono ?_
    intro e w1 hq
    clear g0 g1 g2 c0 c1 c2 c3 c4 c5 c6 c7 c8
    obtain ⟨x', hx', hq'⟩ := hq.shape
    subst hx'
    have X := Lib.hid (And.intro hq' (H.out.gb.below hq'.bel))
    clear hq hq'
    unfold gV
    go_wp2_with (refine wpList_store_G rfl (.tmp 4) (.tmp 34) rfl (b + 1 + 1) gr0 x' rfl rfl X.out.2 ?_; intro w5 hG5 hg5)
    refine bodyPost_ret (retG Tryd.results15 hG5 rfl) rfl ?_
    exact X.out.1.grown hg5 (B := w.heap.size) (by intro k hk; injection hk with hk; exact ⟨by have := H.out.gb.lt; omega, by have := H.out.be; omega⟩) rfl H.out.bel
  · have HE := Lib.hid (show opG c r L o.p (fun c LL => scrollS c LL o.x o.y o.n o.p) = G from by rw [← hG]; unfold doG; rw [if_neg (by omega), if_neg (by omega), if_neg (by omega), if_neg (by omega), if_pos hk])
    have HC := refScroll_any (c := c) (r := r) o.x o.y o.n o.p H.out.vs hkk hn
    rw [HE.out] at HC
    unfold gV pnA at HC
    have HC := Lib.hid HC
    rw [hk] at c0
    unfold opA9 at hw0 ⊢
    rw [hk] at hw0 ⊢
    clear hG hk
    go_enter Tryd.func15, Tryd.ntmps15
    unfold gV
    go_upto_region 1 with fail
    rw [← hw0, ← hbe]
    clear hw0 hbe
    go_wp2_with fail
    refine HC.out.mono ?_
    intro e w1 hq
    clear g0 g1 g2 c0 c1 c2 c3 c4 c5 c6 c7 c8
    obtain ⟨x', hx', hq'⟩ := hq.shape
    subst hx'
    have X := Lib.hid (And.intro hq' (H.out.gb.below hq'.bel))
    clear hq hq'
    unfold gV
    go_wp2_with (refine wpList_store_G rfl (.tmp 4) (.tmp 46) rfl (b + 1 + 1) gr0 x' rfl rfl X.out.2 ?_; intro w5 hG5 hg5)
    refine bodyPost_ret (retG Tryd.results15 hG5 rfl) rfl ?_
    exact X.out.1.grown hg5 (B := w.heap.size) (by intro k hk; injection hk with hk; exact ⟨by have := H.out.gb.lt; omega, by have := H.out.be; omega⟩) rfl H.out.bel
  · have HE := Lib.hid (show resG c r L o.x o.y = G from by rw [← hG]; unfold doG; rw [if_neg (by omega), if_neg (by omega), if_neg (by omega), if_neg (by omega), if_neg (by omega)])
    have HC := refResize_any (c := c) (r := r) o.x o.y H.out.vs hkk hn
    rw [HE.out] at HC
    unfold gV at HC
    have HC := Lib.hid HC
    rw [hk] at c0
    unfold opA9 at hw0 ⊢
    rw [hk] at hw0 ⊢
    clear hG hk
    go_enter Tryd.func15, Tryd.ntmps15
    unfold gV
    go_upto_region 1 with fail
    rw [← hw0, ← hbe]
    clear hw0 hbe
    go_wp2_with fail
    refine HC.out.mono ?_
    intro e w1 hq
    clear g0 g1 g2 c0 c1 c2 c3 c4 c5 c6 c7 c8
    obtain ⟨x', hx', hq'⟩ := hq.shape
    subst hx'
    have X := Lib.hid (And.intro hq' (H.out.gb.below hq'.bel))
    clear hq hq'
    unfold gV
    go_wp2_with (refine wpList_store_G rfl (.tmp 4) (.tmp 54) rfl (b + 1 + 1) gr0 x' rfl rfl X.out.2 ?_; intro w5 hG5 hg5)
    refine bodyPost_ret (retG Tryd.results15 hG5 rfl) rfl ?_
    exact X.out.1.grown hg5 (B := w.heap.size) (by intro k hk; injection hk with hk; exact ⟨by have := H.out.gb.lt; omega, by have := H.out.be; omega⟩) rfl H.out.bel
end Go.Proofs.YtflnocgahdlojaaDoor
