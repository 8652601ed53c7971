/-
  grid.inRow over the closure of grid.Put, and grid.Put.
  grid.inRow over the closure of grid.Insert, and grid.Insert.
  grid.inRow over the closure of grid.Delete, and grid.Delete.
-/
import Derived.Test.YtflnocgahdlojaaDoorGridBase
import Derived.Test.YtflnocgahdlojaaDoorCellPut
import Derived.Test.YtflnocgahdlojaaDoorCellInsert
import Derived.Test.YtflnocgahdlojaaDoorCellDelete
namespace Go.Proofs.YtflnocgahdlojaaDoor
open Go.RowKit

set_option maxHeartbeats 3200000 in
theorem inRowP_any {w : World} {A : Option Addr} {n k : Nat} {c r : Int} {L : List Ce} (y : Int) (p : Pn) (b1 b2 b3 : Nat) (F : List Ce → List Ce) (hF : ∀ l, (F l).length = l.length)
    (HC : ∀ (w' : World) (M : List Ce) (A' : Option Addr) (n' : Nat), Below w.heap.size w w' → Vs ceV w' A' n' M → n' ≤ 1000000 → RowOk M → penMayS p = true → Calls Tryd.prog 48 #[.slice A' n' n', .pointer (some ⟨b1, 0, none⟩), .pointer (some ⟨b2, 0, none⟩), .pointer (some ⟨b3, 0, none⟩)] w' (MadeC (F M) w'))
    (h : Vs ceV w A n L) (hT : Tabs w) (hk : n ≤ k) (hn : n ≤ 9223372036854775807) :
    Calls Tryd.prog 47 #[.agg (gV c r A n k), .int .i64 y, .agg (pnA p), .func (.func 48) #[] #[.pointer (some ⟨b1, 0, none⟩), .pointer (some ⟨b2, 0, none⟩), .pointer (some ⟨b3, 0, none⟩)]] w (GPost (opG c r L p fun _ => inRowS F y) w) := by
  obtain ⟨w0, hw0⟩ : ∃ w0, w0 = ((w.alloc (.cells (gV c r A n k) 24)).alloc (.cells (pnA p) 29)).alloc (.cells (gV 0 0 none 0 0) 24) := ⟨_, rfl⟩
  obtain ⟨b, hbe⟩ : ∃ b, b = w.heap.size := ⟨_, rfl⟩
  have H := Lib.hid (show Box3 w w0 b c r A n k p L from by rw [hw0, hbe]; exact Box3.mk' c r k p h hT)
  have HL := Lib.hid (And.intro h.len (And.intro hk hF))
  have HCC := Lib.hid HC
  clear h hT HC hF
  obtain ⟨ok, hok⟩ : ∃ ok, (gridMay c r L && penMayS p) = ok := ⟨_, rfl⟩
  have HOK := Lib.hid hok
  clear hok
  obtain ⟨G, hG⟩ : ∃ G, opG c r L p (fun _ => inRowS F y) = G := ⟨_, rfl⟩
  rw [hG]
  have HG := Lib.hid hG
  clear hG
  obtain ⟨c0, c1, c2, _⟩ := H.out.g3
  obtain ⟨d0, d1, d2, d3, _⟩ := H.out.p4
  unfold gV pnA at hw0
  go_enter Tryd.func47, Tryd.ntmps47
  unfold gV pnA
  go_upto_region 1 with fail
  rw [← hw0, ← hbe]
  clear hw0 hbe
  go_wp2_with fail
  refine (gWrit_any p H.out.vs H.out.tabs hk hn HOK.out).mono ?_
  rintro e w1 ⟨hyes, hno⟩
  clear c0 c1 c2 d0 d1 d2 d3
  cases ok
  · obtain ⟨rfl, hb⟩ := hno rfl
    have X := Lib.hid (show Below w.heap.size w w1 ∧ Gb w1 (b + 1 + 1) gr0 from ⟨H.out.bel.trans (hb.mono H.out.bel.size), H.out.gb.below hb⟩)
    clear hyes hno hb
    obtain ⟨w2, hw2⟩ : ∃ w2, w2 = w1.alloc (.cells (gV 0 0 none 0 0) 24) := ⟨_, rfl⟩
    obtain ⟨b', hbe'⟩ : ∃ b', b' = w1.heap.size := ⟨_, rfl⟩
    have X2 := Lib.hid (show Below w.heap.size w w2 ∧ Gb w2 (b + 1 + 1) gr0 ∧ G3 w2 b' 0 0 none 0 0 from by
      rw [hw2, hbe']
      exact ⟨X.out.1.alloc X.out.1.size _, X.out.2.below ((Below.refl _ _).alloc (Nat.le_refl _) _), g3_new w1 0 0 none 0 0 _⟩)
    obtain ⟨c0, c1, c2, _⟩ := X2.out.2.2
    unfold gV at hw2 ⊢
    go_upto_region 2 with fail
    rw [← hw2, ← hbe']
    clear hw2 hbe'
    go_wp2_with fail
    refine (hasRow_any (c := 0) (r := 0) (A := none) (n := 0) (k := 0) y _).mono ?_
    rintro e w3 ⟨rfl, hb⟩
    rw [show decide (0 ≤ y ∧ y < (0 : Int)) = false from by simp]
    have X3 := Lib.hid (show Below w.heap.size w w3 ∧ Gb w3 (b + 1 + 1) gr0 ∧ G3 w3 b' 0 0 none 0 0 from ⟨X2.out.1.trans (hb.mono X2.out.1.size), X2.out.2.1.below hb, X2.out.2.2.below hb⟩)
    clear hb c0 c1 c2
    obtain ⟨c0, c1, c2, _⟩ := X3.out.2.2
    go_wp2_with (refine wpList_store_G rfl (.tmp 8) (.tmp 25) rfl (b + 1 + 1) gr0 gr0 rfl rfl X3.out.2.1 ?_; intro w5 hG5 hg5)
    refine bodyPost_ret (retG Tryd.results47 hG5 rfl) rfl ?_
    rw [← HG.out, opG_no HOK.out]
    exact GPost.no ⟨rfl, X3.out.1.grown hg5 X3.out.1.size (by intro k hk; injection hk with hk; have := H.out.be; omega)⟩
  · obtain ⟨hb, g, k', rfl, hg, hk1, hk2, hR⟩ := hyes rfl
    obtain ⟨cn, rn, LL, rfl, rfl, hLL, hrows, hgk, hpm⟩ := opG_parts HOK.out
    have HP := Lib.hid (show L = LL.flatten ∧ Gk cn rn LL ∧ G = some (cn, rn, inRowS F y LL) ∧ n = rn * cn ∧ penMayS p = true from ⟨hLL, hgk, by rw [← HG.out]; unfold opG; rw [if_pos ⟨by have := HOK.out; simp at this; exact this.1, hpm⟩, hrows]; rfl, by rw [← HL.out.1, hLL]; exact hgk.box.flen, hpm⟩)
    rw [HL.out.1] at hk1 ⊢
    have X := Lib.hid (show Below w.heap.size w w1 ∧ Gb w1 (b + 1 + 1) gr0 ∧ Rw ceV 41 w1 g LL.flatten ∧ w0.heap.size ≤ g from ⟨H.out.bel.trans (hb.mono H.out.bel.size), H.out.gb.below hb, by rw [hLL] at hR; exact hR, hg⟩)
    clear hyes hno hb hR hLL hrows hgk hpm hg
    obtain ⟨w2, hw2⟩ : ∃ w2, w2 = w1.alloc (.cells (gV (cn : Int) (rn : Int) (some ⟨g, 0, none⟩) n k') 24) := ⟨_, rfl⟩
    obtain ⟨b', hbe'⟩ : ∃ b', b' = w1.heap.size := ⟨_, rfl⟩
    have X2 := Lib.hid (show Below w.heap.size w w2 ∧ Gb w2 (b + 1 + 1) gr0 ∧ G3 w2 b' cn rn (some ⟨g, 0, none⟩) n k' ∧ Rw ceV 41 w2 g LL.flatten ∧ g < b' from by
      rw [hw2, hbe']
      have h1 : Below w1.heap.size w1 (w1.alloc (.cells (gV (cn : Int) (rn : Int) (some ⟨g, 0, none⟩) n k') 24)) := (Below.refl _ _).alloc (Nat.le_refl _) _
      exact ⟨X.out.1.alloc X.out.1.size _, X.out.2.1.below h1, g3_new w1 cn rn (some ⟨g, 0, none⟩) n k' _, X.out.2.2.1.below h1, X.out.2.2.1.lt⟩)
    obtain ⟨c0, c1, c2, _⟩ := X2.out.2.2.1
    unfold gV at hw2 ⊢
    go_upto_region 2 with fail
    rw [← hw2, ← hbe']
    clear hw2 hbe'
    go_wp2_with fail
    refine (hasRow_any (c := (cn : Int)) (r := (rn : Int)) (A := some ⟨g, 0, none⟩) (n := n) (k := k') y _).mono ?_
    rintro e w3 ⟨rfl, hb⟩
    have X3 := Lib.hid (show Below w.heap.size w w3 ∧ Gb w3 (b + 1 + 1) gr0 ∧ G3 w3 b' cn rn (some ⟨g, 0, none⟩) n k' ∧ Rw ceV 41 w3 g LL.flatten from ⟨X2.out.1.trans (hb.mono X2.out.1.size), X2.out.2.1.below hb, X2.out.2.2.1.below hb, X2.out.2.2.2.1.below hb⟩)
    clear hb c0 c1 c2
    obtain ⟨c0, c1, c2, _⟩ := X3.out.2.2.1
    by_cases hy : 0 ≤ y ∧ y < (rn : Int)
    · obtain ⟨q, rfl⟩ : ∃ q : Nat, y = (q : Int) := ⟨y.toNat, by omega⟩
      rw [decide_eq_true hy]
      have hq : q < rn := by omega
      clear hy
      have HB := Lib.hid HP.out.2.1.box
      have hc1 := HP.out.2.1.c1
      have hc2 := HP.out.2.1.c80
      have HM := Lib.hid (show (F (lAt LL q)).length = cn from by rw [HL.out.2.2]; exact HB.out.row q hq)
      have HGK := Lib.hid (show b + 1 + 1 < g from by have := X.out.2.2.2; have := H.out.gb.lt; omega)
      have hb1 : Below w3.heap.size w3 w3.drew := belowN (Below.refl _ _) 1
      have SX := Lib.hid (show ∀ w', Below w3.heap.size w3 w' → (Below w.heap.size w w' ∧ (w'.cell? ⟨b', 0, none⟩ = some (.int .i64 (cn : Int)) ∧ w'.cell? ⟨b', 1, none⟩ = some (.int .i64 (rn : Int)) ∧ w'.cell? ⟨b', 2, none⟩ = some (.slice (some ⟨g, 0, none⟩) n k'))) from fun w' hb => by
        obtain ⟨e0, e1, e2, _⟩ := X3.out.2.2.1.below hb
        exact ⟨X3.out.1.trans (hb.mono X3.out.1.size), e0, e1, e2⟩)
      have SY := Lib.hid (show ∀ w' w'', Below w3.heap.size w3 w' → w'.grownBy w'' (some g) → (Below w.heap.size w w'' ∧ (w''.cell? ⟨b', 0, none⟩ = some (.int .i64 (cn : Int)) ∧ w''.cell? ⟨b', 1, none⟩ = some (.int .i64 (rn : Int)) ∧ w''.cell? ⟨b', 2, none⟩ = some (.slice (some ⟨g, 0, none⟩) n k'))) from fun w' w'' hb hg => by
        obtain ⟨e0, e1, e2, _⟩ := (X3.out.2.2.1.below hb).grown hg (by have := X2.out.2.2.2.2; simp; omega)
        exact ⟨(X3.out.1.trans (hb.mono X3.out.1.size)).grown hg (Nat.le_trans X3.out.1.size hb.size) (by intro k hk; injection hk with hk; have := X.out.2.2.2; have := H.out.bel.size; omega), e0, e1, e2⟩)
      have HCL := Lib.hid (show ∀ w', Below w3.heap.size w3 w' → Calls Tryd.prog 48 #[.slice (some ⟨g, q * cn * 6, none⟩) cn cn, .pointer (some ⟨b1, 0, none⟩), .pointer (some ⟨b2, 0, none⟩), .pointer (some ⟨b3, 0, none⟩)] w' fun e w'' => ∃ g2 c2, e = .returned (.slice (some ⟨g2, 0, none⟩) cn c2) ∧ Below w'.heap.size w' w'' ∧ w'.heap.size ≤ g2 ∧ Rw ceV 41 w'' g2 (F (lAt LL q)) from fun w' hb => by
        have hfit := row_fits (c := cn) hq
        have hv := (X3.out.2.2.2.below hb).vs
        have hs := hv.seg (a := q * cn) (c := cn) (by rw [HB.out.flen]; exact hfit)
        rw [addH] at hs
        have e5 : (LL.flatten.drop (q * cn)).take cn = lAt LL q := rowAt_flat HB.out hq
        rw [e5] at hs
        refine (HCC.out w' _ _ cn (X3.out.1.trans (hb.mono X3.out.1.size)) hs (by omega) (HP.out.2.1.ok q hq) HP.out.2.2.2.2).mono ?_
        rintro e w'' ⟨h1, g2, c2, he, h2, h3, h4, h5⟩
        rw [HM.out] at he
        exact ⟨g2, c2, he, h1, h2, h5⟩)
      go_wp2_with fail
      go_region_held3 (fun w' => Below w.heap.size w w' ∧ (w'.cell? ⟨b', 0, none⟩ = some (.int .i64 (cn : Int)) ∧ w'.cell? ⟨b', 1, none⟩ = some (.int .i64 (rn : Int)) ∧ w'.cell? ⟨b', 2, none⟩ = some (.slice (some ⟨g, 0, none⟩) n k')))
        ((first | (refine SX.out _ ?_; assumption) | (refine SY.out _ _ ?_ hg5; assumption)))
        ((first
          | (go_at_call 32; (try go_split_ands); refine (rowOfH_any HP.out.2.2.2.1 hq hc1 hc2 HP.out.2.1.r24 hk1).mono ?_; rintro e w4 ⟨rfl, hb4⟩; have hb5 := Below.trans (B := w3.heap.size) (by assumption) (hb4.mono (below_sz (a := w3) (B := w3.heap.size) (by assumption))))
          | (go_at_call 48; (try go_split_ands); refine (HCL.out _ (by assumption)).mono ?_; rintro e w4 ⟨g2, c2, rfl, hb4, hg2, hR4⟩; have hb5 := Below.trans (B := w3.heap.size) (by assumption) (hb4.mono (below_sz (a := w3) (B := w3.heap.size) (by assumption))))
          | (rw [if_pos (by rfl)]; refine oper_copy_V (.tmp 18) (.tmp 23) 22 22 rfl 41 ceV_len one_ce Tryd.underlying22 infoCe g (q * cn) cn cn (some ⟨g, q * cn * 6, none⟩) (some ⟨g2, 0, none⟩) cn c2 rfl rfl 41 LL.flatten (F (lAt LL q)) (X3.out.2.2.2.below (by assumption)) (by rw [HM.out]; exact (Nat.min_self cn).symm) (by first | exact hR4.vs | exact (hR4.below (by assumption)).vs) (fun _ => rfl) (by rw [HM.out, HB.out.flen]; exact row_fits hq) ?_; intro w5 hR5 hg5; have Z := Lib.hid (And.intro (SY.out _ _ (by assumption) hg5) (And.intro ((X3.out.2.1.below (by assumption)).grown hg5 (by have := HGK.out; simp; omega)) hR5)))))
      all_goals (
        have HR6 := Lib.hid (show Rw ceV 41 w5 g (inRowS F (q : Int) LL).flatten from by rw [inRow_yes (by rw [HB.out.len]; exact hq), ← over_flat HB.out hq HM.out]; exact Z.out.2.2)
        clear hR5 hg5
        obtain ⟨_, z0, z1, z2⟩ := Z.out.1
        go_wp2_with (refine wpList_store_G rfl (.tmp 8) (.tmp 25) rfl (b + 1 + 1) gr0 ⟨cn, rn, some ⟨g, 0, none⟩, n, k'⟩ rfl rfl Z.out.2.1 ?_; intro w6 hG6 hg6)
        refine bodyPost_ret (retG Tryd.results47 hG6 rfl) rfl ?_
        rw [HP.out.2.2.1]
        have e7 : (inRowS F (q : Int) LL).flatten.length = n := by rw [(inRow_box HB.out HL.out.2.2 _).flen]; exact HP.out.2.2.2.1.symm
        exact GPost.yes ⟨Z.out.1.1.grown hg6 Z.out.1.1.size (by intro k hk; injection hk with hk; have := H.out.be; omega), g, k', by rw [e7], Nat.le_trans H.out.bel.size X.out.2.2.2, by rw [e7]; exact hk1, hk2, HR6.out.grown hg6 (by have := HGK.out; simp; omega)⟩)
    · rw [decide_eq_false hy]
      have HE := Lib.hid (show G = some (cn, rn, LL) from by rw [HP.out.2.2.1, inRow_no (by rw [HP.out.2.1.box.len]; exact hy)])
      clear hy
      go_wp2_with (refine wpList_store_G rfl (.tmp 8) (.tmp 25) rfl (b + 1 + 1) gr0 ⟨cn, rn, some ⟨g, 0, none⟩, n, k'⟩ rfl rfl X3.out.2.1 ?_; intro w5 hG5 hg5)
      refine bodyPost_ret (retG Tryd.results47 hG5 rfl) rfl ?_
      rw [HE.out]
      have e6 : LL.flatten.length = n := by rw [HP.out.2.2.2.1]; exact HP.out.2.1.box.flen
      refine GPost.yes ⟨X3.out.1.grown hg5 X3.out.1.size (by intro k hk; injection hk with hk; have := H.out.be; omega), g, k', by rw [e6], Nat.le_trans H.out.bel.size X.out.2.2.2, by rw [e6]; exact hk1, hk2, X3.out.2.2.2.grown hg5 (by have := X.out.2.2.2; have := H.out.gb.lt; simp; omega)⟩

theorem closP_any {w : World} {A : Option Addr} {n : Nat} {L : List Ce} (x u : Int) (p : Pn) {b1 b2 b3 : Nat} (hx : w.cell? ⟨b1, 0, none⟩ = some (.int .i64 x)) (hu : w.cell? ⟨b2, 0, none⟩ = some (.int .i32 u)) (hp : Pen4 w b3 p) (h : Vs ceV w A n L) (hT : Tabs w) (hn : n ≤ 1000000) (ho : RowOk L) (hpm : penMayS p = true) :
    Calls Tryd.prog 48 #[.slice A n n, .pointer (some ⟨b1, 0, none⟩), .pointer (some ⟨b2, 0, none⟩), .pointer (some ⟨b3, 0, none⟩)] w (MadeC (putS L x u p) w) := by
  obtain ⟨R, hR⟩ : ∃ R, putS L x u p = R := ⟨_, rfl⟩
  rw [hR]
  have HC := put_at (c := n) (ok := true) x u p h hT hn (by rw [(rowMay_iff L).2 ho, hpm]; rfl) hR
  unfold pnA at HC
  have HC := Lib.hid HC
  obtain ⟨d0, d1, d2, d3, _⟩ := hp
  clear h hT hR hpm ho
  go_enter Tryd.func48, Tryd.ntmps48
  go_wp2_with fail
  refine HC.out.mono ?_
  intro e w1 hq
  obtain ⟨hb, g, k, rfl, hg, hk1, hk2, hR⟩ := hq.1 rfl
  have HP := Lib.hid (show MadeC R w (.returned (.slice (some ⟨g, 0, none⟩) R.length k)) w1 from ⟨hb, g, k, rfl, hg, hk1, hk2, hR⟩)
  clear hq hb hg hk1 hk2 hR d0 d1 d2 d3
  go_wp2_with fail
  go_ret
  exact HP.out

set_option maxHeartbeats 1600000 in
theorem gPut_any {w : World} {A : Option Addr} {n k : Nat} {c r : Int} {L : List Ce} (x y u : Int) (p : Pn) (h : Vs ceV w A n L) (hT : Tabs w) (hk : n ≤ k) (hn : n ≤ 9223372036854775807) :
    Calls Tryd.prog 24 #[.agg (gV c r A n k), .int .i64 x, .int .i64 y, .int .i32 u, .agg (pnA p)] w (GPost (opG c r L p fun _ => inRowS (fun l => putS l x u p) y) w) := by
  obtain ⟨w0, hw0⟩ : ∃ w0, w0 = ((((w.alloc (.cells (gV c r A n k) 24)).alloc (.cells #[.int .i64 x] 3)).alloc (.cells #[.int .i32 u] 21)).alloc (.cells (pnA p) 29)).alloc (.cells (gV 0 0 none 0 0) 24) := ⟨_, rfl⟩
  obtain ⟨b, hbe⟩ : ∃ b, b = w.heap.size := ⟨_, rfl⟩
  have H := Lib.hid (show Box5 w w0 b c r A n k x (.int .i32 u) p L from by rw [hw0, hbe]; exact Box5.mk' c r k x _ p 3 21 h hT)
  obtain ⟨G, hG⟩ : ∃ G, opG c r L p (fun _ => inRowS (fun l => putS l x u p) y) = G := ⟨_, rfl⟩
  have HI := inRowP_any (w := w0) (c := c) (r := r) (k := k) y p (b + 1) (b + 1 + 1) (b + 1 + 1 + 1) (fun l => putS l x u p) (fun l => putS_length l x u p)
    (fun w' M A' n' hb hv hn' ho hpm => closP_any x u p ((hb.cell (by have := H.out.p4.lt; show b + 1 < _; omega)).trans H.out.cx) ((hb.cell (by have := H.out.p4.lt; show b + 1 + 1 < _; omega)).trans H.out.cu) (H.out.p4.below hb) hv (H.out.tabs.below hb (Nat.le_refl _)) hn' ho hpm) H.out.vs H.out.tabs hk hn
  rw [hG] at HI ⊢
  unfold gV pnA at HI
  have HI := Lib.hid HI
  clear h hT hG
  have hmf : ∀ (fn : Fn) (first cap : Array Value) (w : World), (Instr.makeFunc fn first cap).run Tryd.prog w = .ok (.func fn first cap) w := fun _ _ _ _ => rfl
  obtain ⟨c0, c1, c2, _⟩ := H.out.g3
  obtain ⟨d0, d1, d2, d3, _⟩ := H.out.p4
  unfold gV pnA at hw0
  go_enter Tryd.func24, Tryd.ntmps24
  unfold gV pnA
  go_upto_region 1 with fail
  rw [← hw0, ← hbe]
  clear hw0 hbe
  go_wp2_with fail
  refine HI.out.mono ?_
  intro e w1 hq
  clear c0 c1 c2 d0 d1 d2 d3 hmf
  obtain ⟨x', hx', hq'⟩ := hq.shape
  subst hx'
  have hbel := hq'.bel
  have X := Lib.hid (And.intro (show GPost G w0 (.returned (.agg (gV x'.c x'.r x'.A x'.n x'.k))) w1 from hq') (H.out.gb.below hbel))
  clear hq hq'
  unfold gV
  go_wp2_with (refine wpList_store_G rfl (.tmp 10) (.tmp 15) rfl (b + 1 + 1 + 1 + 1) gr0 x' rfl rfl X.out.2 ?_; intro w5 hG5 hg5)
  refine bodyPost_ret (retG Tryd.results24 hG5 rfl) rfl ?_
  exact X.out.1.grown hg5 (B := w.heap.size) (by intro k hk; injection hk with hk; exact ⟨by have := H.out.gb.lt; omega, by have := H.out.be; omega⟩) rfl H.out.bel
end Go.Proofs.YtflnocgahdlojaaDoor

namespace Go.Proofs.YtflnocgahdlojaaDoor
open Go.RowKit

set_option maxHeartbeats 3200000 in
theorem inRowI_any {w : World} {A : Option Addr} {n k : Nat} {c r : Int} {L : List Ce} (y : Int) (p : Pn) (b1 b2 b3 : Nat) (F : List Ce → List Ce) (hF : ∀ l, (F l).length = l.length)
    (HC : ∀ (w' : World) (M : List Ce) (A' : Option Addr) (n' : Nat), Below w.heap.size w w' → Vs ceV w' A' n' M → n' ≤ 1000000 → RowOk M → penMayS p = true → Calls Tryd.prog 50 #[.slice A' n' n', .pointer (some ⟨b1, 0, none⟩), .pointer (some ⟨b2, 0, none⟩), .pointer (some ⟨b3, 0, none⟩)] w' (MadeC (F M) w'))
    (h : Vs ceV w A n L) (hT : Tabs w) (hk : n ≤ k) (hn : n ≤ 9223372036854775807) :
    Calls Tryd.prog 47 #[.agg (gV c r A n k), .int .i64 y, .agg (pnA p), .func (.func 50) #[] #[.pointer (some ⟨b1, 0, none⟩), .pointer (some ⟨b2, 0, none⟩), .pointer (some ⟨b3, 0, none⟩)]] w (GPost (opG c r L p fun _ => inRowS F y) w) := by
  obtain ⟨w0, hw0⟩ : ∃ w0, w0 = ((w.alloc (.cells (gV c r A n k) 24)).alloc (.cells (pnA p) 29)).alloc (.cells (gV 0 0 none 0 0) 24) := ⟨_, rfl⟩
  obtain ⟨b, hbe⟩ : ∃ b, b = w.heap.size := ⟨_, rfl⟩
  have H := Lib.hid (show Box3 w w0 b c r A n k p L from by rw [hw0, hbe]; exact Box3.mk' c r k p h hT)
  have HL := Lib.hid (And.intro h.len (And.intro hk hF))
  have HCC := Lib.hid HC
  clear h hT HC hF
  obtain ⟨ok, hok⟩ : ∃ ok, (gridMay c r L && penMayS p) = ok := ⟨_, rfl⟩
  have HOK := Lib.hid hok
  clear hok
  obtain ⟨G, hG⟩ : ∃ G, opG c r L p (fun _ => inRowS F y) = G := ⟨_, rfl⟩
  rw [hG]
  have HG := Lib.hid hG
  clear hG
  obtain ⟨c0, c1, c2, _⟩ := H.out.g3
  obtain ⟨d0, d1, d2, d3, _⟩ := H.out.p4
  unfold gV pnA at hw0
  go_enter Tryd.func47, Tryd.ntmps47
  unfold gV pnA
  go_upto_region 1 with fail
  rw [← hw0, ← hbe]
  clear hw0 hbe
  go_wp2_with fail
  refine (gWrit_any p H.out.vs H.out.tabs hk hn HOK.out).mono ?_
  rintro e w1 ⟨hyes, hno⟩
  clear c0 c1 c2 d0 d1 d2 d3
  cases ok
  · obtain ⟨rfl, hb⟩ := hno rfl
    have X := Lib.hid (show Below w.heap.size w w1 ∧ Gb w1 (b + 1 + 1) gr0 from ⟨H.out.bel.trans (hb.mono H.out.bel.size), H.out.gb.below hb⟩)
    clear hyes hno hb
    obtain ⟨w2, hw2⟩ : ∃ w2, w2 = w1.alloc (.cells (gV 0 0 none 0 0) 24) := ⟨_, rfl⟩
    obtain ⟨b', hbe'⟩ : ∃ b', b' = w1.heap.size := ⟨_, rfl⟩
    have X2 := Lib.hid (show Below w.heap.size w w2 ∧ Gb w2 (b + 1 + 1) gr0 ∧ G3 w2 b' 0 0 none 0 0 from by
      rw [hw2, hbe']
      exact ⟨X.out.1.alloc X.out.1.size _, X.out.2.below ((Below.refl _ _).alloc (Nat.le_refl _) _), g3_new w1 0 0 none 0 0 _⟩)
    obtain ⟨c0, c1, c2, _⟩ := X2.out.2.2
    unfold gV at hw2 ⊢
    go_upto_region 2 with fail
    rw [← hw2, ← hbe']
    clear hw2 hbe'
    go_wp2_with fail
    refine (hasRow_any (c := 0) (r := 0) (A := none) (n := 0) (k := 0) y _).mono ?_
    rintro e w3 ⟨rfl, hb⟩
    rw [show decide (0 ≤ y ∧ y < (0 : Int)) = false from by simp]
    have X3 := Lib.hid (show Below w.heap.size w w3 ∧ Gb w3 (b + 1 + 1) gr0 ∧ G3 w3 b' 0 0 none 0 0 from ⟨X2.out.1.trans (hb.mono X2.out.1.size), X2.out.2.1.below hb, X2.out.2.2.below hb⟩)
    clear hb c0 c1 c2
    obtain ⟨c0, c1, c2, _⟩ := X3.out.2.2
    go_wp2_with (refine wpList_store_G rfl (.tmp 8) (.tmp 25) rfl (b + 1 + 1) gr0 gr0 rfl rfl X3.out.2.1 ?_; intro w5 hG5 hg5)
    refine bodyPost_ret (retG Tryd.results47 hG5 rfl) rfl ?_
    rw [← HG.out, opG_no HOK.out]
    exact GPost.no ⟨rfl, X3.out.1.grown hg5 X3.out.1.size (by intro k hk; injection hk with hk; have := H.out.be; omega)⟩
  · obtain ⟨hb, g, k', rfl, hg, hk1, hk2, hR⟩ := hyes rfl
    obtain ⟨cn, rn, LL, rfl, rfl, hLL, hrows, hgk, hpm⟩ := opG_parts HOK.out
    have HP := Lib.hid (show L = LL.flatten ∧ Gk cn rn LL ∧ G = some (cn, rn, inRowS F y LL) ∧ n = rn * cn ∧ penMayS p = true from ⟨hLL, hgk, by rw [← HG.out]; unfold opG; rw [if_pos ⟨by have := HOK.out; simp at this; exact this.1, hpm⟩, hrows]; rfl, by rw [← HL.out.1, hLL]; exact hgk.box.flen, hpm⟩)
    rw [HL.out.1] at hk1 ⊢
    have X := Lib.hid (show Below w.heap.size w w1 ∧ Gb w1 (b + 1 + 1) gr0 ∧ Rw ceV 41 w1 g LL.flatten ∧ w0.heap.size ≤ g from ⟨H.out.bel.trans (hb.mono H.out.bel.size), H.out.gb.below hb, by rw [hLL] at hR; exact hR, hg⟩)
    clear hyes hno hb hR hLL hrows hgk hpm hg
    obtain ⟨w2, hw2⟩ : ∃ w2, w2 = w1.alloc (.cells (gV (cn : Int) (rn : Int) (some ⟨g, 0, none⟩) n k') 24) := ⟨_, rfl⟩
    obtain ⟨b', hbe'⟩ : ∃ b', b' = w1.heap.size := ⟨_, rfl⟩
    have X2 := Lib.hid (show Below w.heap.size w w2 ∧ Gb w2 (b + 1 + 1) gr0 ∧ G3 w2 b' cn rn (some ⟨g, 0, none⟩) n k' ∧ Rw ceV 41 w2 g LL.flatten ∧ g < b' from by
      rw [hw2, hbe']
      have h1 : Below w1.heap.size w1 (w1.alloc (.cells (gV (cn : Int) (rn : Int) (some ⟨g, 0, none⟩) n k') 24)) := (Below.refl _ _).alloc (Nat.le_refl _) _
      exact ⟨X.out.1.alloc X.out.1.size _, X.out.2.1.below h1, g3_new w1 cn rn (some ⟨g, 0, none⟩) n k' _, X.out.2.2.1.below h1, X.out.2.2.1.lt⟩)
    obtain ⟨c0, c1, c2, _⟩ := X2.out.2.2.1
    unfold gV at hw2 ⊢
    go_upto_region 2 with fail
    rw [← hw2, ← hbe']
    clear hw2 hbe'
    go_wp2_with fail
    refine (hasRow_any (c := (cn : Int)) (r := (rn : Int)) (A := some ⟨g, 0, none⟩) (n := n) (k := k') y _).mono ?_
    rintro e w3 ⟨rfl, hb⟩
    have X3 := Lib.hid (show Below w.heap.size w w3 ∧ Gb w3 (b + 1 + 1) gr0 ∧ G3 w3 b' cn rn (some ⟨g, 0, none⟩) n k' ∧ Rw ceV 41 w3 g LL.flatten from ⟨X2.out.1.trans (hb.mono X2.out.1.size), X2.out.2.1.below hb, X2.out.2.2.1.below hb, X2.out.2.2.2.1.below hb⟩)
    clear hb c0 c1 c2
    obtain ⟨c0, c1, c2, _⟩ := X3.out.2.2.1
    by_cases hy : 0 ≤ y ∧ y < (rn : Int)
    · obtain ⟨q, rfl⟩ : ∃ q : Nat, y = (q : Int) := ⟨y.toNat, by omega⟩
      rw [decide_eq_true hy]
      have hq : q < rn := by omega
      clear hy
      have HB := Lib.hid HP.out.2.1.box
      have hc1 := HP.out.2.1.c1
      have hc2 := HP.out.2.1.c80
      have HM := Lib.hid (show (F (lAt LL q)).length = cn from by rw [HL.out.2.2]; exact HB.out.row q hq)
      have HGK := Lib.hid (show b + 1 + 1 < g from by have := X.out.2.2.2; have := H.out.gb.lt; omega)
      have hb1 : Below w3.heap.size w3 w3.drew := belowN (Below.refl _ _) 1
      have SX := Lib.hid (show ∀ w', Below w3.heap.size w3 w' → (Below w.heap.size w w' ∧ (w'.cell? ⟨b', 0, none⟩ = some (.int .i64 (cn : Int)) ∧ w'.cell? ⟨b', 1, none⟩ = some (.int .i64 (rn : Int)) ∧ w'.cell? ⟨b', 2, none⟩ = some (.slice (some ⟨g, 0, none⟩) n k'))) from fun w' hb => by
        obtain ⟨e0, e1, e2, _⟩ := X3.out.2.2.1.below hb
        exact ⟨X3.out.1.trans (hb.mono X3.out.1.size), e0, e1, e2⟩)
      have SY := Lib.hid (show ∀ w' w'', Below w3.heap.size w3 w' → w'.grownBy w'' (some g) → (Below w.heap.size w w'' ∧ (w''.cell? ⟨b', 0, none⟩ = some (.int .i64 (cn : Int)) ∧ w''.cell? ⟨b', 1, none⟩ = some (.int .i64 (rn : Int)) ∧ w''.cell? ⟨b', 2, none⟩ = some (.slice (some ⟨g, 0, none⟩) n k'))) from fun w' w'' hb hg => by
        obtain ⟨e0, e1, e2, _⟩ := (X3.out.2.2.1.below hb).grown hg (by have := X2.out.2.2.2.2; simp; omega)
        exact ⟨(X3.out.1.trans (hb.mono X3.out.1.size)).grown hg (Nat.le_trans X3.out.1.size hb.size) (by intro k hk; injection hk with hk; have := X.out.2.2.2; have := H.out.bel.size; omega), e0, e1, e2⟩)
      have HCL := Lib.hid (show ∀ w', Below w3.heap.size w3 w' → Calls Tryd.prog 50 #[.slice (some ⟨g, q * cn * 6, none⟩) cn cn, .pointer (some ⟨b1, 0, none⟩), .pointer (some ⟨b2, 0, none⟩), .pointer (some ⟨b3, 0, none⟩)] w' fun e w'' => ∃ g2 c2, e = .returned (.slice (some ⟨g2, 0, none⟩) cn c2) ∧ Below w'.heap.size w' w'' ∧ w'.heap.size ≤ g2 ∧ Rw ceV 41 w'' g2 (F (lAt LL q)) from fun w' hb => by
        have hfit := row_fits (c := cn) hq
        have hv := (X3.out.2.2.2.below hb).vs
        have hs := hv.seg (a := q * cn) (c := cn) (by rw [HB.out.flen]; exact hfit)
        rw [addH] at hs
        have e5 : (LL.flatten.drop (q * cn)).take cn = lAt LL q := rowAt_flat HB.out hq
        rw [e5] at hs
        refine (HCC.out w' _ _ cn (X3.out.1.trans (hb.mono X3.out.1.size)) hs (by omega) (HP.out.2.1.ok q hq) HP.out.2.2.2.2).mono ?_
        rintro e w'' ⟨h1, g2, c2, he, h2, h3, h4, h5⟩
        rw [HM.out] at he
        exact ⟨g2, c2, he, h1, h2, h5⟩)
      go_wp2_with fail
      go_region_held3 (fun w' => Below w.heap.size w w' ∧ (w'.cell? ⟨b', 0, none⟩ = some (.int .i64 (cn : Int)) ∧ w'.cell? ⟨b', 1, none⟩ = some (.int .i64 (rn : Int)) ∧ w'.cell? ⟨b', 2, none⟩ = some (.slice (some ⟨g, 0, none⟩) n k')))
        ((first | (refine SX.out _ ?_; assumption) | (refine SY.out _ _ ?_ hg5; assumption)))
        ((first
          | (go_at_call 32; (try go_split_ands); refine (rowOfH_any HP.out.2.2.2.1 hq hc1 hc2 HP.out.2.1.r24 hk1).mono ?_; rintro e w4 ⟨rfl, hb4⟩; have hb5 := Below.trans (B := w3.heap.size) (by assumption) (hb4.mono (below_sz (a := w3) (B := w3.heap.size) (by assumption))))
          | (go_at_call 50; (try go_split_ands); refine (HCL.out _ (by assumption)).mono ?_; rintro e w4 ⟨g2, c2, rfl, hb4, hg2, hR4⟩; have hb5 := Below.trans (B := w3.heap.size) (by assumption) (hb4.mono (below_sz (a := w3) (B := w3.heap.size) (by assumption))))
          | (rw [if_pos (by rfl)]; refine oper_copy_V (.tmp 18) (.tmp 23) 22 22 rfl 41 ceV_len one_ce Tryd.underlying22 infoCe g (q * cn) cn cn (some ⟨g, q * cn * 6, none⟩) (some ⟨g2, 0, none⟩) cn c2 rfl rfl 41 LL.flatten (F (lAt LL q)) (X3.out.2.2.2.below (by assumption)) (by rw [HM.out]; exact (Nat.min_self cn).symm) (by first | exact hR4.vs | exact (hR4.below (by assumption)).vs) (fun _ => rfl) (by rw [HM.out, HB.out.flen]; exact row_fits hq) ?_; intro w5 hR5 hg5; have Z := Lib.hid (And.intro (SY.out _ _ (by assumption) hg5) (And.intro ((X3.out.2.1.below (by assumption)).grown hg5 (by have := HGK.out; simp; omega)) hR5)))))
      all_goals (
        have HR6 := Lib.hid (show Rw ceV 41 w5 g (inRowS F (q : Int) LL).flatten from by rw [inRow_yes (by rw [HB.out.len]; exact hq), ← over_flat HB.out hq HM.out]; exact Z.out.2.2)
        clear hR5 hg5
        obtain ⟨_, z0, z1, z2⟩ := Z.out.1
        go_wp2_with (refine wpList_store_G rfl (.tmp 8) (.tmp 25) rfl (b + 1 + 1) gr0 ⟨cn, rn, some ⟨g, 0, none⟩, n, k'⟩ rfl rfl Z.out.2.1 ?_; intro w6 hG6 hg6)
        refine bodyPost_ret (retG Tryd.results47 hG6 rfl) rfl ?_
        rw [HP.out.2.2.1]
        have e7 : (inRowS F (q : Int) LL).flatten.length = n := by rw [(inRow_box HB.out HL.out.2.2 _).flen]; exact HP.out.2.2.2.1.symm
        exact GPost.yes ⟨Z.out.1.1.grown hg6 Z.out.1.1.size (by intro k hk; injection hk with hk; have := H.out.be; omega), g, k', by rw [e7], Nat.le_trans H.out.bel.size X.out.2.2.2, by rw [e7]; exact hk1, hk2, HR6.out.grown hg6 (by have := HGK.out; simp; omega)⟩)
    · rw [decide_eq_false hy]
      have HE := Lib.hid (show G = some (cn, rn, LL) from by rw [HP.out.2.2.1, inRow_no (by rw [HP.out.2.1.box.len]; exact hy)])
      clear hy
      go_wp2_with (refine wpList_store_G rfl (.tmp 8) (.tmp 25) rfl (b + 1 + 1) gr0 ⟨cn, rn, some ⟨g, 0, none⟩, n, k'⟩ rfl rfl X3.out.2.1 ?_; intro w5 hG5 hg5)
      refine bodyPost_ret (retG Tryd.results47 hG5 rfl) rfl ?_
      rw [HE.out]
      have e6 : LL.flatten.length = n := by rw [HP.out.2.2.2.1]; exact HP.out.2.1.box.flen
      refine GPost.yes ⟨X3.out.1.grown hg5 X3.out.1.size (by intro k hk; injection hk with hk; have := H.out.be; omega), g, k', by rw [e6], Nat.le_trans H.out.bel.size X.out.2.2.2, by rw [e6]; exact hk1, hk2, X3.out.2.2.2.grown hg5 (by have := X.out.2.2.2; have := H.out.gb.lt; simp; omega)⟩

theorem closI_any {w : World} {A : Option Addr} {n : Nat} {L : List Ce} (x u : Int) (p : Pn) {b1 b2 b3 : Nat} (hx : w.cell? ⟨b1, 0, none⟩ = some (.int .i64 x)) (hu : w.cell? ⟨b2, 0, none⟩ = some (.int .i64 u)) (hp : Pen4 w b3 p) (h : Vs ceV w A n L) (hT : Tabs w) (hn : n ≤ 1000000) (ho : RowOk L) (hpm : penMayS p = true) :
    Calls Tryd.prog 50 #[.slice A n n, .pointer (some ⟨b1, 0, none⟩), .pointer (some ⟨b2, 0, none⟩), .pointer (some ⟨b3, 0, none⟩)] w (MadeC (insertS L x u p) w) := by
  obtain ⟨R, hR⟩ : ∃ R, insertS L x u p = R := ⟨_, rfl⟩
  rw [hR]
  have HC := insert_at (c := n) (ok := true) x u p h hT hn (by rw [(rowMay_iff L).2 ho, hpm]; rfl) hR
  unfold pnA at HC
  have HC := Lib.hid HC
  obtain ⟨d0, d1, d2, d3, _⟩ := hp
  clear h hT hR hpm ho
  go_enter Tryd.func50, Tryd.ntmps50
  go_wp2_with fail
  refine HC.out.mono ?_
  intro e w1 hq
  obtain ⟨hb, g, k, rfl, hg, hk1, hk2, hR⟩ := hq.1 rfl
  have HP := Lib.hid (show MadeC R w (.returned (.slice (some ⟨g, 0, none⟩) R.length k)) w1 from ⟨hb, g, k, rfl, hg, hk1, hk2, hR⟩)
  clear hq hb hg hk1 hk2 hR d0 d1 d2 d3
  go_wp2_with fail
  go_ret
  exact HP.out

set_option maxHeartbeats 1600000 in
theorem gInsert_any {w : World} {A : Option Addr} {n k : Nat} {c r : Int} {L : List Ce} (x y u : Int) (p : Pn) (h : Vs ceV w A n L) (hT : Tabs w) (hk : n ≤ k) (hn : n ≤ 9223372036854775807) :
    Calls Tryd.prog 26 #[.agg (gV c r A n k), .int .i64 x, .int .i64 y, .int .i64 u, .agg (pnA p)] w (GPost (opG c r L p fun _ => inRowS (fun l => insertS l x u p) y) w) := by
  obtain ⟨w0, hw0⟩ : ∃ w0, w0 = ((((w.alloc (.cells (gV c r A n k) 24)).alloc (.cells #[.int .i64 x] 3)).alloc (.cells #[.int .i64 u] 3)).alloc (.cells (pnA p) 29)).alloc (.cells (gV 0 0 none 0 0) 24) := ⟨_, rfl⟩
  obtain ⟨b, hbe⟩ : ∃ b, b = w.heap.size := ⟨_, rfl⟩
  have H := Lib.hid (show Box5 w w0 b c r A n k x (.int .i64 u) p L from by rw [hw0, hbe]; exact Box5.mk' c r k x _ p 3 3 h hT)
  obtain ⟨G, hG⟩ : ∃ G, opG c r L p (fun _ => inRowS (fun l => insertS l x u p) y) = G := ⟨_, rfl⟩
  have HI := inRowI_any (w := w0) (c := c) (r := r) (k := k) y p (b + 1) (b + 1 + 1) (b + 1 + 1 + 1) (fun l => insertS l x u p) (fun l => insertS_length l x u p)
    (fun w' M A' n' hb hv hn' ho hpm => closI_any x u p ((hb.cell (by have := H.out.p4.lt; show b + 1 < _; omega)).trans H.out.cx) ((hb.cell (by have := H.out.p4.lt; show b + 1 + 1 < _; omega)).trans H.out.cu) (H.out.p4.below hb) hv (H.out.tabs.below hb (Nat.le_refl _)) hn' ho hpm) H.out.vs H.out.tabs hk hn
  rw [hG] at HI ⊢
  unfold gV pnA at HI
  have HI := Lib.hid HI
  clear h hT hG
  have hmf : ∀ (fn : Fn) (first cap : Array Value) (w : World), (Instr.makeFunc fn first cap).run Tryd.prog w = .ok (.func fn first cap) w := fun _ _ _ _ => rfl
  obtain ⟨c0, c1, c2, _⟩ := H.out.g3
  obtain ⟨d0, d1, d2, d3, _⟩ := H.out.p4
  unfold gV pnA at hw0
  go_enter Tryd.func26, Tryd.ntmps26
  unfold gV pnA
  go_upto_region 1 with fail
  rw [← hw0, ← hbe]
  clear hw0 hbe
  go_wp2_with fail
  refine HI.out.mono ?_
  intro e w1 hq
  clear c0 c1 c2 d0 d1 d2 d3 hmf
  obtain ⟨x', hx', hq'⟩ := hq.shape
  subst hx'
  have hbel := hq'.bel
  have X := Lib.hid (And.intro (show GPost G w0 (.returned (.agg (gV x'.c x'.r x'.A x'.n x'.k))) w1 from hq') (H.out.gb.below hbel))
  clear hq hq'
  unfold gV
  go_wp2_with (refine wpList_store_G rfl (.tmp 10) (.tmp 15) rfl (b + 1 + 1 + 1 + 1) gr0 x' rfl rfl X.out.2 ?_; intro w5 hG5 hg5)
  refine bodyPost_ret (retG Tryd.results26 hG5 rfl) rfl ?_
  exact X.out.1.grown hg5 (B := w.heap.size) (by intro k hk; injection hk with hk; exact ⟨by have := H.out.gb.lt; omega, by have := H.out.be; omega⟩) rfl H.out.bel
end Go.Proofs.YtflnocgahdlojaaDoor

namespace Go.Proofs.YtflnocgahdlojaaDoor
open Go.RowKit

set_option maxHeartbeats 3200000 in
theorem inRowD_any {w : World} {A : Option Addr} {n k : Nat} {c r : Int} {L : List Ce} (y : Int) (p : Pn) (b1 b2 b3 : Nat) (F : List Ce → List Ce) (hF : ∀ l, (F l).length = l.length)
    (HC : ∀ (w' : World) (M : List Ce) (A' : Option Addr) (n' : Nat), Below w.heap.size w w' → Vs ceV w' A' n' M → n' ≤ 1000000 → RowOk M → penMayS p = true → Calls Tryd.prog 52 #[.slice A' n' n', .pointer (some ⟨b1, 0, none⟩), .pointer (some ⟨b2, 0, none⟩), .pointer (some ⟨b3, 0, none⟩)] w' (MadeC (F M) w'))
    (h : Vs ceV w A n L) (hT : Tabs w) (hk : n ≤ k) (hn : n ≤ 9223372036854775807) :
    Calls Tryd.prog 47 #[.agg (gV c r A n k), .int .i64 y, .agg (pnA p), .func (.func 52) #[] #[.pointer (some ⟨b1, 0, none⟩), .pointer (some ⟨b2, 0, none⟩), .pointer (some ⟨b3, 0, none⟩)]] w (GPost (opG c r L p fun _ => inRowS F y) w) := by
  obtain ⟨w0, hw0⟩ : ∃ w0, w0 = ((w.alloc (.cells (gV c r A n k) 24)).alloc (.cells (pnA p) 29)).alloc (.cells (gV 0 0 none 0 0) 24) := ⟨_, rfl⟩
  obtain ⟨b, hbe⟩ : ∃ b, b = w.heap.size := ⟨_, rfl⟩
  have H := Lib.hid (show Box3 w w0 b c r A n k p L from by rw [hw0, hbe]; exact Box3.mk' c r k p h hT)
  have HL := Lib.hid (And.intro h.len (And.intro hk hF))
  have HCC := Lib.hid HC
  clear h hT HC hF
  obtain ⟨ok, hok⟩ : ∃ ok, (gridMay c r L && penMayS p) = ok := ⟨_, rfl⟩
  have HOK := Lib.hid hok
  clear hok
  obtain ⟨G, hG⟩ : ∃ G, opG c r L p (fun _ => inRowS F y) = G := ⟨_, rfl⟩
  rw [hG]
  have HG := Lib.hid hG
  clear hG
  obtain ⟨c0, c1, c2, _⟩ := H.out.g3
  obtain ⟨d0, d1, d2, d3, _⟩ := H.out.p4
  unfold gV pnA at hw0
  go_enter Tryd.func47, Tryd.ntmps47
  unfold gV pnA
  go_upto_region 1 with fail
  rw [← hw0, ← hbe]
  clear hw0 hbe
  go_wp2_with fail
  refine (gWrit_any p H.out.vs H.out.tabs hk hn HOK.out).mono ?_
  rintro e w1 ⟨hyes, hno⟩
  clear c0 c1 c2 d0 d1 d2 d3
  cases ok
  · obtain ⟨rfl, hb⟩ := hno rfl
    have X := Lib.hid (show Below w.heap.size w w1 ∧ Gb w1 (b + 1 + 1) gr0 from ⟨H.out.bel.trans (hb.mono H.out.bel.size), H.out.gb.below hb⟩)
    clear hyes hno hb
    obtain ⟨w2, hw2⟩ : ∃ w2, w2 = w1.alloc (.cells (gV 0 0 none 0 0) 24) := ⟨_, rfl⟩
    obtain ⟨b', hbe'⟩ : ∃ b', b' = w1.heap.size := ⟨_, rfl⟩
    have X2 := Lib.hid (show Below w.heap.size w w2 ∧ Gb w2 (b + 1 + 1) gr0 ∧ G3 w2 b' 0 0 none 0 0 from by
      rw [hw2, hbe']
      exact ⟨X.out.1.alloc X.out.1.size _, X.out.2.below ((Below.refl _ _).alloc (Nat.le_refl _) _), g3_new w1 0 0 none 0 0 _⟩)
    obtain ⟨c0, c1, c2, _⟩ := X2.out.2.2
    unfold gV at hw2 ⊢
    go_upto_region 2 with fail
    rw [← hw2, ← hbe']
    clear hw2 hbe'
    go_wp2_with fail
    refine (hasRow_any (c := 0) (r := 0) (A := none) (n := 0) (k := 0) y _).mono ?_
    rintro e w3 ⟨rfl, hb⟩
    rw [show decide (0 ≤ y ∧ y < (0 : Int)) = false from by simp]
    have X3 := Lib.hid (show Below w.heap.size w w3 ∧ Gb w3 (b + 1 + 1) gr0 ∧ G3 w3 b' 0 0 none 0 0 from ⟨X2.out.1.trans (hb.mono X2.out.1.size), X2.out.2.1.below hb, X2.out.2.2.below hb⟩)
    clear hb c0 c1 c2
    obtain ⟨c0, c1, c2, _⟩ := X3.out.2.2
    go_wp2_with (refine wpList_store_G rfl (.tmp 8) (.tmp 25) rfl (b + 1 + 1) gr0 gr0 rfl rfl X3.out.2.1 ?_; intro w5 hG5 hg5)
    refine bodyPost_ret (retG Tryd.results47 hG5 rfl) rfl ?_
    rw [← HG.out, opG_no HOK.out]
    exact GPost.no ⟨rfl, X3.out.1.grown hg5 X3.out.1.size (by intro k hk; injection hk with hk; have := H.out.be; omega)⟩
  · obtain ⟨hb, g, k', rfl, hg, hk1, hk2, hR⟩ := hyes rfl
    obtain ⟨cn, rn, LL, rfl, rfl, hLL, hrows, hgk, hpm⟩ := opG_parts HOK.out
    have HP := Lib.hid (show L = LL.flatten ∧ Gk cn rn LL ∧ G = some (cn, rn, inRowS F y LL) ∧ n = rn * cn ∧ penMayS p = true from ⟨hLL, hgk, by rw [← HG.out]; unfold opG; rw [if_pos ⟨by have := HOK.out; simp at this; exact this.1, hpm⟩, hrows]; rfl, by rw [← HL.out.1, hLL]; exact hgk.box.flen, hpm⟩)
    rw [HL.out.1] at hk1 ⊢
    have X := Lib.hid (show Below w.heap.size w w1 ∧ Gb w1 (b + 1 + 1) gr0 ∧ Rw ceV 41 w1 g LL.flatten ∧ w0.heap.size ≤ g from ⟨H.out.bel.trans (hb.mono H.out.bel.size), H.out.gb.below hb, by rw [hLL] at hR; exact hR, hg⟩)
    clear hyes hno hb hR hLL hrows hgk hpm hg
    obtain ⟨w2, hw2⟩ : ∃ w2, w2 = w1.alloc (.cells (gV (cn : Int) (rn : Int) (some ⟨g, 0, none⟩) n k') 24) := ⟨_, rfl⟩
    obtain ⟨b', hbe'⟩ : ∃ b', b' = w1.heap.size := ⟨_, rfl⟩
    have X2 := Lib.hid (show Below w.heap.size w w2 ∧ Gb w2 (b + 1 + 1) gr0 ∧ G3 w2 b' cn rn (some ⟨g, 0, none⟩) n k' ∧ Rw ceV 41 w2 g LL.flatten ∧ g < b' from by
      rw [hw2, hbe']
      have h1 : Below w1.heap.size w1 (w1.alloc (.cells (gV (cn : Int) (rn : Int) (some ⟨g, 0, none⟩) n k') 24)) := (Below.refl _ _).alloc (Nat.le_refl _) _
      exact ⟨X.out.1.alloc X.out.1.size _, X.out.2.1.below h1, g3_new w1 cn rn (some ⟨g, 0, none⟩) n k' _, X.out.2.2.1.below h1, X.out.2.2.1.lt⟩)
    obtain ⟨c0, c1, c2, _⟩ := X2.out.2.2.1
    unfold gV at hw2 ⊢
    go_upto_region 2 with fail
    rw [← hw2, ← hbe']
    clear hw2 hbe'
    go_wp2_with fail
    refine (hasRow_any (c := (cn : Int)) (r := (rn : Int)) (A := some ⟨g, 0, none⟩) (n := n) (k := k') y _).mono ?_
    rintro e w3 ⟨rfl, hb⟩
    have X3 := Lib.hid (show Below w.heap.size w w3 ∧ Gb w3 (b + 1 + 1) gr0 ∧ G3 w3 b' cn rn (some ⟨g, 0, none⟩) n k' ∧ Rw ceV 41 w3 g LL.flatten from ⟨X2.out.1.trans (hb.mono X2.out.1.size), X2.out.2.1.below hb, X2.out.2.2.1.below hb, X2.out.2.2.2.1.below hb⟩)
    clear hb c0 c1 c2
    obtain ⟨c0, c1, c2, _⟩ := X3.out.2.2.1
    by_cases hy : 0 ≤ y ∧ y < (rn : Int)
    · obtain ⟨q, rfl⟩ : ∃ q : Nat, y = (q : Int) := ⟨y.toNat, by omega⟩
      rw [decide_eq_true hy]
      have hq : q < rn := by omega
      clear hy
      have HB := Lib.hid HP.out.2.1.box
      have hc1 := HP.out.2.1.c1
      have hc2 := HP.out.2.1.c80
      have HM := Lib.hid (show (F (lAt LL q)).length = cn from by rw [HL.out.2.2]; exact HB.out.row q hq)
      have HGK := Lib.hid (show b + 1 + 1 < g from by have := X.out.2.2.2; have := H.out.gb.lt; omega)
      have hb1 : Below w3.heap.size w3 w3.drew := belowN (Below.refl _ _) 1
      have SX := Lib.hid (show ∀ w', Below w3.heap.size w3 w' → (Below w.heap.size w w' ∧ (w'.cell? ⟨b', 0, none⟩ = some (.int .i64 (cn : Int)) ∧ w'.cell? ⟨b', 1, none⟩ = some (.int .i64 (rn : Int)) ∧ w'.cell? ⟨b', 2, none⟩ = some (.slice (some ⟨g, 0, none⟩) n k'))) from fun w' hb => by
        obtain ⟨e0, e1, e2, _⟩ := X3.out.2.2.1.below hb
        exact ⟨X3.out.1.trans (hb.mono X3.out.1.size), e0, e1, e2⟩)
      have SY := Lib.hid (show ∀ w' w'', Below w3.heap.size w3 w' → w'.grownBy w'' (some g) → (Below w.heap.size w w'' ∧ (w''.cell? ⟨b', 0, none⟩ = some (.int .i64 (cn : Int)) ∧ w''.cell? ⟨b', 1, none⟩ = some (.int .i64 (rn : Int)) ∧ w''.cell? ⟨b', 2, none⟩ = some (.slice (some ⟨g, 0, none⟩) n k'))) from fun w' w'' hb hg => by
        obtain ⟨e0, e1, e2, _⟩ := (X3.out.2.2.1.below hb).grown hg (by have := X2.out.2.2.2.2; simp; omega)
        exact ⟨(X3.out.1.trans (hb.mono X3.out.1.size)).grown hg (Nat.le_trans X3.out.1.size hb.size) (by intro k hk; injection hk with hk; have := X.out.2.2.2; have := H.out.bel.size; omega), e0, e1, e2⟩)
      have HCL := Lib.hid (show ∀ w', Below w3.heap.size w3 w' → Calls Tryd.prog 52 #[.slice (some ⟨g, q * cn * 6, none⟩) cn cn, .pointer (some ⟨b1, 0, none⟩), .pointer (some ⟨b2, 0, none⟩), .pointer (some ⟨b3, 0, none⟩)] w' fun e w'' => ∃ g2 c2, e = .returned (.slice (some ⟨g2, 0, none⟩) cn c2) ∧ Below w'.heap.size w' w'' ∧ w'.heap.size ≤ g2 ∧ Rw ceV 41 w'' g2 (F (lAt LL q)) from fun w' hb => by
        have hfit := row_fits (c := cn) hq
        have hv := (X3.out.2.2.2.below hb).vs
        have hs := hv.seg (a := q * cn) (c := cn) (by rw [HB.out.flen]; exact hfit)
        rw [addH] at hs
        have e5 : (LL.flatten.drop (q * cn)).take cn = lAt LL q := rowAt_flat HB.out hq
        rw [e5] at hs
        refine (HCC.out w' _ _ cn (X3.out.1.trans (hb.mono X3.out.1.size)) hs (by omega) (HP.out.2.1.ok q hq) HP.out.2.2.2.2).mono ?_
        rintro e w'' ⟨h1, g2, c2, he, h2, h3, h4, h5⟩
        rw [HM.out] at he
        exact ⟨g2, c2, he, h1, h2, h5⟩)
      go_wp2_with fail
      go_region_held3 (fun w' => Below w.heap.size w w' ∧ (w'.cell? ⟨b', 0, none⟩ = some (.int .i64 (cn : Int)) ∧ w'.cell? ⟨b', 1, none⟩ = some (.int .i64 (rn : Int)) ∧ w'.cell? ⟨b', 2, none⟩ = some (.slice (some ⟨g, 0, none⟩) n k')))
        ((first | (refine SX.out _ ?_; assumption) | (refine SY.out _ _ ?_ hg5; assumption)))
        ((first
          | (go_at_call 32; (try go_split_ands); refine (rowOfH_any HP.out.2.2.2.1 hq hc1 hc2 HP.out.2.1.r24 hk1).mono ?_; rintro e w4 ⟨rfl, hb4⟩; have hb5 := Below.trans (B := w3.heap.size) (by assumption) (hb4.mono (below_sz (a := w3) (B := w3.heap.size) (by assumption))))
          | (go_at_call 52; (try go_split_ands); refine (HCL.out _ (by assumption)).mono ?_; rintro e w4 ⟨g2, c2, rfl, hb4, hg2, hR4⟩; have hb5 := Below.trans (B := w3.heap.size) (by assumption) (hb4.mono (below_sz (a := w3) (B := w3.heap.size) (by assumption))))
          | (rw [if_pos (by rfl)]; refine oper_copy_V (.tmp 18) (.tmp 23) 22 22 rfl 41 ceV_len one_ce Tryd.underlying22 infoCe g (q * cn) cn cn (some ⟨g, q * cn * 6, none⟩) (some ⟨g2, 0, none⟩) cn c2 rfl rfl 41 LL.flatten (F (lAt LL q)) (X3.out.2.2.2.below (by assumption)) (by rw [HM.out]; exact (Nat.min_self cn).symm) (by first | exact hR4.vs | exact (hR4.below (by assumption)).vs) (fun _ => rfl) (by rw [HM.out, HB.out.flen]; exact row_fits hq) ?_; intro w5 hR5 hg5; have Z := Lib.hid (And.intro (SY.out _ _ (by assumption) hg5) (And.intro ((X3.out.2.1.below (by assumption)).grown hg5 (by have := HGK.out; simp; omega)) hR5)))))
      all_goals (
        have HR6 := Lib.hid (show Rw ceV 41 w5 g (inRowS F (q : Int) LL).flatten from by rw [inRow_yes (by rw [HB.out.len]; exact hq), ← over_flat HB.out hq HM.out]; exact Z.out.2.2)
        clear hR5 hg5
        obtain ⟨_, z0, z1, z2⟩ := Z.out.1
        go_wp2_with (refine wpList_store_G rfl (.tmp 8) (.tmp 25) rfl (b + 1 + 1) gr0 ⟨cn, rn, some ⟨g, 0, none⟩, n, k'⟩ rfl rfl Z.out.2.1 ?_; intro w6 hG6 hg6)
        refine bodyPost_ret (retG Tryd.results47 hG6 rfl) rfl ?_
        rw [HP.out.2.2.1]
        have e7 : (inRowS F (q : Int) LL).flatten.length = n := by rw [(inRow_box HB.out HL.out.2.2 _).flen]; exact HP.out.2.2.2.1.symm
        exact GPost.yes ⟨Z.out.1.1.grown hg6 Z.out.1.1.size (by intro k hk; injection hk with hk; have := H.out.be; omega), g, k', by rw [e7], Nat.le_trans H.out.bel.size X.out.2.2.2, by rw [e7]; exact hk1, hk2, HR6.out.grown hg6 (by have := HGK.out; simp; omega)⟩)
    · rw [decide_eq_false hy]
      have HE := Lib.hid (show G = some (cn, rn, LL) from by rw [HP.out.2.2.1, inRow_no (by rw [HP.out.2.1.box.len]; exact hy)])
      clear hy
      go_wp2_with (refine wpList_store_G rfl (.tmp 8) (.tmp 25) rfl (b + 1 + 1) gr0 ⟨cn, rn, some ⟨g, 0, none⟩, n, k'⟩ rfl rfl X3.out.2.1 ?_; intro w5 hG5 hg5)
      refine bodyPost_ret (retG Tryd.results47 hG5 rfl) rfl ?_
      rw [HE.out]
      have e6 : LL.flatten.length = n := by rw [HP.out.2.2.2.1]; exact HP.out.2.1.box.flen
      refine GPost.yes ⟨X3.out.1.grown hg5 X3.out.1.size (by intro k hk; injection hk with hk; have := H.out.be; omega), g, k', by rw [e6], Nat.le_trans H.out.bel.size X.out.2.2.2, by rw [e6]; exact hk1, hk2, X3.out.2.2.2.grown hg5 (by have := X.out.2.2.2; have := H.out.gb.lt; simp; omega)⟩

theorem closD_any {w : World} {A : Option Addr} {n : Nat} {L : List Ce} (x u : Int) (p : Pn) {b1 b2 b3 : Nat} (hx : w.cell? ⟨b1, 0, none⟩ = some (.int .i64 x)) (hu : w.cell? ⟨b2, 0, none⟩ = some (.int .i64 u)) (hp : Pen4 w b3 p) (h : Vs ceV w A n L) (hT : Tabs w) (hn : n ≤ 1000000) (ho : RowOk L) (hpm : penMayS p = true) :
    Calls Tryd.prog 52 #[.slice A n n, .pointer (some ⟨b1, 0, none⟩), .pointer (some ⟨b2, 0, none⟩), .pointer (some ⟨b3, 0, none⟩)] w (MadeC (deleteS L x u p) w) := by
  obtain ⟨R, hR⟩ : ∃ R, deleteS L x u p = R := ⟨_, rfl⟩
  rw [hR]
  have HC := delete_at (c := n) (ok := true) x u p h hT hn (by rw [(rowMay_iff L).2 ho, hpm]; rfl) hR
  unfold pnA at HC
  have HC := Lib.hid HC
  obtain ⟨d0, d1, d2, d3, _⟩ := hp
  clear h hT hR hpm ho
  go_enter Tryd.func52, Tryd.ntmps52
  go_wp2_with fail
  refine HC.out.mono ?_
  intro e w1 hq
  obtain ⟨hb, g, k, rfl, hg, hk1, hk2, hR⟩ := hq.1 rfl
  have HP := Lib.hid (show MadeC R w (.returned (.slice (some ⟨g, 0, none⟩) R.length k)) w1 from ⟨hb, g, k, rfl, hg, hk1, hk2, hR⟩)
  clear hq hb hg hk1 hk2 hR d0 d1 d2 d3
  go_wp2_with fail
  go_ret
  exact HP.out

set_option maxHeartbeats 1600000 in
theorem gDelete_any {w : World} {A : Option Addr} {n k : Nat} {c r : Int} {L : List Ce} (x y u : Int) (p : Pn) (h : Vs ceV w A n L) (hT : Tabs w) (hk : n ≤ k) (hn : n ≤ 9223372036854775807) :
    Calls Tryd.prog 27 #[.agg (gV c r A n k), .int .i64 x, .int .i64 y, .int .i64 u, .agg (pnA p)] w (GPost (opG c r L p fun _ => inRowS (fun l => deleteS l x u p) y) w) := by
  obtain ⟨w0, hw0⟩ : ∃ w0, w0 = ((((w.alloc (.cells (gV c r A n k) 24)).alloc (.cells #[.int .i64 x] 3)).alloc (.cells #[.int .i64 u] 3)).alloc (.cells (pnA p) 29)).alloc (.cells (gV 0 0 none 0 0) 24) := ⟨_, rfl⟩
  obtain ⟨b, hbe⟩ : ∃ b, b = w.heap.size := ⟨_, rfl⟩
  have H := Lib.hid (show Box5 w w0 b c r A n k x (.int .i64 u) p L from by rw [hw0, hbe]; exact Box5.mk' c r k x _ p 3 3 h hT)
  obtain ⟨G, hG⟩ : ∃ G, opG c r L p (fun _ => inRowS (fun l => deleteS l x u p) y) = G := ⟨_, rfl⟩
  have HI := inRowD_any (w := w0) (c := c) (r := r) (k := k) y p (b + 1) (b + 1 + 1) (b + 1 + 1 + 1) (fun l => deleteS l x u p) (fun l => deleteS_length l x u p)
    (fun w' M A' n' hb hv hn' ho hpm => closD_any x u p ((hb.cell (by have := H.out.p4.lt; show b + 1 < _; omega)).trans H.out.cx) ((hb.cell (by have := H.out.p4.lt; show b + 1 + 1 < _; omega)).trans H.out.cu) (H.out.p4.below hb) hv (H.out.tabs.below hb (Nat.le_refl _)) hn' ho hpm) H.out.vs H.out.tabs hk hn
  rw [hG] at HI ⊢
  unfold gV pnA at HI
  have HI := Lib.hid HI
  clear h hT hG
  have hmf : ∀ (fn : Fn) (first cap : Array Value) (w : World), (Instr.makeFunc fn first cap).run Tryd.prog w = .ok (.func fn first cap) w := fun _ _ _ _ => rfl
  obtain ⟨c0, c1, c2, _⟩ := H.out.g3
  obtain ⟨d0, d1, d2, d3, _⟩ := H.out.p4
  unfold gV pnA at hw0
  go_enter Tryd.func27, Tryd.ntmps27
  unfold gV pnA
  go_upto_region 1 with fail
  rw [← hw0, ← hbe]
  clear hw0 hbe
  go_wp2_with fail
  refine HI.out.mono ?_
  intro e w1 hq
  clear c0 c1 c2 d0 d1 d2 d3 hmf
  obtain ⟨x', hx', hq'⟩ := hq.shape
  subst hx'
  have hbel := hq'.bel
  have X := Lib.hid (And.intro (show GPost G w0 (.returned (.agg (gV x'.c x'.r x'.A x'.n x'.k))) w1 from hq') (H.out.gb.below hbel))
  clear hq hq'
  unfold gV
  go_wp2_with (refine wpList_store_G rfl (.tmp 10) (.tmp 15) rfl (b + 1 + 1 + 1 + 1) gr0 x' rfl rfl X.out.2 ?_; intro w5 hG5 hg5)
  refine bodyPost_ret (retG Tryd.results27 hG5 rfl) rfl ?_
  exact X.out.1.grown hg5 (B := w.heap.size) (by intro k hk; injection hk with hk; exact ⟨by have := H.out.gb.lt; omega, by have := H.out.be; omega⟩) rfl H.out.bel
end Go.Proofs.YtflnocgahdlojaaDoor
