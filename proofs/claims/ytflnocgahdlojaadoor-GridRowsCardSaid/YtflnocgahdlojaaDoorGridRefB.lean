/-
  The reference's Do, of the kind 0.
  The reference's Do, of the kind 1.
  The reference's Do, of the kind 2.
-/
import Derived.Test.YtflnocgahdlojaaDoorGridRefA
import Derived.Test.YtflnocgahdlojaaDoorCellRefPut
import Derived.Test.YtflnocgahdlojaaDoorCellKeep
import Derived.Test.YtflnocgahdlojaaDoorCellRefIns
import Derived.Test.YtflnocgahdlojaaDoorCellRefDel
namespace Go.Proofs.YtflnocgahdlojaaDoor
open Go.RowKit

set_option maxHeartbeats 3200000 in
theorem refDoP_any {w : World} {A : Option Addr} {n k : Nat} {c r : Int} {L : List Ce} (x y u v : Int) (p : Pn) (h : Vs ceV w A n L) (hk : n ≤ k) (hn : n ≤ 9223372036854775807) :
    Calls Tryd.prog 33 #[.agg (gV c r A n k), .int .i64 0, .int .i64 x, .int .i64 y, .int .i64 v, .int .i32 u, .agg (pnA p)] w (GPost (opG c r L p fun _ => inRowS (fun l => putS l x u p) y) w) := by
  obtain ⟨w0, hw0⟩ : ∃ w0, w0 = ((w.alloc (.cells (gV c r A n k) 24)).alloc (.cells (pnA p) 29)).alloc (.cells (gV 0 0 none 0 0) 24) := ⟨_, rfl⟩
  obtain ⟨b, hbe⟩ : ∃ b, b = w.heap.size := ⟨_, rfl⟩
  have H := Lib.hid (show Bx3 w w0 b c r A n k p L from by rw [hw0, hbe]; exact Bx3.mk' c r k p h)
  have HL := Lib.hid (And.intro h.len hk)
  clear h
  obtain ⟨ok, hok⟩ : ∃ ok, (gridMay c r L && penMayS p) = ok := ⟨_, rfl⟩
  have HOK := Lib.hid hok
  clear hok
  obtain ⟨m, hm⟩ : ∃ m, gridMay c r L = m := ⟨_, rfl⟩
  have HM := Lib.hid hm
  clear hm
  obtain ⟨LL, hLL⟩ : ∃ LL, rowsS c.toNat r.toNat L = LL := ⟨_, rfl⟩
  have HLL := Lib.hid hLL
  clear hLL
  obtain ⟨G, hG⟩ : ∃ G, opG c r L p (fun _ => inRowS (fun l => putS l x u p) y) = G := ⟨_, rfl⟩
  rw [hG]
  have HG := Lib.hid hG
  clear hG
  obtain ⟨c0, c1, c2, _⟩ := H.out.g3
  obtain ⟨d0, d1, d2, d3, _⟩ := H.out.p4
  unfold gV pnA at hw0
  go_enter Tryd.func33, Tryd.ntmps33
  unfold gV pnA
  go_upto_region 1 with fail
  rw [← hw0, ← hbe]
  clear hw0 hbe
  go_wp2_with fail
  refine (refRows_any H.out.vs hk hn HM.out HLL.out).mono ?_
  rintro e w1 ⟨hyes, hno⟩
  clear c0 c1 c2 d0 d1 d2 d3
  cases m
  · obtain ⟨rfl, hb⟩ := hno rfl
    have HF := Lib.hid (show ok = false from by have := HOK.out; rw [HM.out] at this; simpa using this.symm)
    have X := Lib.hid (show Below w.heap.size w w1 ∧ Gb w1 (b + 1 + 1) gr0 from ⟨H.out.bel.trans (hb.mono H.out.bel.size), H.out.gb.below hb⟩)
    clear hyes hno hb
    go_wp2_with (refine wpList_store_G rfl (.tmp 14) (.tmp 29) rfl (b + 1 + 1) gr0 gr0 rfl rfl X.out.2 ?_; intro w5 hG5 hg5)
    refine bodyPost_ret (retG Tryd.results33 hG5 rfl) rfl ?_
    rw [← HG.out, opG_no (HOK.out.trans HF.out)]
    exact GPost.no ⟨rfl, X.out.1.grown hg5 X.out.1.size (by intro k hk; injection hk with hk; have := H.out.be; omega)⟩
  · obtain ⟨hb, g, k', S, rfl, hg, hk1, hk2, htb⟩ := hyes rfl
    have X := Lib.hid (show Below w.heap.size w w1 ∧ Gb w1 (b + 1 + 1) gr0 ∧ Pen4 w1 (b + 1) p ∧ Tb w1 w.heap.size g S LL from ⟨H.out.bel.trans (hb.mono H.out.bel.size), H.out.gb.below hb, H.out.p4.below hb, htb.base H.out.bel.size⟩)
    have HGB := Lib.hid (show ¬ g = b + 1 ∧ w.heap.size ≤ g from by have := H.out.gb.lt; have := H.out.bel.size; omega)
    clear hyes hno hb hg htb
    obtain ⟨d0, d1, d2, d3, _⟩ := X.out.2.2.1
    go_wp2_with fail
    refine (refPenMay_any p _).mono ?_
    rintro e w2 ⟨rfl, hb⟩
    have X3 := Lib.hid (show Below w.heap.size w w2 ∧ Gb w2 (b + 1 + 1) gr0 ∧ Pen4 w2 (b + 1) p ∧ Tb w2 w.heap.size g S LL from ⟨X.out.1.trans (hb.mono X.out.1.size), X.out.2.1.below hb, X.out.2.2.1.below hb, X.out.2.2.2.below hb⟩)
    clear hb d0 d1 d2 d3 X
    obtain ⟨pm, hpm⟩ : ∃ pm, penMayS p = pm := ⟨_, rfl⟩
    rw [hpm]
    have HPM := Lib.hid hpm
    clear hpm
    cases pm
    · have HF := Lib.hid (show ok = false from by have := HOK.out; rw [HM.out, HPM.out] at this; simpa using this.symm)
      go_wp2_with (refine wpList_store_G rfl (.tmp 14) (.tmp 29) rfl (b + 1 + 1) gr0 gr0 rfl rfl X3.out.2.1 ?_; intro w5 hG5 hg5)
      refine bodyPost_ret (retG Tryd.results33 hG5 rfl) rfl ?_
      rw [← HG.out, opG_no (HOK.out.trans HF.out)]
      exact GPost.no ⟨rfl, X3.out.1.grown hg5 X3.out.1.size (by intro k hk; injection hk with hk; have := H.out.be; omega)⟩
    · obtain ⟨cn, rn, LL', rfl, rfl, hL', hrows, hgk⟩ := ((gridMay_iff _ _ _).1 HM.out).parts
      obtain rfl : LL' = LL := hrows.symm.trans HLL.out
      have HP := Lib.hid (show L = LL'.flatten ∧ Gk cn rn LL' ∧ G = some (cn, rn, inRowS (fun l => putS l x u p) y LL') from ⟨hL', hgk, by rw [← HG.out]; unfold opG; rw [if_pos ⟨HM.out, HPM.out⟩, hrows]; rfl⟩)
      rw [hgk.box.len] at hk1 ⊢
      clear hL' hrows hgk
      have h24 := HP.out.2.1.r24
      by_cases hy : 0 ≤ y ∧ y < (rn : Int)
      · obtain ⟨q, rfl⟩ : ∃ q : Nat, y = (q : Int) := ⟨y.toNat, by omega⟩
        have hq : q < rn := by omega
        have hqi : (q : Int) < (rn : Int) := by omega
        clear hy
        have HQ := Lib.hid (show q < LL'.length ∧ RowOk (lAt LL' q) ∧ (lAt LL' q).length = cn from ⟨by rw [HP.out.2.1.box.len]; exact hq, HP.out.2.1.ok q hq, HP.out.2.1.box.row q hq⟩)
        go_upto_region 7 with fail
        obtain ⟨w3, hw3⟩ : ∃ w3, w3 = w2.drew := ⟨_, rfl⟩
        obtain ⟨s, hs⟩ : ∃ s, s = sAt S q := ⟨_, rfl⟩
        have HO := Lib.hid (show ∀ w', Below w2.heap.size w2 w' → w'.cell? ⟨g, q, none⟩ = some (.slice s.A s.n s.k) ∧ OwnRow w' w.heap.size s (lAt LL' q) from fun w' hb => by
          rw [hs]
          exact ⟨(X3.out.2.2.2.below hb).cell HQ.out.1, (X3.out.2.2.2.below hb).ls.at_ q HQ.out.1⟩)
        have hb1 : Below w2.heap.size w2 w2.drew := belowN (Below.refl _ _) 1
        have z1 := (HO.out _ hb1).1
        clear hs hw3
        have SX := Lib.hid (show ∀ w', Below w2.heap.size w2 w' → (Below w.heap.size w w' ∧ (w'.cell? ⟨b + 1, 0, none⟩ = some (.int .u32 p.fg) ∧ w'.cell? ⟨b + 1, 1, none⟩ = some (.int .u32 p.bg) ∧ w'.cell? ⟨b + 1, 2, none⟩ = some (.int .u8 p.st) ∧ w'.cell? ⟨b + 1, 3, none⟩ = some (.int .u16 p.lk))) from fun w' hb => by
          obtain ⟨e0, e1, e2, e3, _⟩ := X3.out.2.2.1.below hb
          exact ⟨X3.out.1.trans (hb.mono X3.out.1.size), e0, e1, e2, e3⟩)
        have SY := Lib.hid (show ∀ (w' : World) (v : Value), Below w2.heap.size w2 w' → (Below w.heap.size w (w'.setCell ⟨g, q, none⟩ v) ∧ ((w'.setCell ⟨g, q, none⟩ v).cell? ⟨b + 1, 0, none⟩ = some (.int .u32 p.fg) ∧ (w'.setCell ⟨g, q, none⟩ v).cell? ⟨b + 1, 1, none⟩ = some (.int .u32 p.bg) ∧ (w'.setCell ⟨g, q, none⟩ v).cell? ⟨b + 1, 2, none⟩ = some (.int .u8 p.st) ∧ (w'.setCell ⟨g, q, none⟩ v).cell? ⟨b + 1, 3, none⟩ = some (.int .u16 p.lk))) from fun w' v hb => by
          have hg9 := grown_set1 w' ⟨g, q, none⟩ v
          obtain ⟨e0, e1, e2, e3, _⟩ := (X3.out.2.2.1.below hb).grown hg9 (by simp; exact HGB.out.1)
          exact ⟨(X3.out.1.trans (hb.mono X3.out.1.size)).grown hg9 (Nat.le_trans X3.out.1.size hb.size) (by intro k hk; injection hk with hk; have h8 : g = k := hk; have := HGB.out.2; omega), e0, e1, e2, e3⟩)
        have HCL := Lib.hid (show ∀ w', Below w2.heap.size w2 w' → Calls Tryd.prog 57 #[.slice s.A s.n s.k, .int .i64 x, .int .i32 u, .agg #[.int .u32 p.fg, .int .u32 p.bg, .int .u8 p.st, .int .u16 p.lk]] w' fun e w'' => ∃ g2 c2, e = .returned (.slice (some ⟨g2, 0, none⟩) cn c2) ∧ Below w'.heap.size w' w'' ∧ w'.heap.size ≤ g2 ∧ OwnRow w'' w.heap.size ⟨some ⟨g2, 0, none⟩, cn, c2⟩ (putS (lAt LL' q) x u p) from fun w' hb => by
          have ho := (HO.out w' hb).2
          have hsn : s.n = cn := by obtain ⟨_, _, _, h3, _⟩ := ho; rw [h3, HQ.out.2.2]
          refine (refPut_at (c := s.k) (ok := true) x u p ho.vs (by rw [hsn]; have := HP.out.2.1.c80; omega) (by rw [(rowMay_iff _).2 HQ.out.2.1, HPM.out]; rfl) ((put_eq HQ.out.2.1 x u p).symm)).mono ?_
          intro e w'' h0
          obtain ⟨h1, g2, c2, he, h2, h3, h4, h5⟩ := h0.1 rfl
          have hl : (putS (lAt LL' q) x u p).length = cn := by rw [putS_length, HQ.out.2.2]
          rw [hl] at he h3
          exact ⟨g2, c2, he, h1, h2, OwnRow.mk' (Nat.le_trans (X3.out.1.trans (hb.mono X3.out.1.size)).size h2) hl.symm h3 h4 h5⟩)
        have hb0 := hb1
        clear w3
        refine wp_region_noPanic ?_
        refine wp_region_held_drew (S := fun w' => Below w.heap.size w w' ∧ (w'.cell? ⟨b + 1, 0, none⟩ = some (.int .u32 p.fg) ∧ w'.cell? ⟨b + 1, 1, none⟩ = some (.int .u32 p.bg) ∧ w'.cell? ⟨b + 1, 2, none⟩ = some (.int .u8 p.st) ∧ w'.cell? ⟨b + 1, 3, none⟩ = some (.int .u16 p.lk))) (by kernel_rfl) (SX.out _ hb0) (fun hHeld => ?_)
        refine wpAnyH_take (i := 0) (v := .slice (some ⟨g, 0, none⟩) rn k') rfl (by kernel_rfl) (by kernel_rfl) (by kernel_rfl) (fun _ _ _ h => h) (Or.inl ⟨by rfl, fun wz hSz => ?_⟩) hHeld ?_
        · go_simp
        simp only [Act.put]
        try simp only [List.setIfInBounds_toArray]
        try simp only [List.set_cons_succ]
        try simp only [List.set_cons_zero]
        refine wpAnyH_take (i := 1) (v := .int .i64 q) rfl (by kernel_rfl) (by kernel_rfl) (by kernel_rfl) (fun _ _ _ h => h) (Or.inl ⟨by rfl, fun wz hSz => ?_⟩) hHeld ?_
        · go_simp
        simp only [Act.put]
        try simp only [List.setIfInBounds_toArray]
        try simp only [List.set_cons_succ]
        try simp only [List.set_cons_zero]
        refine wpAnyH_take (i := 2) (v := .slice (some ⟨g, 0, none⟩) rn k') rfl (by kernel_rfl) (by kernel_rfl) (by kernel_rfl) (fun _ _ _ h => h) (Or.inl ⟨by rfl, fun wz hSz => ?_⟩) hHeld ?_
        · go_simp
        simp only [Act.put]
        try simp only [List.setIfInBounds_toArray]
        try simp only [List.set_cons_succ]
        try simp only [List.set_cons_zero]
        refine wpAnyH_take (i := 3) (v := .int .i64 q) rfl (by kernel_rfl) (by kernel_rfl) (by kernel_rfl) (fun _ _ _ h => h) (Or.inl ⟨by rfl, fun wz hSz => ?_⟩) hHeld ?_
        · go_simp
        simp only [Act.put]
        try simp only [List.setIfInBounds_toArray]
        try simp only [List.set_cons_succ]
        try simp only [List.set_cons_zero]
        refine wpAnyH_take (i := 4) (v := .pointer (some ⟨g, q, none⟩)) rfl (by kernel_rfl) (by kernel_rfl) (by kernel_rfl) (fun _ _ _ h => h) (Or.inl ⟨by rfl, fun wz hSz => ?_⟩) hHeld ?_
        · go_simp
        simp only [Act.put]
        try simp only [List.setIfInBounds_toArray]
        try simp only [List.set_cons_succ]
        try simp only [List.set_cons_zero]
        refine wpAnyH_take (i := 6) (v := .int .i64 x) rfl (by kernel_rfl) (by kernel_rfl) (by kernel_rfl) (fun _ _ _ h => h) (Or.inl ⟨by rfl, fun wz hSz => ?_⟩) hHeld ?_
        · go_simp
        simp only [Act.put]
        try simp only [List.setIfInBounds_toArray]
        try simp only [List.set_cons_succ]
        try simp only [List.set_cons_zero]
        refine wpAnyH_take (i := 7) (v := .int .i32 u) rfl (by kernel_rfl) (by kernel_rfl) (by kernel_rfl) (fun _ _ _ h => h) (Or.inl ⟨by rfl, fun wz hSz => ?_⟩) hHeld ?_
        · go_simp
        simp only [Act.put]
        try simp only [List.setIfInBounds_toArray]
        try simp only [List.set_cons_succ]
        try simp only [List.set_cons_zero]
        refine wpAnyH_take (i := 8) (v := .agg #[.int .u32 p.fg, .int .u32 p.bg, .int .u8 p.st, .int .u16 p.lk]) rfl (by kernel_rfl) (by kernel_rfl) (by kernel_rfl) (fun _ _ _ h => h) (Or.inl ⟨by rfl, fun wz hSz => ?_⟩) hHeld ?_
        · obtain ⟨_, y0, y1, y2, y3⟩ := hSz; go_simp
        simp only [Act.put]
        try simp only [List.setIfInBounds_toArray]
        try simp only [List.set_cons_succ]
        try simp only [List.set_cons_zero]
        refine wpAnyH_ready (rs := [5]) (by kernel_rfl) (by simp) (AllReadyH.cons rfl (fun K hK => ?_) AllReadyH.nil)
        rw [if_pos (by rfl)]
        go_simp
        refine hK.out _ _ (hHeld) (fun hHeld => ?_)
        clear hK K
        try simp only [Act.put]
        try simp only [List.setIfInBounds_toArray]
        try simp only [List.set_cons_succ]
        try simp only [List.set_cons_zero]
        refine wpAnyH_ready (rs := [9]) (by kernel_rfl) (by simp) (AllReadyH.cons rfl (fun K hK => ?_) AllReadyH.nil)
        rw [if_pos (by rfl)]
        go_simp
        refine (HCL.out _ hb1).mono ?_
        rintro e w5 ⟨g2, c2, rfl, hb4, hg2, ho5⟩
        have hb5 := Below.trans (B := w2.heap.size) hb1 (hb4.mono (below_sz (a := w2) (B := w2.heap.size) hb1))
        refine hK.out _ _ (SX.out _ hb5) (fun hHeld => ?_)
        clear hK K
        try simp only [Act.put]
        try simp only [List.setIfInBounds_toArray]
        try simp only [List.set_cons_succ]
        try simp only [List.set_cons_zero]
        refine wpAnyH_take (i := 10) (v := .pointer (some ⟨g, q, none⟩)) rfl (by kernel_rfl) (by kernel_rfl) (by kernel_rfl) (fun _ _ _ h => h) (Or.inl ⟨by rfl, fun wz hSz => ?_⟩) hHeld ?_
        · go_simp
        simp only [Act.put]
        try simp only [List.setIfInBounds_toArray]
        try simp only [List.set_cons_succ]
        try simp only [List.set_cons_zero]
        have HT5 := Lib.hid (X3.out.2.2.2.below hb5)
        have z0 := HT5.out.cell HQ.out.1
        have f0 := HT5.out.rw_.free q
        refine wpAnyH_ready (rs := [11]) (by kernel_rfl) (by simp) (AllReadyH.cons rfl (fun K hK => ?_) AllReadyH.nil)
        rw [if_pos (by rfl)]
        go_simp
        refine hK.out _ _ (SY.out _ _ hb5) (fun hHeld => ?_)
        clear hK K
        try simp only [Act.put]
        try simp only [List.setIfInBounds_toArray]
        try simp only [List.set_cons_succ]
        try simp only [List.set_cons_zero]
        refine wpAnyH_done (by kernel_rfl) ?_ _
        refine NoPanic.normal ?_
        have Z := Lib.hid (show Below w.heap.size w (w5.setCell ⟨g, q, none⟩ (.slice (some ⟨g2, 0, none⟩) cn c2)) ∧ Gb (w5.setCell ⟨g, q, none⟩ (.slice (some ⟨g2, 0, none⟩) cn c2)) (b + 1 + 1) gr0 ∧ Tb (w5.setCell ⟨g, q, none⟩ (.slice (some ⟨g2, 0, none⟩) cn c2)) w.heap.size g (S.set q ⟨some ⟨g2, 0, none⟩, cn, c2⟩) (inRowS (fun l => putS l x u p) (q : Int) LL') from by
          have h9 := HT5.out.set HQ.out.1 ho5
          rw [inRow_yes HQ.out.1]
          exact ⟨(SY.out _ _ hb5).1, (X3.out.2.1.below hb5).grown h9.2 (fun e => rw_apart HT5.out.rw_ (X3.out.2.1.below hb5).rw (by decide) (by injection e)), h9.1⟩)
        clear z0 z1 f0 hHeld hb1 hb4 hb5 ho5 hg2 HT5 hb0
        have hbx := inRow_box HP.out.2.1.box (f := fun l => putS l x u p) (fun l => putS_length l x u p) (q : Int)
        have HBX := Lib.hid hbx
        clear hbx
        generalize w5.setCell ⟨g, q, none⟩ (.slice (some ⟨g2, 0, none⟩) cn c2) = w6 at Z ⊢
        go_wp2_with fail
        refine (refOf_any (k := k') Z.out.2.2 HBX.out HP.out.2.1.c1 HP.out.2.1.c80 HP.out.2.1.r1 HP.out.2.1.r24).mono ?_
        rintro e w7 ⟨hb, g3, k3, rfl, hg3, hk3, hk4, hR⟩
        have Y := Lib.hid (show Below w.heap.size w w7 ∧ Gb w7 (b + 1 + 1) gr0 ∧ Rw ceV 41 w7 g3 (inRowS (fun l => putS l x u p) (q : Int) LL').flatten ∧ w6.heap.size ≤ g3 from ⟨Z.out.1.trans (hb.mono Z.out.1.size), Z.out.2.1.below hb, hR, hg3⟩)
        obtain ⟨N, hN⟩ : ∃ N, N = (inRowS (fun l => putS l x u p) (q : Int) LL').flatten.length := ⟨_, rfl⟩
        rw [← hN] at hk3 ⊢
        have HN := Lib.hid hN
        have hlt6 := Z.out.2.1.lt
        clear hb hR hg3 hN
        go_wp2_with (refine wpList_store_G rfl (.tmp 14) (.tmp 79) rfl (b + 1 + 1) gr0 ⟨cn, rn, some ⟨g3, 0, none⟩, N, k3⟩ rfl rfl Y.out.2.1 ?_; intro w8 hG8 hg8)
        refine bodyPost_ret (retG Tryd.results33 hG8 rfl) rfl ?_
        rw [HP.out.2.2]
        exact GPost.yes ⟨Y.out.1.grown hg8 Y.out.1.size (by intro k hk; injection hk with hk; have := H.out.be; omega), g3, k3, by rw [HN.out], by have := Y.out.2.2.2; have := Z.out.1.size; omega, by rw [← HN.out]; exact hk3, hk4, Y.out.2.2.1.grown hg8 (by have := Y.out.2.2.2; simp; omega)⟩
      · have HE := Lib.hid (show G = some (cn, rn, LL') from by rw [HP.out.2.2, inRow_no (by rw [HP.out.2.1.box.len]; exact hy)])
        by_cases hy0 : 0 ≤ y
        · have hy1 : (rn : Int) ≤ y := by omega
          clear hy
          go_wp2_with fail
          refine (refOf_any (k := k') X3.out.2.2.2 HP.out.2.1.box HP.out.2.1.c1 HP.out.2.1.c80 HP.out.2.1.r1 HP.out.2.1.r24).mono ?_
          rintro e w7 ⟨hb, g3, k3, rfl, hg3, hk3, hk4, hR⟩
          have Y := Lib.hid (show Below w.heap.size w w7 ∧ Gb w7 (b + 1 + 1) gr0 ∧ Rw ceV 41 w7 g3 LL'.flatten ∧ w2.heap.size ≤ g3 from ⟨X3.out.1.trans (hb.mono X3.out.1.size), X3.out.2.1.below hb, hR, hg3⟩)
          obtain ⟨N, hN⟩ : ∃ N, N = LL'.flatten.length := ⟨_, rfl⟩
          rw [← hN] at hk3 ⊢
          have HN := Lib.hid hN
          have hlt6 := X3.out.2.1.lt
          clear hb hR hg3 hN
          go_wp2_with (refine wpList_store_G rfl (.tmp 14) (.tmp 79) rfl (b + 1 + 1) gr0 ⟨cn, rn, some ⟨g3, 0, none⟩, N, k3⟩ rfl rfl Y.out.2.1 ?_; intro w8 hG8 hg8)
          refine bodyPost_ret (retG Tryd.results33 hG8 rfl) rfl ?_
          rw [HE.out]
          exact GPost.yes ⟨Y.out.1.grown hg8 Y.out.1.size (by intro k hk; injection hk with hk; have := H.out.be; omega), g3, k3, by rw [HN.out], by have := Y.out.2.2.2; have := X3.out.1.size; omega, by rw [← HN.out]; exact hk3, hk4, Y.out.2.2.1.grown hg8 (by have := Y.out.2.2.2; simp; omega)⟩
        · have hy1 : y < 0 := by omega
          clear hy hy0
          go_wp2_with fail
          refine (refOf_any (k := k') X3.out.2.2.2 HP.out.2.1.box HP.out.2.1.c1 HP.out.2.1.c80 HP.out.2.1.r1 HP.out.2.1.r24).mono ?_
          rintro e w7 ⟨hb, g3, k3, rfl, hg3, hk3, hk4, hR⟩
          have Y := Lib.hid (show Below w.heap.size w w7 ∧ Gb w7 (b + 1 + 1) gr0 ∧ Rw ceV 41 w7 g3 LL'.flatten ∧ w2.heap.size ≤ g3 from ⟨X3.out.1.trans (hb.mono X3.out.1.size), X3.out.2.1.below hb, hR, hg3⟩)
          obtain ⟨N, hN⟩ : ∃ N, N = LL'.flatten.length := ⟨_, rfl⟩
          rw [← hN] at hk3 ⊢
          have HN := Lib.hid hN
          have hlt6 := X3.out.2.1.lt
          clear hb hR hg3 hN
          go_wp2_with (refine wpList_store_G rfl (.tmp 14) (.tmp 79) rfl (b + 1 + 1) gr0 ⟨cn, rn, some ⟨g3, 0, none⟩, N, k3⟩ rfl rfl Y.out.2.1 ?_; intro w8 hG8 hg8)
          refine bodyPost_ret (retG Tryd.results33 hG8 rfl) rfl ?_
          rw [HE.out]
          exact GPost.yes ⟨Y.out.1.grown hg8 Y.out.1.size (by intro k hk; injection hk with hk; have := H.out.be; omega), g3, k3, by rw [HN.out], by have := Y.out.2.2.2; have := X3.out.1.size; omega, by rw [← HN.out]; exact hk3, hk4, Y.out.2.2.1.grown hg8 (by have := Y.out.2.2.2; simp; omega)⟩
end Go.Proofs.YtflnocgahdlojaaDoor

namespace Go.Proofs.YtflnocgahdlojaaDoor
open Go.RowKit

set_option maxHeartbeats 3200000 in
theorem refDoI_any {w : World} {A : Option Addr} {n k : Nat} {c r : Int} {L : List Ce} (x y u v : Int) (p : Pn) (h : Vs ceV w A n L) (hk : n ≤ k) (hn : n ≤ 9223372036854775807) :
    Calls Tryd.prog 33 #[.agg (gV c r A n k), .int .i64 1, .int .i64 x, .int .i64 y, .int .i64 u, .int .i32 v, .agg (pnA p)] w (GPost (opG c r L p fun _ => inRowS (fun l => insertS l x u p) y) w) := by
  obtain ⟨w0, hw0⟩ : ∃ w0, w0 = ((w.alloc (.cells (gV c r A n k) 24)).alloc (.cells (pnA p) 29)).alloc (.cells (gV 0 0 none 0 0) 24) := ⟨_, rfl⟩
  obtain ⟨b, hbe⟩ : ∃ b, b = w.heap.size := ⟨_, rfl⟩
  have H := Lib.hid (show Bx3 w w0 b c r A n k p L from by rw [hw0, hbe]; exact Bx3.mk' c r k p h)
  have HL := Lib.hid (And.intro h.len hk)
  clear h
  obtain ⟨ok, hok⟩ : ∃ ok, (gridMay c r L && penMayS p) = ok := ⟨_, rfl⟩
  have HOK := Lib.hid hok
  clear hok
  obtain ⟨m, hm⟩ : ∃ m, gridMay c r L = m := ⟨_, rfl⟩
  have HM := Lib.hid hm
  clear hm
  obtain ⟨LL, hLL⟩ : ∃ LL, rowsS c.toNat r.toNat L = LL := ⟨_, rfl⟩
  have HLL := Lib.hid hLL
  clear hLL
  obtain ⟨G, hG⟩ : ∃ G, opG c r L p (fun _ => inRowS (fun l => insertS l x u p) y) = G := ⟨_, rfl⟩
  rw [hG]
  have HG := Lib.hid hG
  clear hG
  obtain ⟨c0, c1, c2, _⟩ := H.out.g3
  obtain ⟨d0, d1, d2, d3, _⟩ := H.out.p4
  unfold gV pnA at hw0
  go_enter Tryd.func33, Tryd.ntmps33
  unfold gV pnA
  go_upto_region 1 with fail
  rw [← hw0, ← hbe]
  clear hw0 hbe
  go_wp2_with fail
  refine (refRows_any H.out.vs hk hn HM.out HLL.out).mono ?_
  rintro e w1 ⟨hyes, hno⟩
  clear c0 c1 c2 d0 d1 d2 d3
  cases m
  · obtain ⟨rfl, hb⟩ := hno rfl
    have HF := Lib.hid (show ok = false from by have := HOK.out; rw [HM.out] at this; simpa using this.symm)
    have X := Lib.hid (show Below w.heap.size w w1 ∧ Gb w1 (b + 1 + 1) gr0 from ⟨H.out.bel.trans (hb.mono H.out.bel.size), H.out.gb.below hb⟩)
    clear hyes hno hb
    go_wp2_with (refine wpList_store_G rfl (.tmp 14) (.tmp 29) rfl (b + 1 + 1) gr0 gr0 rfl rfl X.out.2 ?_; intro w5 hG5 hg5)
    refine bodyPost_ret (retG Tryd.results33 hG5 rfl) rfl ?_
    rw [← HG.out, opG_no (HOK.out.trans HF.out)]
    exact GPost.no ⟨rfl, X.out.1.grown hg5 X.out.1.size (by intro k hk; injection hk with hk; have := H.out.be; omega)⟩
  · obtain ⟨hb, g, k', S, rfl, hg, hk1, hk2, htb⟩ := hyes rfl
    have X := Lib.hid (show Below w.heap.size w w1 ∧ Gb w1 (b + 1 + 1) gr0 ∧ Pen4 w1 (b + 1) p ∧ Tb w1 w.heap.size g S LL from ⟨H.out.bel.trans (hb.mono H.out.bel.size), H.out.gb.below hb, H.out.p4.below hb, htb.base H.out.bel.size⟩)
    have HGB := Lib.hid (show ¬ g = b + 1 ∧ w.heap.size ≤ g from by have := H.out.gb.lt; have := H.out.bel.size; omega)
    clear hyes hno hb hg htb
    obtain ⟨d0, d1, d2, d3, _⟩ := X.out.2.2.1
    go_wp2_with fail
    refine (refPenMay_any p _).mono ?_
    rintro e w2 ⟨rfl, hb⟩
    have X3 := Lib.hid (show Below w.heap.size w w2 ∧ Gb w2 (b + 1 + 1) gr0 ∧ Pen4 w2 (b + 1) p ∧ Tb w2 w.heap.size g S LL from ⟨X.out.1.trans (hb.mono X.out.1.size), X.out.2.1.below hb, X.out.2.2.1.below hb, X.out.2.2.2.below hb⟩)
    clear hb d0 d1 d2 d3 X
    obtain ⟨pm, hpm⟩ : ∃ pm, penMayS p = pm := ⟨_, rfl⟩
    rw [hpm]
    have HPM := Lib.hid hpm
    clear hpm
    cases pm
    · have HF := Lib.hid (show ok = false from by have := HOK.out; rw [HM.out, HPM.out] at this; simpa using this.symm)
      go_wp2_with (refine wpList_store_G rfl (.tmp 14) (.tmp 29) rfl (b + 1 + 1) gr0 gr0 rfl rfl X3.out.2.1 ?_; intro w5 hG5 hg5)
      refine bodyPost_ret (retG Tryd.results33 hG5 rfl) rfl ?_
      rw [← HG.out, opG_no (HOK.out.trans HF.out)]
      exact GPost.no ⟨rfl, X3.out.1.grown hg5 X3.out.1.size (by intro k hk; injection hk with hk; have := H.out.be; omega)⟩
    · obtain ⟨cn, rn, LL', rfl, rfl, hL', hrows, hgk⟩ := ((gridMay_iff _ _ _).1 HM.out).parts
      obtain rfl : LL' = LL := hrows.symm.trans HLL.out
      have HP := Lib.hid (show L = LL'.flatten ∧ Gk cn rn LL' ∧ G = some (cn, rn, inRowS (fun l => insertS l x u p) y LL') from ⟨hL', hgk, by rw [← HG.out]; unfold opG; rw [if_pos ⟨HM.out, HPM.out⟩, hrows]; rfl⟩)
      rw [hgk.box.len] at hk1 ⊢
      clear hL' hrows hgk
      have h24 := HP.out.2.1.r24
      by_cases hy : 0 ≤ y ∧ y < (rn : Int)
      · obtain ⟨q, rfl⟩ : ∃ q : Nat, y = (q : Int) := ⟨y.toNat, by omega⟩
        have hq : q < rn := by omega
        have hqi : (q : Int) < (rn : Int) := by omega
        clear hy
        have HQ := Lib.hid (show q < LL'.length ∧ RowOk (lAt LL' q) ∧ (lAt LL' q).length = cn from ⟨by rw [HP.out.2.1.box.len]; exact hq, HP.out.2.1.ok q hq, HP.out.2.1.box.row q hq⟩)
        go_upto_region 9 with fail
        obtain ⟨w3, hw3⟩ : ∃ w3, w3 = w2.drew := ⟨_, rfl⟩
        obtain ⟨s, hs⟩ : ∃ s, s = sAt S q := ⟨_, rfl⟩
        have HO := Lib.hid (show ∀ w', Below w2.heap.size w2 w' → w'.cell? ⟨g, q, none⟩ = some (.slice s.A s.n s.k) ∧ OwnRow w' w.heap.size s (lAt LL' q) from fun w' hb => by
          rw [hs]
          exact ⟨(X3.out.2.2.2.below hb).cell HQ.out.1, (X3.out.2.2.2.below hb).ls.at_ q HQ.out.1⟩)
        have hb1 : Below w2.heap.size w2 w2.drew := belowN (Below.refl _ _) 1
        have z1 := (HO.out _ hb1).1
        clear hs hw3
        have SX := Lib.hid (show ∀ w', Below w2.heap.size w2 w' → (Below w.heap.size w w' ∧ (w'.cell? ⟨b + 1, 0, none⟩ = some (.int .u32 p.fg) ∧ w'.cell? ⟨b + 1, 1, none⟩ = some (.int .u32 p.bg) ∧ w'.cell? ⟨b + 1, 2, none⟩ = some (.int .u8 p.st) ∧ w'.cell? ⟨b + 1, 3, none⟩ = some (.int .u16 p.lk))) from fun w' hb => by
          obtain ⟨e0, e1, e2, e3, _⟩ := X3.out.2.2.1.below hb
          exact ⟨X3.out.1.trans (hb.mono X3.out.1.size), e0, e1, e2, e3⟩)
        have SY := Lib.hid (show ∀ (w' : World) (v : Value), Below w2.heap.size w2 w' → (Below w.heap.size w (w'.setCell ⟨g, q, none⟩ v) ∧ ((w'.setCell ⟨g, q, none⟩ v).cell? ⟨b + 1, 0, none⟩ = some (.int .u32 p.fg) ∧ (w'.setCell ⟨g, q, none⟩ v).cell? ⟨b + 1, 1, none⟩ = some (.int .u32 p.bg) ∧ (w'.setCell ⟨g, q, none⟩ v).cell? ⟨b + 1, 2, none⟩ = some (.int .u8 p.st) ∧ (w'.setCell ⟨g, q, none⟩ v).cell? ⟨b + 1, 3, none⟩ = some (.int .u16 p.lk))) from fun w' v hb => by
          have hg9 := grown_set1 w' ⟨g, q, none⟩ v
          obtain ⟨e0, e1, e2, e3, _⟩ := (X3.out.2.2.1.below hb).grown hg9 (by simp; exact HGB.out.1)
          exact ⟨(X3.out.1.trans (hb.mono X3.out.1.size)).grown hg9 (Nat.le_trans X3.out.1.size hb.size) (by intro k hk; injection hk with hk; have h8 : g = k := hk; have := HGB.out.2; omega), e0, e1, e2, e3⟩)
        have HCL := Lib.hid (show ∀ w', Below w2.heap.size w2 w' → Calls Tryd.prog 58 #[.slice s.A s.n s.k, .int .i64 x, .int .i64 u, .agg #[.int .u32 p.fg, .int .u32 p.bg, .int .u8 p.st, .int .u16 p.lk]] w' fun e w'' => ∃ g2 c2, e = .returned (.slice (some ⟨g2, 0, none⟩) cn c2) ∧ Below w'.heap.size w' w'' ∧ w'.heap.size ≤ g2 ∧ OwnRow w'' w.heap.size ⟨some ⟨g2, 0, none⟩, cn, c2⟩ (insertS (lAt LL' q) x u p) from fun w' hb => by
          have ho := (HO.out w' hb).2
          have hsn : s.n = cn := by obtain ⟨_, _, _, h3, _⟩ := ho; rw [h3, HQ.out.2.2]
          refine (refInsert_at (c := s.k) (ok := true) x u p ho.vs (by rw [hsn]; have := HP.out.2.1.c80; omega) (by rw [(rowMay_iff _).2 HQ.out.2.1, HPM.out]; rfl) (ins_same HQ.out.2.1 x u p)).mono ?_
          intro e w'' h0
          obtain ⟨h1, g2, c2, he, h2, h3, h4, h5⟩ := h0.1 rfl
          have hl : (insertS (lAt LL' q) x u p).length = cn := by rw [insertS_length, HQ.out.2.2]
          rw [hl] at he h3
          exact ⟨g2, c2, he, h1, h2, OwnRow.mk' (Nat.le_trans (X3.out.1.trans (hb.mono X3.out.1.size)).size h2) hl.symm h3 h4 h5⟩)
        have hb0 := hb1
        clear w3
        refine wp_region_noPanic ?_
        refine wp_region_held_drew (S := fun w' => Below w.heap.size w w' ∧ (w'.cell? ⟨b + 1, 0, none⟩ = some (.int .u32 p.fg) ∧ w'.cell? ⟨b + 1, 1, none⟩ = some (.int .u32 p.bg) ∧ w'.cell? ⟨b + 1, 2, none⟩ = some (.int .u8 p.st) ∧ w'.cell? ⟨b + 1, 3, none⟩ = some (.int .u16 p.lk))) (by kernel_rfl) (SX.out _ hb0) (fun hHeld => ?_)
        refine wpAnyH_take (i := 0) (v := .slice (some ⟨g, 0, none⟩) rn k') rfl (by kernel_rfl) (by kernel_rfl) (by kernel_rfl) (fun _ _ _ h => h) (Or.inl ⟨by rfl, fun wz hSz => ?_⟩) hHeld ?_
        · go_simp
        simp only [Act.put]
        try simp only [List.setIfInBounds_toArray]
        try simp only [List.set_cons_succ]
        try simp only [List.set_cons_zero]
        refine wpAnyH_take (i := 1) (v := .int .i64 q) rfl (by kernel_rfl) (by kernel_rfl) (by kernel_rfl) (fun _ _ _ h => h) (Or.inl ⟨by rfl, fun wz hSz => ?_⟩) hHeld ?_
        · go_simp
        simp only [Act.put]
        try simp only [List.setIfInBounds_toArray]
        try simp only [List.set_cons_succ]
        try simp only [List.set_cons_zero]
        refine wpAnyH_take (i := 2) (v := .slice (some ⟨g, 0, none⟩) rn k') rfl (by kernel_rfl) (by kernel_rfl) (by kernel_rfl) (fun _ _ _ h => h) (Or.inl ⟨by rfl, fun wz hSz => ?_⟩) hHeld ?_
        · go_simp
        simp only [Act.put]
        try simp only [List.setIfInBounds_toArray]
        try simp only [List.set_cons_succ]
        try simp only [List.set_cons_zero]
        refine wpAnyH_take (i := 3) (v := .int .i64 q) rfl (by kernel_rfl) (by kernel_rfl) (by kernel_rfl) (fun _ _ _ h => h) (Or.inl ⟨by rfl, fun wz hSz => ?_⟩) hHeld ?_
        · go_simp
        simp only [Act.put]
        try simp only [List.setIfInBounds_toArray]
        try simp only [List.set_cons_succ]
        try simp only [List.set_cons_zero]
        refine wpAnyH_take (i := 4) (v := .pointer (some ⟨g, q, none⟩)) rfl (by kernel_rfl) (by kernel_rfl) (by kernel_rfl) (fun _ _ _ h => h) (Or.inl ⟨by rfl, fun wz hSz => ?_⟩) hHeld ?_
        · go_simp
        simp only [Act.put]
        try simp only [List.setIfInBounds_toArray]
        try simp only [List.set_cons_succ]
        try simp only [List.set_cons_zero]
        refine wpAnyH_take (i := 6) (v := .int .i64 x) rfl (by kernel_rfl) (by kernel_rfl) (by kernel_rfl) (fun _ _ _ h => h) (Or.inl ⟨by rfl, fun wz hSz => ?_⟩) hHeld ?_
        · go_simp
        simp only [Act.put]
        try simp only [List.setIfInBounds_toArray]
        try simp only [List.set_cons_succ]
        try simp only [List.set_cons_zero]
        refine wpAnyH_take (i := 7) (v := .int .i64 u) rfl (by kernel_rfl) (by kernel_rfl) (by kernel_rfl) (fun _ _ _ h => h) (Or.inl ⟨by rfl, fun wz hSz => ?_⟩) hHeld ?_
        · go_simp
        simp only [Act.put]
        try simp only [List.setIfInBounds_toArray]
        try simp only [List.set_cons_succ]
        try simp only [List.set_cons_zero]
        refine wpAnyH_take (i := 8) (v := .agg #[.int .u32 p.fg, .int .u32 p.bg, .int .u8 p.st, .int .u16 p.lk]) rfl (by kernel_rfl) (by kernel_rfl) (by kernel_rfl) (fun _ _ _ h => h) (Or.inl ⟨by rfl, fun wz hSz => ?_⟩) hHeld ?_
        · obtain ⟨_, y0, y1, y2, y3⟩ := hSz; go_simp
        simp only [Act.put]
        try simp only [List.setIfInBounds_toArray]
        try simp only [List.set_cons_succ]
        try simp only [List.set_cons_zero]
        refine wpAnyH_ready (rs := [5]) (by kernel_rfl) (by simp) (AllReadyH.cons rfl (fun K hK => ?_) AllReadyH.nil)
        rw [if_pos (by rfl)]
        go_simp
        refine hK.out _ _ (hHeld) (fun hHeld => ?_)
        clear hK K
        try simp only [Act.put]
        try simp only [List.setIfInBounds_toArray]
        try simp only [List.set_cons_succ]
        try simp only [List.set_cons_zero]
        refine wpAnyH_ready (rs := [9]) (by kernel_rfl) (by simp) (AllReadyH.cons rfl (fun K hK => ?_) AllReadyH.nil)
        rw [if_pos (by rfl)]
        go_simp
        refine (HCL.out _ hb1).mono ?_
        rintro e w5 ⟨g2, c2, rfl, hb4, hg2, ho5⟩
        have hb5 := Below.trans (B := w2.heap.size) hb1 (hb4.mono (below_sz (a := w2) (B := w2.heap.size) hb1))
        refine hK.out _ _ (SX.out _ hb5) (fun hHeld => ?_)
        clear hK K
        try simp only [Act.put]
        try simp only [List.setIfInBounds_toArray]
        try simp only [List.set_cons_succ]
        try simp only [List.set_cons_zero]
        refine wpAnyH_take (i := 10) (v := .pointer (some ⟨g, q, none⟩)) rfl (by kernel_rfl) (by kernel_rfl) (by kernel_rfl) (fun _ _ _ h => h) (Or.inl ⟨by rfl, fun wz hSz => ?_⟩) hHeld ?_
        · go_simp
        simp only [Act.put]
        try simp only [List.setIfInBounds_toArray]
        try simp only [List.set_cons_succ]
        try simp only [List.set_cons_zero]
        have HT5 := Lib.hid (X3.out.2.2.2.below hb5)
        have z0 := HT5.out.cell HQ.out.1
        have f0 := HT5.out.rw_.free q
        refine wpAnyH_ready (rs := [11]) (by kernel_rfl) (by simp) (AllReadyH.cons rfl (fun K hK => ?_) AllReadyH.nil)
        rw [if_pos (by rfl)]
        go_simp
        refine hK.out _ _ (SY.out _ _ hb5) (fun hHeld => ?_)
        clear hK K
        try simp only [Act.put]
        try simp only [List.setIfInBounds_toArray]
        try simp only [List.set_cons_succ]
        try simp only [List.set_cons_zero]
        refine wpAnyH_done (by kernel_rfl) ?_ _
        refine NoPanic.normal ?_
        have Z := Lib.hid (show Below w.heap.size w (w5.setCell ⟨g, q, none⟩ (.slice (some ⟨g2, 0, none⟩) cn c2)) ∧ Gb (w5.setCell ⟨g, q, none⟩ (.slice (some ⟨g2, 0, none⟩) cn c2)) (b + 1 + 1) gr0 ∧ Tb (w5.setCell ⟨g, q, none⟩ (.slice (some ⟨g2, 0, none⟩) cn c2)) w.heap.size g (S.set q ⟨some ⟨g2, 0, none⟩, cn, c2⟩) (inRowS (fun l => insertS l x u p) (q : Int) LL') from by
          have h9 := HT5.out.set HQ.out.1 ho5
          rw [inRow_yes HQ.out.1]
          exact ⟨(SY.out _ _ hb5).1, (X3.out.2.1.below hb5).grown h9.2 (fun e => rw_apart HT5.out.rw_ (X3.out.2.1.below hb5).rw (by decide) (by injection e)), h9.1⟩)
        clear z0 z1 f0 hHeld hb1 hb4 hb5 ho5 hg2 HT5 hb0
        have hbx := inRow_box HP.out.2.1.box (f := fun l => insertS l x u p) (fun l => insertS_length l x u p) (q : Int)
        have HBX := Lib.hid hbx
        clear hbx
        generalize w5.setCell ⟨g, q, none⟩ (.slice (some ⟨g2, 0, none⟩) cn c2) = w6 at Z ⊢
        go_wp2_with fail
        refine (refOf_any (k := k') Z.out.2.2 HBX.out HP.out.2.1.c1 HP.out.2.1.c80 HP.out.2.1.r1 HP.out.2.1.r24).mono ?_
        rintro e w7 ⟨hb, g3, k3, rfl, hg3, hk3, hk4, hR⟩
        have Y := Lib.hid (show Below w.heap.size w w7 ∧ Gb w7 (b + 1 + 1) gr0 ∧ Rw ceV 41 w7 g3 (inRowS (fun l => insertS l x u p) (q : Int) LL').flatten ∧ w6.heap.size ≤ g3 from ⟨Z.out.1.trans (hb.mono Z.out.1.size), Z.out.2.1.below hb, hR, hg3⟩)
        obtain ⟨N, hN⟩ : ∃ N, N = (inRowS (fun l => insertS l x u p) (q : Int) LL').flatten.length := ⟨_, rfl⟩
        rw [← hN] at hk3 ⊢
        have HN := Lib.hid hN
        have hlt6 := Z.out.2.1.lt
        clear hb hR hg3 hN
        go_wp2_with (refine wpList_store_G rfl (.tmp 14) (.tmp 79) rfl (b + 1 + 1) gr0 ⟨cn, rn, some ⟨g3, 0, none⟩, N, k3⟩ rfl rfl Y.out.2.1 ?_; intro w8 hG8 hg8)
        refine bodyPost_ret (retG Tryd.results33 hG8 rfl) rfl ?_
        rw [HP.out.2.2]
        exact GPost.yes ⟨Y.out.1.grown hg8 Y.out.1.size (by intro k hk; injection hk with hk; have := H.out.be; omega), g3, k3, by rw [HN.out], by have := Y.out.2.2.2; have := Z.out.1.size; omega, by rw [← HN.out]; exact hk3, hk4, Y.out.2.2.1.grown hg8 (by have := Y.out.2.2.2; simp; omega)⟩
      · have HE := Lib.hid (show G = some (cn, rn, LL') from by rw [HP.out.2.2, inRow_no (by rw [HP.out.2.1.box.len]; exact hy)])
        by_cases hy0 : 0 ≤ y
        · have hy1 : (rn : Int) ≤ y := by omega
          clear hy
          go_wp2_with fail
          refine (refOf_any (k := k') X3.out.2.2.2 HP.out.2.1.box HP.out.2.1.c1 HP.out.2.1.c80 HP.out.2.1.r1 HP.out.2.1.r24).mono ?_
          rintro e w7 ⟨hb, g3, k3, rfl, hg3, hk3, hk4, hR⟩
          have Y := Lib.hid (show Below w.heap.size w w7 ∧ Gb w7 (b + 1 + 1) gr0 ∧ Rw ceV 41 w7 g3 LL'.flatten ∧ w2.heap.size ≤ g3 from ⟨X3.out.1.trans (hb.mono X3.out.1.size), X3.out.2.1.below hb, hR, hg3⟩)
          obtain ⟨N, hN⟩ : ∃ N, N = LL'.flatten.length := ⟨_, rfl⟩
          rw [← hN] at hk3 ⊢
          have HN := Lib.hid hN
          have hlt6 := X3.out.2.1.lt
          clear hb hR hg3 hN
          go_wp2_with (refine wpList_store_G rfl (.tmp 14) (.tmp 79) rfl (b + 1 + 1) gr0 ⟨cn, rn, some ⟨g3, 0, none⟩, N, k3⟩ rfl rfl Y.out.2.1 ?_; intro w8 hG8 hg8)
          refine bodyPost_ret (retG Tryd.results33 hG8 rfl) rfl ?_
          rw [HE.out]
          exact GPost.yes ⟨Y.out.1.grown hg8 Y.out.1.size (by intro k hk; injection hk with hk; have := H.out.be; omega), g3, k3, by rw [HN.out], by have := Y.out.2.2.2; have := X3.out.1.size; omega, by rw [← HN.out]; exact hk3, hk4, Y.out.2.2.1.grown hg8 (by have := Y.out.2.2.2; simp; omega)⟩
        · have hy1 : y < 0 := by omega
          clear hy hy0
          go_wp2_with fail
          refine (refOf_any (k := k') X3.out.2.2.2 HP.out.2.1.box HP.out.2.1.c1 HP.out.2.1.c80 HP.out.2.1.r1 HP.out.2.1.r24).mono ?_
          rintro e w7 ⟨hb, g3, k3, rfl, hg3, hk3, hk4, hR⟩
          have Y := Lib.hid (show Below w.heap.size w w7 ∧ Gb w7 (b + 1 + 1) gr0 ∧ Rw ceV 41 w7 g3 LL'.flatten ∧ w2.heap.size ≤ g3 from ⟨X3.out.1.trans (hb.mono X3.out.1.size), X3.out.2.1.below hb, hR, hg3⟩)
          obtain ⟨N, hN⟩ : ∃ N, N = LL'.flatten.length := ⟨_, rfl⟩
          rw [← hN] at hk3 ⊢
          have HN := Lib.hid hN
          have hlt6 := X3.out.2.1.lt
          clear hb hR hg3 hN
          go_wp2_with (refine wpList_store_G rfl (.tmp 14) (.tmp 79) rfl (b + 1 + 1) gr0 ⟨cn, rn, some ⟨g3, 0, none⟩, N, k3⟩ rfl rfl Y.out.2.1 ?_; intro w8 hG8 hg8)
          refine bodyPost_ret (retG Tryd.results33 hG8 rfl) rfl ?_
          rw [HE.out]
          exact GPost.yes ⟨Y.out.1.grown hg8 Y.out.1.size (by intro k hk; injection hk with hk; have := H.out.be; omega), g3, k3, by rw [HN.out], by have := Y.out.2.2.2; have := X3.out.1.size; omega, by rw [← HN.out]; exact hk3, hk4, Y.out.2.2.1.grown hg8 (by have := Y.out.2.2.2; simp; omega)⟩
end Go.Proofs.YtflnocgahdlojaaDoor

namespace Go.Proofs.YtflnocgahdlojaaDoor
open Go.RowKit

set_option maxHeartbeats 3200000 in
theorem refDoD_any {w : World} {A : Option Addr} {n k : Nat} {c r : Int} {L : List Ce} (x y u v : Int) (p : Pn) (h : Vs ceV w A n L) (hk : n ≤ k) (hn : n ≤ 9223372036854775807) :
    Calls Tryd.prog 33 #[.agg (gV c r A n k), .int .i64 2, .int .i64 x, .int .i64 y, .int .i64 u, .int .i32 v, .agg (pnA p)] w (GPost (opG c r L p fun _ => inRowS (fun l => deleteS l x u p) y) w) := by
  obtain ⟨w0, hw0⟩ : ∃ w0, w0 = ((w.alloc (.cells (gV c r A n k) 24)).alloc (.cells (pnA p) 29)).alloc (.cells (gV 0 0 none 0 0) 24) := ⟨_, rfl⟩
  obtain ⟨b, hbe⟩ : ∃ b, b = w.heap.size := ⟨_, rfl⟩
  have H := Lib.hid (show Bx3 w w0 b c r A n k p L from by rw [hw0, hbe]; exact Bx3.mk' c r k p h)
  have HL := Lib.hid (And.intro h.len hk)
  clear h
  obtain ⟨ok, hok⟩ : ∃ ok, (gridMay c r L && penMayS p) = ok := ⟨_, rfl⟩
  have HOK := Lib.hid hok
  clear hok
  obtain ⟨m, hm⟩ : ∃ m, gridMay c r L = m := ⟨_, rfl⟩
  have HM := Lib.hid hm
  clear hm
  obtain ⟨LL, hLL⟩ : ∃ LL, rowsS c.toNat r.toNat L = LL := ⟨_, rfl⟩
  have HLL := Lib.hid hLL
  clear hLL
  obtain ⟨G, hG⟩ : ∃ G, opG c r L p (fun _ => inRowS (fun l => deleteS l x u p) y) = G := ⟨_, rfl⟩
  rw [hG]
  have HG := Lib.hid hG
  clear hG
  obtain ⟨c0, c1, c2, _⟩ := H.out.g3
  obtain ⟨d0, d1, d2, d3, _⟩ := H.out.p4
  unfold gV pnA at hw0
  go_enter Tryd.func33, Tryd.ntmps33
  unfold gV pnA
  go_upto_region 1 with fail
  rw [← hw0, ← hbe]
  clear hw0 hbe
  go_wp2_with fail
  refine (refRows_any H.out.vs hk hn HM.out HLL.out).mono ?_
  rintro e w1 ⟨hyes, hno⟩
  clear c0 c1 c2 d0 d1 d2 d3
  cases m
  · obtain ⟨rfl, hb⟩ := hno rfl
    have HF := Lib.hid (show ok = false from by have := HOK.out; rw [HM.out] at this; simpa using this.symm)
    have X := Lib.hid (show Below w.heap.size w w1 ∧ Gb w1 (b + 1 + 1) gr0 from ⟨H.out.bel.trans (hb.mono H.out.bel.size), H.out.gb.below hb⟩)
    clear hyes hno hb
    go_wp2_with (refine wpList_store_G rfl (.tmp 14) (.tmp 29) rfl (b + 1 + 1) gr0 gr0 rfl rfl X.out.2 ?_; intro w5 hG5 hg5)
    refine bodyPost_ret (retG Tryd.results33 hG5 rfl) rfl ?_
    rw [← HG.out, opG_no (HOK.out.trans HF.out)]
    exact GPost.no ⟨rfl, X.out.1.grown hg5 X.out.1.size (by intro k hk; injection hk with hk; have := H.out.be; omega)⟩
  · obtain ⟨hb, g, k', S, rfl, hg, hk1, hk2, htb⟩ := hyes rfl
    have X := Lib.hid (show Below w.heap.size w w1 ∧ Gb w1 (b + 1 + 1) gr0 ∧ Pen4 w1 (b + 1) p ∧ Tb w1 w.heap.size g S LL from ⟨H.out.bel.trans (hb.mono H.out.bel.size), H.out.gb.below hb, H.out.p4.below hb, htb.base H.out.bel.size⟩)
    have HGB := Lib.hid (show ¬ g = b + 1 ∧ w.heap.size ≤ g from by have := H.out.gb.lt; have := H.out.bel.size; omega)
    clear hyes hno hb hg htb
    obtain ⟨d0, d1, d2, d3, _⟩ := X.out.2.2.1
    go_wp2_with fail
    refine (refPenMay_any p _).mono ?_
    rintro e w2 ⟨rfl, hb⟩
    have X3 := Lib.hid (show Below w.heap.size w w2 ∧ Gb w2 (b + 1 + 1) gr0 ∧ Pen4 w2 (b + 1) p ∧ Tb w2 w.heap.size g S LL from ⟨X.out.1.trans (hb.mono X.out.1.size), X.out.2.1.below hb, X.out.2.2.1.below hb, X.out.2.2.2.below hb⟩)
    clear hb d0 d1 d2 d3 X
    obtain ⟨pm, hpm⟩ : ∃ pm, penMayS p = pm := ⟨_, rfl⟩
    rw [hpm]
    have HPM := Lib.hid hpm
    clear hpm
    cases pm
    · have HF := Lib.hid (show ok = false from by have := HOK.out; rw [HM.out, HPM.out] at this; simpa using this.symm)
      go_wp2_with (refine wpList_store_G rfl (.tmp 14) (.tmp 29) rfl (b + 1 + 1) gr0 gr0 rfl rfl X3.out.2.1 ?_; intro w5 hG5 hg5)
      refine bodyPost_ret (retG Tryd.results33 hG5 rfl) rfl ?_
      rw [← HG.out, opG_no (HOK.out.trans HF.out)]
      exact GPost.no ⟨rfl, X3.out.1.grown hg5 X3.out.1.size (by intro k hk; injection hk with hk; have := H.out.be; omega)⟩
    · obtain ⟨cn, rn, LL', rfl, rfl, hL', hrows, hgk⟩ := ((gridMay_iff _ _ _).1 HM.out).parts
      obtain rfl : LL' = LL := hrows.symm.trans HLL.out
      have HP := Lib.hid (show L = LL'.flatten ∧ Gk cn rn LL' ∧ G = some (cn, rn, inRowS (fun l => deleteS l x u p) y LL') from ⟨hL', hgk, by rw [← HG.out]; unfold opG; rw [if_pos ⟨HM.out, HPM.out⟩, hrows]; rfl⟩)
      rw [hgk.box.len] at hk1 ⊢
      clear hL' hrows hgk
      have h24 := HP.out.2.1.r24
      by_cases hy : 0 ≤ y ∧ y < (rn : Int)
      · obtain ⟨q, rfl⟩ : ∃ q : Nat, y = (q : Int) := ⟨y.toNat, by omega⟩
        have hq : q < rn := by omega
        have hqi : (q : Int) < (rn : Int) := by omega
        clear hy
        have HQ := Lib.hid (show q < LL'.length ∧ RowOk (lAt LL' q) ∧ (lAt LL' q).length = cn from ⟨by rw [HP.out.2.1.box.len]; exact hq, HP.out.2.1.ok q hq, HP.out.2.1.box.row q hq⟩)
        go_upto_region 11 with fail
        obtain ⟨w3, hw3⟩ : ∃ w3, w3 = w2.drew := ⟨_, rfl⟩
        obtain ⟨s, hs⟩ : ∃ s, s = sAt S q := ⟨_, rfl⟩
        have HO := Lib.hid (show ∀ w', Below w2.heap.size w2 w' → w'.cell? ⟨g, q, none⟩ = some (.slice s.A s.n s.k) ∧ OwnRow w' w.heap.size s (lAt LL' q) from fun w' hb => by
          rw [hs]
          exact ⟨(X3.out.2.2.2.below hb).cell HQ.out.1, (X3.out.2.2.2.below hb).ls.at_ q HQ.out.1⟩)
        have hb1 : Below w2.heap.size w2 w2.drew := belowN (Below.refl _ _) 1
        have z1 := (HO.out _ hb1).1
        clear hs hw3
        have SX := Lib.hid (show ∀ w', Below w2.heap.size w2 w' → (Below w.heap.size w w' ∧ (w'.cell? ⟨b + 1, 0, none⟩ = some (.int .u32 p.fg) ∧ w'.cell? ⟨b + 1, 1, none⟩ = some (.int .u32 p.bg) ∧ w'.cell? ⟨b + 1, 2, none⟩ = some (.int .u8 p.st) ∧ w'.cell? ⟨b + 1, 3, none⟩ = some (.int .u16 p.lk))) from fun w' hb => by
          obtain ⟨e0, e1, e2, e3, _⟩ := X3.out.2.2.1.below hb
          exact ⟨X3.out.1.trans (hb.mono X3.out.1.size), e0, e1, e2, e3⟩)
        have SY := Lib.hid (show ∀ (w' : World) (v : Value), Below w2.heap.size w2 w' → (Below w.heap.size w (w'.setCell ⟨g, q, none⟩ v) ∧ ((w'.setCell ⟨g, q, none⟩ v).cell? ⟨b + 1, 0, none⟩ = some (.int .u32 p.fg) ∧ (w'.setCell ⟨g, q, none⟩ v).cell? ⟨b + 1, 1, none⟩ = some (.int .u32 p.bg) ∧ (w'.setCell ⟨g, q, none⟩ v).cell? ⟨b + 1, 2, none⟩ = some (.int .u8 p.st) ∧ (w'.setCell ⟨g, q, none⟩ v).cell? ⟨b + 1, 3, none⟩ = some (.int .u16 p.lk))) from fun w' v hb => by
          have hg9 := grown_set1 w' ⟨g, q, none⟩ v
          obtain ⟨e0, e1, e2, e3, _⟩ := (X3.out.2.2.1.below hb).grown hg9 (by simp; exact HGB.out.1)
          exact ⟨(X3.out.1.trans (hb.mono X3.out.1.size)).grown hg9 (Nat.le_trans X3.out.1.size hb.size) (by intro k hk; injection hk with hk; have h8 : g = k := hk; have := HGB.out.2; omega), e0, e1, e2, e3⟩)
        have HCL := Lib.hid (show ∀ w', Below w2.heap.size w2 w' → Calls Tryd.prog 59 #[.slice s.A s.n s.k, .int .i64 x, .int .i64 u, .agg #[.int .u32 p.fg, .int .u32 p.bg, .int .u8 p.st, .int .u16 p.lk]] w' fun e w'' => ∃ g2 c2, e = .returned (.slice (some ⟨g2, 0, none⟩) cn c2) ∧ Below w'.heap.size w' w'' ∧ w'.heap.size ≤ g2 ∧ OwnRow w'' w.heap.size ⟨some ⟨g2, 0, none⟩, cn, c2⟩ (deleteS (lAt LL' q) x u p) from fun w' hb => by
          have ho := (HO.out w' hb).2
          have hsn : s.n = cn := by obtain ⟨_, _, _, h3, _⟩ := ho; rw [h3, HQ.out.2.2]
          refine (refDelete_at (c := s.k) (ok := true) x u p ho.vs (by rw [hsn]; have := HP.out.2.1.c80; omega) (by rw [(rowMay_iff _).2 HQ.out.2.1, HPM.out]; rfl) (del_same HQ.out.2.1 x u p)).mono ?_
          intro e w'' h0
          obtain ⟨h1, g2, c2, he, h2, h3, h4, h5⟩ := h0.1 rfl
          have hl : (deleteS (lAt LL' q) x u p).length = cn := by rw [deleteS_length, HQ.out.2.2]
          rw [hl] at he h3
          exact ⟨g2, c2, he, h1, h2, OwnRow.mk' (Nat.le_trans (X3.out.1.trans (hb.mono X3.out.1.size)).size h2) hl.symm h3 h4 h5⟩)
        have hb0 := hb1
        clear w3
        refine wp_region_noPanic ?_
        refine wp_region_held_drew (S := fun w' => Below w.heap.size w w' ∧ (w'.cell? ⟨b + 1, 0, none⟩ = some (.int .u32 p.fg) ∧ w'.cell? ⟨b + 1, 1, none⟩ = some (.int .u32 p.bg) ∧ w'.cell? ⟨b + 1, 2, none⟩ = some (.int .u8 p.st) ∧ w'.cell? ⟨b + 1, 3, none⟩ = some (.int .u16 p.lk))) (by kernel_rfl) (SX.out _ hb0) (fun hHeld => ?_)
        refine wpAnyH_take (i := 0) (v := .slice (some ⟨g, 0, none⟩) rn k') rfl (by kernel_rfl) (by kernel_rfl) (by kernel_rfl) (fun _ _ _ h => h) (Or.inl ⟨by rfl, fun wz hSz => ?_⟩) hHeld ?_
        · go_simp
        simp only [Act.put]
        try simp only [List.setIfInBounds_toArray]
        try simp only [List.set_cons_succ]
        try simp only [List.set_cons_zero]
        refine wpAnyH_take (i := 1) (v := .int .i64 q) rfl (by kernel_rfl) (by kernel_rfl) (by kernel_rfl) (fun _ _ _ h => h) (Or.inl ⟨by rfl, fun wz hSz => ?_⟩) hHeld ?_
        · go_simp
        simp only [Act.put]
        try simp only [List.setIfInBounds_toArray]
        try simp only [List.set_cons_succ]
        try simp only [List.set_cons_zero]
        refine wpAnyH_take (i := 2) (v := .slice (some ⟨g, 0, none⟩) rn k') rfl (by kernel_rfl) (by kernel_rfl) (by kernel_rfl) (fun _ _ _ h => h) (Or.inl ⟨by rfl, fun wz hSz => ?_⟩) hHeld ?_
        · go_simp
        simp only [Act.put]
        try simp only [List.setIfInBounds_toArray]
        try simp only [List.set_cons_succ]
        try simp only [List.set_cons_zero]
        refine wpAnyH_take (i := 3) (v := .int .i64 q) rfl (by kernel_rfl) (by kernel_rfl) (by kernel_rfl) (fun _ _ _ h => h) (Or.inl ⟨by rfl, fun wz hSz => ?_⟩) hHeld ?_
        · go_simp
        simp only [Act.put]
        try simp only [List.setIfInBounds_toArray]
        try simp only [List.set_cons_succ]
        try simp only [List.set_cons_zero]
        refine wpAnyH_take (i := 4) (v := .pointer (some ⟨g, q, none⟩)) rfl (by kernel_rfl) (by kernel_rfl) (by kernel_rfl) (fun _ _ _ h => h) (Or.inl ⟨by rfl, fun wz hSz => ?_⟩) hHeld ?_
        · go_simp
        simp only [Act.put]
        try simp only [List.setIfInBounds_toArray]
        try simp only [List.set_cons_succ]
        try simp only [List.set_cons_zero]
        refine wpAnyH_take (i := 6) (v := .int .i64 x) rfl (by kernel_rfl) (by kernel_rfl) (by kernel_rfl) (fun _ _ _ h => h) (Or.inl ⟨by rfl, fun wz hSz => ?_⟩) hHeld ?_
        · go_simp
        simp only [Act.put]
        try simp only [List.setIfInBounds_toArray]
        try simp only [List.set_cons_succ]
        try simp only [List.set_cons_zero]
        refine wpAnyH_take (i := 7) (v := .int .i64 u) rfl (by kernel_rfl) (by kernel_rfl) (by kernel_rfl) (fun _ _ _ h => h) (Or.inl ⟨by rfl, fun wz hSz => ?_⟩) hHeld ?_
        · go_simp
        simp only [Act.put]
        try simp only [List.setIfInBounds_toArray]
        try simp only [List.set_cons_succ]
        try simp only [List.set_cons_zero]
        refine wpAnyH_take (i := 8) (v := .agg #[.int .u32 p.fg, .int .u32 p.bg, .int .u8 p.st, .int .u16 p.lk]) rfl (by kernel_rfl) (by kernel_rfl) (by kernel_rfl) (fun _ _ _ h => h) (Or.inl ⟨by rfl, fun wz hSz => ?_⟩) hHeld ?_
        · obtain ⟨_, y0, y1, y2, y3⟩ := hSz; go_simp
        simp only [Act.put]
        try simp only [List.setIfInBounds_toArray]
        try simp only [List.set_cons_succ]
        try simp only [List.set_cons_zero]
        refine wpAnyH_ready (rs := [5]) (by kernel_rfl) (by simp) (AllReadyH.cons rfl (fun K hK => ?_) AllReadyH.nil)
        rw [if_pos (by rfl)]
        go_simp
        refine hK.out _ _ (hHeld) (fun hHeld => ?_)
        clear hK K
        try simp only [Act.put]
        try simp only [List.setIfInBounds_toArray]
        try simp only [List.set_cons_succ]
        try simp only [List.set_cons_zero]
        refine wpAnyH_ready (rs := [9]) (by kernel_rfl) (by simp) (AllReadyH.cons rfl (fun K hK => ?_) AllReadyH.nil)
        rw [if_pos (by rfl)]
        go_simp
        refine (HCL.out _ hb1).mono ?_
        rintro e w5 ⟨g2, c2, rfl, hb4, hg2, ho5⟩
        have hb5 := Below.trans (B := w2.heap.size) hb1 (hb4.mono (below_sz (a := w2) (B := w2.heap.size) hb1))
        refine hK.out _ _ (SX.out _ hb5) (fun hHeld => ?_)
        clear hK K
        try simp only [Act.put]
        try simp only [List.setIfInBounds_toArray]
        try simp only [List.set_cons_succ]
        try simp only [List.set_cons_zero]
        refine wpAnyH_take (i := 10) (v := .pointer (some ⟨g, q, none⟩)) rfl (by kernel_rfl) (by kernel_rfl) (by kernel_rfl) (fun _ _ _ h => h) (Or.inl ⟨by rfl, fun wz hSz => ?_⟩) hHeld ?_
        · go_simp
        simp only [Act.put]
        try simp only [List.setIfInBounds_toArray]
        try simp only [List.set_cons_succ]
        try simp only [List.set_cons_zero]
        have HT5 := Lib.hid (X3.out.2.2.2.below hb5)
        have z0 := HT5.out.cell HQ.out.1
        have f0 := HT5.out.rw_.free q
        refine wpAnyH_ready (rs := [11]) (by kernel_rfl) (by simp) (AllReadyH.cons rfl (fun K hK => ?_) AllReadyH.nil)
        rw [if_pos (by rfl)]
        go_simp
        refine hK.out _ _ (SY.out _ _ hb5) (fun hHeld => ?_)
        clear hK K
        try simp only [Act.put]
        try simp only [List.setIfInBounds_toArray]
        try simp only [List.set_cons_succ]
        try simp only [List.set_cons_zero]
        refine wpAnyH_done (by kernel_rfl) ?_ _
        refine NoPanic.normal ?_
        have Z := Lib.hid (show Below w.heap.size w (w5.setCell ⟨g, q, none⟩ (.slice (some ⟨g2, 0, none⟩) cn c2)) ∧ Gb (w5.setCell ⟨g, q, none⟩ (.slice (some ⟨g2, 0, none⟩) cn c2)) (b + 1 + 1) gr0 ∧ Tb (w5.setCell ⟨g, q, none⟩ (.slice (some ⟨g2, 0, none⟩) cn c2)) w.heap.size g (S.set q ⟨some ⟨g2, 0, none⟩, cn, c2⟩) (inRowS (fun l => deleteS l x u p) (q : Int) LL') from by
          have h9 := HT5.out.set HQ.out.1 ho5
          rw [inRow_yes HQ.out.1]
          exact ⟨(SY.out _ _ hb5).1, (X3.out.2.1.below hb5).grown h9.2 (fun e => rw_apart HT5.out.rw_ (X3.out.2.1.below hb5).rw (by decide) (by injection e)), h9.1⟩)
        clear z0 z1 f0 hHeld hb1 hb4 hb5 ho5 hg2 HT5 hb0
        have hbx := inRow_box HP.out.2.1.box (f := fun l => deleteS l x u p) (fun l => deleteS_length l x u p) (q : Int)
        have HBX := Lib.hid hbx
        clear hbx
        generalize w5.setCell ⟨g, q, none⟩ (.slice (some ⟨g2, 0, none⟩) cn c2) = w6 at Z ⊢
        go_wp2_with fail
        refine (refOf_any (k := k') Z.out.2.2 HBX.out HP.out.2.1.c1 HP.out.2.1.c80 HP.out.2.1.r1 HP.out.2.1.r24).mono ?_
        rintro e w7 ⟨hb, g3, k3, rfl, hg3, hk3, hk4, hR⟩
        have Y := Lib.hid (show Below w.heap.size w w7 ∧ Gb w7 (b + 1 + 1) gr0 ∧ Rw ceV 41 w7 g3 (inRowS (fun l => deleteS l x u p) (q : Int) LL').flatten ∧ w6.heap.size ≤ g3 from ⟨Z.out.1.trans (hb.mono Z.out.1.size), Z.out.2.1.below hb, hR, hg3⟩)
        obtain ⟨N, hN⟩ : ∃ N, N = (inRowS (fun l => deleteS l x u p) (q : Int) LL').flatten.length := ⟨_, rfl⟩
        rw [← hN] at hk3 ⊢
        have HN := Lib.hid hN
        have hlt6 := Z.out.2.1.lt
        clear hb hR hg3 hN
        go_wp2_with (refine wpList_store_G rfl (.tmp 14) (.tmp 79) rfl (b + 1 + 1) gr0 ⟨cn, rn, some ⟨g3, 0, none⟩, N, k3⟩ rfl rfl Y.out.2.1 ?_; intro w8 hG8 hg8)
        refine bodyPost_ret (retG Tryd.results33 hG8 rfl) rfl ?_
        rw [HP.out.2.2]
        exact GPost.yes ⟨Y.out.1.grown hg8 Y.out.1.size (by intro k hk; injection hk with hk; have := H.out.be; omega), g3, k3, by rw [HN.out], by have := Y.out.2.2.2; have := Z.out.1.size; omega, by rw [← HN.out]; exact hk3, hk4, Y.out.2.2.1.grown hg8 (by have := Y.out.2.2.2; simp; omega)⟩
      · have HE := Lib.hid (show G = some (cn, rn, LL') from by rw [HP.out.2.2, inRow_no (by rw [HP.out.2.1.box.len]; exact hy)])
        by_cases hy0 : 0 ≤ y
        · have hy1 : (rn : Int) ≤ y := by omega
          clear hy
          go_wp2_with fail
          refine (refOf_any (k := k') X3.out.2.2.2 HP.out.2.1.box HP.out.2.1.c1 HP.out.2.1.c80 HP.out.2.1.r1 HP.out.2.1.r24).mono ?_
          rintro e w7 ⟨hb, g3, k3, rfl, hg3, hk3, hk4, hR⟩
          have Y := Lib.hid (show Below w.heap.size w w7 ∧ Gb w7 (b + 1 + 1) gr0 ∧ Rw ceV 41 w7 g3 LL'.flatten ∧ w2.heap.size ≤ g3 from ⟨X3.out.1.trans (hb.mono X3.out.1.size), X3.out.2.1.below hb, hR, hg3⟩)
          obtain ⟨N, hN⟩ : ∃ N, N = LL'.flatten.length := ⟨_, rfl⟩
          rw [← hN] at hk3 ⊢
          have HN := Lib.hid hN
          have hlt6 := X3.out.2.1.lt
          clear hb hR hg3 hN
          go_wp2_with (refine wpList_store_G rfl (.tmp 14) (.tmp 79) rfl (b + 1 + 1) gr0 ⟨cn, rn, some ⟨g3, 0, none⟩, N, k3⟩ rfl rfl Y.out.2.1 ?_; intro w8 hG8 hg8)
          refine bodyPost_ret (retG Tryd.results33 hG8 rfl) rfl ?_
          rw [HE.out]
          exact GPost.yes ⟨Y.out.1.grown hg8 Y.out.1.size (by intro k hk; injection hk with hk; have := H.out.be; omega), g3, k3, by rw [HN.out], by have := Y.out.2.2.2; have := X3.out.1.size; omega, by rw [← HN.out]; exact hk3, hk4, Y.out.2.2.1.grown hg8 (by have := Y.out.2.2.2; simp; omega)⟩
        · have hy1 : y < 0 := by omega
          clear hy hy0
          go_wp2_with fail
          refine (refOf_any (k := k') X3.out.2.2.2 HP.out.2.1.box HP.out.2.1.c1 HP.out.2.1.c80 HP.out.2.1.r1 HP.out.2.1.r24).mono ?_
          rintro e w7 ⟨hb, g3, k3, rfl, hg3, hk3, hk4, hR⟩
          have Y := Lib.hid (show Below w.heap.size w w7 ∧ Gb w7 (b + 1 + 1) gr0 ∧ Rw ceV 41 w7 g3 LL'.flatten ∧ w2.heap.size ≤ g3 from ⟨X3.out.1.trans (hb.mono X3.out.1.size), X3.out.2.1.below hb, hR, hg3⟩)
          obtain ⟨N, hN⟩ : ∃ N, N = LL'.flatten.length := ⟨_, rfl⟩
          rw [← hN] at hk3 ⊢
          have HN := Lib.hid hN
          have hlt6 := X3.out.2.1.lt
          clear hb hR hg3 hN
          go_wp2_with (refine wpList_store_G rfl (.tmp 14) (.tmp 79) rfl (b + 1 + 1) gr0 ⟨cn, rn, some ⟨g3, 0, none⟩, N, k3⟩ rfl rfl Y.out.2.1 ?_; intro w8 hG8 hg8)
          refine bodyPost_ret (retG Tryd.results33 hG8 rfl) rfl ?_
          rw [HE.out]
          exact GPost.yes ⟨Y.out.1.grown hg8 Y.out.1.size (by intro k hk; injection hk with hk; have := H.out.be; omega), g3, k3, by rw [HN.out], by have := Y.out.2.2.2; have := X3.out.1.size; omega, by rw [← HN.out]; exact hk3, hk4, Y.out.2.2.1.grown hg8 (by have := Y.out.2.2.2; simp; omega)⟩
end Go.Proofs.YtflnocgahdlojaaDoor
