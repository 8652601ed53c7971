/-
  Proved: RowsFit answers true for every screen, all bytes and every place of a cut, over the tables that the library and the program lay (a tied card).
-/
import Derived.Test.YtikhknnhmnopbaaDoorCards
import Derived.Test.YtikhknnhmnopbaaDoorTie
import Derived.SevenTiedAt
import Derived.WalkKit
import Derived.Deep.RegionHeld3
import Derived.Deep.DeepCutAuto
import Derived.Test.YtikhknnhmnopbaaDoorPj01
import Derived.Test.YtikhknnhmnopbaaDoorPj23
import Derived.Test.YtikhknnhmnopbaaDoorPj29
import Derived.Test.YtikhknnhmnopbaaDoorPj33
namespace Go.Proofs.YtikhknnhmnopbaaDoor.rowsFit
open Go.ChangeShapes Go.WideShapes Go.ChangeAt Go.RowKit
set_option maxHeartbeats 6400000 in
set_option maxRecDepth 100000 in
theorem walk {s : ScR} {S : Sc} {dA : Option Addr} {dn dc : Nat} {d : List Int} {cut : Int} (w : World) (hT : Tabs w) (h : ScIn w s S ∧ (PosC S.cells ∧ StC S.cells ∧ 0 ≤ S.mouse)) (hs : Sb w dA dn d) (hu : U8s d) (_ : dn ≤ 140737488351232) (hcc : dn ≤ dc ∧ dc ≤ maxLen) (_ : (Lit.int .i64 cut).wf = true) :
  Calls Tryd.prog 4 #[.agg (scrA s), .slice dA dn dc, .int .i64 cut] w fun e w' => e = .returned (.bool true) ∧ Below w.heap.size w w' := by
 have HT := Lib.hid (fun w' (hb' : Below w.heap.size w w') => hT.below hb' (Nat.le_refl _))
 have HI := Lib.hid h.1
 have HP := Lib.hid h.2
 have HD := Lib.hid (And.intro hs hu)
 have hcd := hcc.1
 obtain ⟨b, hb⟩ : ∃ b, b = w.heap.size := ⟨_, rfl⟩
 obtain ⟨w1, hw1⟩ : ∃ w1, w1 = w.alloc (.cells (scrA s) 25) := ⟨_, rfl⟩
 have H1 := Lib.hid (show Sx w1 b s ∧ Below w.heap.size w w1 from by
  rw [hw1, hb]
  exact ⟨Sx.new w s, (Below.refl _ _).alloc (Nat.le_refl _) _⟩)
 have HBW := Lib.hid (show w.heap.size = b from hb.symm)
 obtain ⟨G, hG⟩ : ∃ G, greatS s = G := ⟨_, rfl⟩
 have PG := Lib.hid (great16_any s w1)
 rw [hG] at PG
 have HG := Lib.hid hG
 clear h hT hG hs hu hcc
 obtain ⟨a0, a1, a2, a3, a4, a5, a6, a7, a8, _⟩ := sx_cells H1.out.1
 unfold scrA at hw1 PG ⊢
 go_enter Tryd.func4, Tryd.ntmps4
 go_upto_region 1 with fail
 rw [← hw1, ← hb]
 clear hw1 hb
 go_wp2_with fail
 refine PG.out.mono ?_
 rintro e w2 ⟨rfl, hb2⟩
 have H2 := Lib.hid (show Sx w2 b s ∧ Below w.heap.size w w2 from ⟨H1.out.1.below hb2, H1.out.2.trans (hb2.mono H1.out.2.size)⟩)
 clear hb2 H1 PG a0 a1 a2 a3 a4 a5 a6 a7 a8
 cases G
 rotate_left
 · go_wp2_with fail
   refine (fixed16_any (HT.out _ H2.out.2)).mono ?_
   rintro e w9 ⟨rfl, hb9⟩
   have Z9 := Lib.hid (Below.trans H2.out.2 (hb9.mono (Below.size H2.out.2)))
   clear hb9
   go_wp2_with fail
   go_ret
   exact ⟨rfl, Z9.out⟩
 have HN := Lib.hid (great_no HG.out)
 clear HG
 by_cases hdl : 65536 < dn
 · go_wp2_with fail
   refine (fixed16_any (HT.out _ H2.out.2)).mono ?_
   rintro e w9 ⟨rfl, hb9⟩
   have Z9 := Lib.hid (Below.trans H2.out.2 (hb9.mono (Below.size H2.out.2)))
   clear hb9
   go_wp2_with fail
   go_ret
   exact ⟨rfl, Z9.out⟩
 obtain ⟨a0, a1, a2, a3, a4, a5, a6, a7, a8, _⟩ := sx_cells H2.out.1
 have GS := Lib.hid (fun (w' : World) (hb : Below w.heap.size w w') => Got.mk (HI.out.below hb) HP.out.1 HP.out.2.2 (by have := HN.out; omega) (by have := HN.out; omega))
 have PA := Lib.hid (cApply_any (dc := dc) (HT.out _ H2.out.2) (GS.out _ H2.out.2) (HD.out.1.below H2.out.2) HD.out.2 (by omega))
 obtain ⟨E, hE⟩ : ∃ E, (applyS S d).2 = E := ⟨_, rfl⟩
 obtain ⟨R, hR⟩ : ∃ R, (applyS S d).1 = R := ⟨_, rfl⟩
 unfold ApEnd at PA
 rw [hE, hR] at PA
 have HE := Lib.hid (And.intro hE hR)
 clear hE hR
 unfold scrA at PA
 go_wp2_with fail
 refine PA.out.mono ?_
 rintro e w3 ⟨hb3, s', rfl, hS⟩
 obtain ⟨b7, hb7⟩ : ∃ q, q = w3.heap.size := ⟨_, rfl⟩
 obtain ⟨w4, hw4⟩ : ∃ q, q = w3.alloc (.cells (scrA s') 25) := ⟨_, rfl⟩
 have H4 := Lib.hid (show Sx w4 b s ∧ Below w.heap.size w w4 ∧ Sx w4 b7 s' ∧ ScOwn w2.heap.size w4 s' R from by
  have hbb : Below w3.heap.size w3 w4 := by rw [hw4]; exact (Below.refl _ _).alloc (Nat.le_refl _) _
  have h24 : Below w2.heap.size w2 w4 := hb3.trans (hbb.mono hb3.size)
  exact ⟨H2.out.1.below h24, H2.out.2.trans (h24.mono H2.out.2.size), by rw [hw4, hb7]; exact Sx.new w3 s', hS.below hbb⟩)
 clear hb3 hS PA H2 a0 a1 a2 a3 a4 a5 a6 a7 a8
 unfold scrA at hw4
 go_upto_region 4 with fail
 rw [← hw4, ← hb7]
 clear hw4 hb7
 by_cases hE0 : E = 0
 rotate_left
 · have hEb : (E != 0) = true := by simpa using hE0
   have HR := Lib.hid (show R = scZero from by rw [← HE.out.2]; exact apply_none (by rw [HE.out.1]; exact hE0))
   have HS0 := Lib.hid (show s'.n = 0 from by have h1 := H4.out.2.2.2.sc.cells.len; rw [HR.out] at h1; exact h1.symm)
   clear hE0
   go_wp2_with fail
   refine (fixed16_any (HT.out _ H4.out.2.1)).mono ?_
   rintro e w9 ⟨rfl, hb9⟩
   have Z9 := Lib.hid (show Below w.heap.size w w9 ∧ Sx w9 b7 s' from ⟨Below.trans H4.out.2.1 (hb9.mono (Below.size H4.out.2.1)), H4.out.2.2.1.below hb9⟩)
   clear hb9
   obtain ⟨_, _, c2, _, _, _, _, _, _, _⟩ := sx_cells Z9.out.2
   rw [HS0.out] at c2
   go_wp2_with fail
   go_ret
   exact ⟨rfl, Z9.out.1⟩
 subst hE0
 have HFR := Lib.hid (show fitsS R = true from by rw [← HE.out.2]; exact apply_fits HE.out.1)
 go_wp2_with fail
 refine (fixed16_any (HT.out _ H4.out.2.1)).mono ?_
 rintro e w5 ⟨rfl, hb5⟩
 have H5 := Lib.hid (show Sx w5 b s ∧ Below w.heap.size w w5 ∧ Sx w5 b7 s' ∧ ScOwn w2.heap.size w5 s' R from ⟨H4.out.1.below hb5, H4.out.2.1.trans (hb5.mono H4.out.2.1.size), H4.out.2.2.1.below hb5, H4.out.2.2.2.below hb5⟩)
 clear hb5 H4
 obtain ⟨a0, a1, a2, a3, a4, a5, a6, a7, a8, _⟩ := sx_cells H5.out.2.2.1
 have PF := Lib.hid (cFits_any (HT.out _ H5.out.2.1) H5.out.2.2.2.sc (by have := H5.out.2.2.2.n; omega) (by have := H5.out.2.2.2.m; omega))
 rw [HFR.out] at PF
 unfold scrA at PF
 go_wp2_with fail
 refine PF.out.mono ?_
 rintro e w6 ⟨rfl, hb6⟩
 have H6 := Lib.hid (show Sx w6 b s ∧ Below w.heap.size w w6 from ⟨H5.out.1.below hb6, H5.out.2.1.trans (hb6.mono H5.out.2.1.size)⟩)
 clear hb6 H5 PF a0 a1 a2 a3 a4 a5 a6 a7 a8
 by_cases hc0 : cut < 0
 · go_wp2_with fail
   go_ret
   exact ⟨rfl, H6.out.2⟩
 by_cases hc1 : (dn : Int) ≤ cut
 · go_wp2_with fail
   go_ret
   exact ⟨rfl, H6.out.2⟩
 obtain ⟨k, hk⟩ : ∃ k : Nat, cut = (k : Int) := ⟨cut.toNat, by omega⟩
 subst hk
 have hkn : k < dn := by omega
 have HNE := Lib.hid (show (applyS S (d.take k)).2 ≠ 0 from apply_cut HE.out.1 (by rw [HD.out.1.len]; exact hkn))
 have PC := Lib.hid (fun (w' : World) (hb : Below w.heap.size w w') => cApply_any (dc := dc) (HT.out _ hb) (GS.out _ hb) ((HD.out.1.front (k := k) (by omega)).below hb) (fun z hz => HD.out.2 z (List.mem_of_mem_take hz)) (by omega))
 obtain ⟨E2, hE2⟩ : ∃ E2, (applyS S (d.take k)).2 = E2 := ⟨_, rfl⟩
 unfold ApEnd at PC
 rw [hE2] at PC HNE
 clear hE2
 unfold scrA at PC
 have p0 : (0 : Int) ≤ (k : Int) := by omega
 have p1 : (k : Int) ≤ (dc : Int) := by omega
 go_upto_region 10 with fail
 go_cut [9, 10] (fun v9 v10 wc => v10 = .int .i64 E2 ∧ Below w.heap.size w wc)
 case first =>
  have hS0 : ∀ w', Sx w' b s → (w'.cell? ⟨b, 0, none⟩ = some (.int .i64 s.c) ∧ w'.cell? ⟨b, 1, none⟩ = some (.int .i64 s.r) ∧ w'.cell? ⟨b, 2, none⟩ = some (.slice s.A s.n s.k) ∧ w'.cell? ⟨b, 3, none⟩ = some (.int .i64 s.x) ∧ w'.cell? ⟨b, 4, none⟩ = some (.int .i64 s.y) ∧ w'.cell? ⟨b, 5, none⟩ = some (.bool s.hid) ∧ w'.cell? ⟨b, 6, none⟩ = some (.int .u8 s.mouse) ∧ w'.cell? ⟨b, 7, none⟩ = some (.string s.ttl) ∧ w'.cell? ⟨b, 8, none⟩ = some (.slice s.T s.m s.q)) := fun w' h => by
   have t0 := sx_cells h
   exact ⟨t0.c0, t0.c1, t0.c2, t0.c3, t0.c4, t0.c5, t0.c6, t0.c7, t0.c8⟩
  have SY := Lib.hid hS0
  clear hS0
  refine wp_region_noPanic ?_
  refine wp_region_held_drew (S := fun w' => w'.cell? ⟨b, 0, none⟩ = some (.int .i64 s.c) ∧ w'.cell? ⟨b, 1, none⟩ = some (.int .i64 s.r) ∧ w'.cell? ⟨b, 2, none⟩ = some (.slice s.A s.n s.k) ∧ w'.cell? ⟨b, 3, none⟩ = some (.int .i64 s.x) ∧ w'.cell? ⟨b, 4, none⟩ = some (.int .i64 s.y) ∧ w'.cell? ⟨b, 5, none⟩ = some (.bool s.hid) ∧ w'.cell? ⟨b, 6, none⟩ = some (.int .u8 s.mouse) ∧ w'.cell? ⟨b, 7, none⟩ = some (.string s.ttl) ∧ w'.cell? ⟨b, 8, none⟩ = some (.slice s.T s.m s.q)) (by kernel_rfl) (SY.out _ (H6.out.1.below (Below.refl _ _).drew)) (fun hHeld => ?_)
  refine wpAnyH_take (i := 0) (v := .agg #[.int .i64 s.c, .int .i64 s.r, .slice s.A s.n s.k, .int .i64 s.x, .int .i64 s.y, .bool s.hid, .int .u8 s.mouse, .string s.ttl, .slice s.T s.m s.q]) rfl (by kernel_rfl) (by kernel_rfl) (by kernel_rfl) (fun _ _ _ h => h) (Or.inl ⟨by rfl, fun wz hSz => ?_⟩) hHeld ?_
  · obtain ⟨e0, e1, e2, e3, e4, e5, e6, e7, e8⟩ := hSz
    go_simp
  simp only [Act.put, List.getElem_toArray, List.getElem_cons_zero]
  try simp only [List.setIfInBounds_toArray]
  try simp only [List.set_cons_succ]
  try simp only [List.set_cons_zero]
  refine wpAnyH_take (i := 1) (v := .slice dA dn dc) rfl (by kernel_rfl) (by kernel_rfl) (by kernel_rfl) (fun _ _ _ h => h) (Or.inl ⟨by rfl, fun wz hSz => ?_⟩) hHeld ?_
  · go_simp
  simp only [Act.put, List.getElem_toArray, List.getElem_cons_succ, List.getElem_cons_zero]
  try simp only [List.setIfInBounds_toArray]
  try simp only [List.set_cons_succ]
  try simp only [List.set_cons_zero]
  refine wpAnyH_take (i := 2) (v := .int .i64 (k : Int)) rfl (by kernel_rfl) (by kernel_rfl) (by kernel_rfl) (fun _ _ _ h => h) (Or.inl ⟨by rfl, fun wz hSz => ?_⟩) hHeld ?_
  · go_simp
  simp only [Act.put, List.getElem_toArray, List.getElem_cons_succ, List.getElem_cons_zero]
  try simp only [List.setIfInBounds_toArray]
  try simp only [List.set_cons_succ]
  try simp only [List.set_cons_zero]
  refine wpAnyH_take (i := 3) (v := .slice dA k dc) rfl (by kernel_rfl) (by kernel_rfl) (by kernel_rfl) (fun _ _ _ h => h) (Or.inl ⟨by rfl, fun wz hSz => ?_⟩) hHeld ?_
  · go_simp
  simp only [Act.put, List.getElem_toArray, List.getElem_cons_succ, List.getElem_cons_zero]
  try simp only [List.setIfInBounds_toArray]
  try simp only [List.set_cons_succ]
  try simp only [List.set_cons_zero]
  obtain ⟨w10, hw10⟩ : ∃ q, q = w6.drew := ⟨_, rfl⟩
  have H10 := Lib.hid (show Sx w10 b s ∧ Below w.heap.size w w10 from by
   have hbb : Below w6.heap.size w6 w10 := by rw [hw10]; exact (Below.refl _ _).drew
   exact ⟨H6.out.1.below hbb, H6.out.2.trans (hbb.mono H6.out.2.size)⟩)
  rw [← hw10] at hHeld ⊢
  clear hw10
  refine wpAnyH_ready (rs := [4, 8]) (by kernel_rfl) (by simp) (AllReadyH.cons rfl (fun K hK => ?_) (AllReadyH.cons rfl (fun K hK => ?_) AllReadyH.nil))
  · rw [if_pos (by rfl)]
    go_simp
    refine (PC.out _ H10.out.2).mono ?_
    rintro e w11 ⟨hbz, s9, rfl, _⟩
    have H11 := Lib.hid (show Sx w11 b s ∧ Below w.heap.size w w11 from ⟨H10.out.1.below hbz, H10.out.2.trans (hbz.mono H10.out.2.size)⟩)
    clear hbz
    refine hK.out _ _ (SY.out _ H11.out.1) (fun hHeld => ?_)
    clear hK K H10
    try simp only [Act.put, List.getElem_toArray, List.getElem_cons_succ, List.getElem_cons_zero]
    try simp only [List.setIfInBounds_toArray]
    try simp only [List.set_cons_succ]
    try simp only [List.set_cons_zero]
    refine wpAnyH_take (i := 5) (v := .tuple #[.agg #[.int .i64 s9.c, .int .i64 s9.r, .slice s9.A s9.n s9.k, .int .i64 s9.x, .int .i64 s9.y, .bool s9.hid, .int .u8 s9.mouse, .string s9.ttl, .slice s9.T s9.m s9.q], .int .i64 E2]) rfl (by kernel_rfl) (by kernel_rfl) (by kernel_rfl) (fun _ _ _ h => h) (Or.inl ⟨by rfl, fun wz hSz => ?_⟩) hHeld ?_
    · go_simp
    simp only [Act.put, List.getElem_toArray, List.getElem_cons_succ, List.getElem_cons_zero]
    try simp only [List.setIfInBounds_toArray]
    try simp only [List.set_cons_succ]
    try simp only [List.set_cons_zero]
    refine wpAnyH_take (i := 6) (v := .agg #[.int .i64 s9.c, .int .i64 s9.r, .slice s9.A s9.n s9.k, .int .i64 s9.x, .int .i64 s9.y, .bool s9.hid, .int .u8 s9.mouse, .string s9.ttl, .slice s9.T s9.m s9.q]) rfl (by kernel_rfl) (by kernel_rfl) (by kernel_rfl) (fun _ _ _ h => h) (Or.inl ⟨by rfl, fun wz hSz => ?_⟩) hHeld ?_
    · go_simp
    simp only [Act.put, List.getElem_toArray, List.getElem_cons_succ, List.getElem_cons_zero]
    try simp only [List.setIfInBounds_toArray]
    try simp only [List.set_cons_succ]
    try simp only [List.set_cons_zero]
    refine wpAnyH_take (i := 7) (v := .int .i64 E2) rfl (by kernel_rfl) (by kernel_rfl) (by kernel_rfl) (fun _ _ _ h => h) (Or.inl ⟨by rfl, fun wz hSz => ?_⟩) hHeld ?_
    · go_simp
    simp only [Act.put, List.getElem_toArray, List.getElem_cons_succ, List.getElem_cons_zero]
    try simp only [List.setIfInBounds_toArray]
    try simp only [List.set_cons_succ]
    try simp only [List.set_cons_zero]
    refine wpAnyH_ready (rs := [8]) (by kernel_rfl) (by simp) (AllReadyH.cons rfl (fun K hK => ?_) AllReadyH.nil)
    · rw [if_pos (by rfl)]
      go_simp
      obtain ⟨b9, hb9⟩ : ∃ q, q = w11.heap.size := ⟨_, rfl⟩
      obtain ⟨w12, hw12⟩ : ∃ q, q = w11.alloc (.cells #[.int .i64 0, .int .i64 0, .slice none 0 0, .int .i64 0, .int .i64 0, .bool false, .int .u8 0, .string ⟨#[]⟩, .slice none 0 0] 25) := ⟨_, rfl⟩
      have H12 := Lib.hid (show Sx w12 b s ∧ Below w.heap.size w w12 ∧ Sx w12 b9 scN ∧ b9 ≠ b ∧ w.heap.size ≤ b9 from by
       have hbz : Below w11.heap.size w11 w12 := by rw [hw12]; exact (Below.refl _ _).alloc (Nat.le_refl _) _
       exact ⟨H11.out.1.below hbz, H11.out.2.trans (hbz.mono H11.out.2.size), by rw [hw12, hb9]; exact Sx.new w11 scN, by have := H11.out.1.lt; omega, by rw [hb9]; exact H11.out.2.size⟩)
      rw [← hw12, ← hb9]
      clear hw12 hb9
      refine hK.out _ _ (SY.out _ H12.out.1) (fun hHeld => ?_)
      clear hK K H11
      try simp only [Act.put, List.getElem_toArray, List.getElem_cons_succ, List.getElem_cons_zero]
      try simp only [List.setIfInBounds_toArray]
      try simp only [List.set_cons_succ]
      try simp only [List.set_cons_zero]
      refine wpAnyH_ready (rs := [9]) (by kernel_rfl) (by simp) (AllReadyH.cons rfl (fun K hK => ?_) AllReadyH.nil)
      rw [if_pos (by rfl)]
      refine wp_store_S (.tmp 9) (.tmp 55) rfl b9 scN s9 rfl rfl H12.out.2.2.1 ?_
      intro w13 hsx hgx
      have H13 := Lib.hid (show Sx w13 b s ∧ Below w.heap.size w w13 from ⟨H12.out.1.grown hgx (fun e => by injection e with e; exact H12.out.2.2.2.1 e), H12.out.2.1.grown hgx H12.out.2.1.size (fun k hk => by injection hk with hk; have := H12.out.2.2.2.2; omega)⟩)
      clear hsx hgx
      refine hK.out _ _ (SY.out _ H13.out.1) (fun hHeld => ?_)
      clear hK K H12
      try simp only [Act.put, List.getElem_toArray, List.getElem_cons_succ, List.getElem_cons_zero]
      try simp only [List.setIfInBounds_toArray]
      try simp only [List.set_cons_succ]
      try simp only [List.set_cons_zero]
      refine wpAnyH_take (i := 10) (v := .int .i64 E2) rfl (by kernel_rfl) (by kernel_rfl) (by kernel_rfl) (fun _ _ _ h => h) (Or.inl ⟨by rfl, fun wz hSz => ?_⟩) hHeld ?_
      · go_simp
      simp only [Act.put, List.getElem_toArray, List.getElem_cons_succ, List.getElem_cons_zero]
      try simp only [List.setIfInBounds_toArray]
      try simp only [List.set_cons_succ]
      try simp only [List.set_cons_zero]
      refine wpAnyH_done (by kernel_rfl) ?_ _
      refine NoPanic.normal ?_
      try go_wp2_with fail
      go_meet
      case rel => exact ⟨rfl, H13.out.2⟩
  · rw [if_pos (by rfl)]
    go_simp
    obtain ⟨b9, hb9⟩ : ∃ q, q = w10.heap.size := ⟨_, rfl⟩
    obtain ⟨w11, hw11⟩ : ∃ q, q = w10.alloc (.cells #[.int .i64 0, .int .i64 0, .slice none 0 0, .int .i64 0, .int .i64 0, .bool false, .int .u8 0, .string ⟨#[]⟩, .slice none 0 0] 25) := ⟨_, rfl⟩
    have H11 := Lib.hid (show Sx w11 b s ∧ Below w.heap.size w w11 ∧ Sx w11 b9 scN ∧ b9 ≠ b ∧ w.heap.size ≤ b9 from by
     have hbz : Below w10.heap.size w10 w11 := by rw [hw11]; exact (Below.refl _ _).alloc (Nat.le_refl _) _
     exact ⟨H10.out.1.below hbz, H10.out.2.trans (hbz.mono H10.out.2.size), by rw [hw11, hb9]; exact Sx.new w10 scN, by have := H10.out.1.lt; omega, by rw [hb9]; exact H10.out.2.size⟩)
    rw [← hw11, ← hb9]
    clear hw11 hb9
    refine hK.out _ _ (SY.out _ H11.out.1) (fun hHeld => ?_)
    clear hK K H10
    try simp only [Act.put, List.getElem_toArray, List.getElem_cons_succ, List.getElem_cons_zero]
    try simp only [List.setIfInBounds_toArray]
    try simp only [List.set_cons_succ]
    try simp only [List.set_cons_zero]
    refine wpAnyH_ready (rs := [4]) (by kernel_rfl) (by simp) (AllReadyH.cons rfl (fun K hK => ?_) AllReadyH.nil)
    · rw [if_pos (by rfl)]
      go_simp
      refine (PC.out _ H11.out.2.1).mono ?_
      rintro e w12 ⟨hbz, s9, rfl, _⟩
      have H12 := Lib.hid (show Sx w12 b s ∧ Below w.heap.size w w12 ∧ Sx w12 b9 scN ∧ b9 ≠ b ∧ w.heap.size ≤ b9 from ⟨H11.out.1.below hbz, H11.out.2.1.trans (hbz.mono H11.out.2.1.size), H11.out.2.2.1.below hbz, H11.out.2.2.2.1, H11.out.2.2.2.2⟩)
      clear hbz
      refine hK.out _ _ (SY.out _ H12.out.1) (fun hHeld => ?_)
      clear hK K H11
      try simp only [Act.put, List.getElem_toArray, List.getElem_cons_succ, List.getElem_cons_zero]
      try simp only [List.setIfInBounds_toArray]
      try simp only [List.set_cons_succ]
      try simp only [List.set_cons_zero]
      refine wpAnyH_take (i := 5) (v := .tuple #[.agg #[.int .i64 s9.c, .int .i64 s9.r, .slice s9.A s9.n s9.k, .int .i64 s9.x, .int .i64 s9.y, .bool s9.hid, .int .u8 s9.mouse, .string s9.ttl, .slice s9.T s9.m s9.q], .int .i64 E2]) rfl (by kernel_rfl) (by kernel_rfl) (by kernel_rfl) (fun _ _ _ h => h) (Or.inl ⟨by rfl, fun wz hSz => ?_⟩) hHeld ?_
      · go_simp
      simp only [Act.put, List.getElem_toArray, List.getElem_cons_succ, List.getElem_cons_zero]
      try simp only [List.setIfInBounds_toArray]
      try simp only [List.set_cons_succ]
      try simp only [List.set_cons_zero]
      refine wpAnyH_take (i := 6) (v := .agg #[.int .i64 s9.c, .int .i64 s9.r, .slice s9.A s9.n s9.k, .int .i64 s9.x, .int .i64 s9.y, .bool s9.hid, .int .u8 s9.mouse, .string s9.ttl, .slice s9.T s9.m s9.q]) rfl (by kernel_rfl) (by kernel_rfl) (by kernel_rfl) (fun _ _ _ h => h) (Or.inl ⟨by rfl, fun wz hSz => ?_⟩) hHeld ?_
      · go_simp
      simp only [Act.put, List.getElem_toArray, List.getElem_cons_succ, List.getElem_cons_zero]
      try simp only [List.setIfInBounds_toArray]
      try simp only [List.set_cons_succ]
      try simp only [List.set_cons_zero]
      refine wpAnyH_take (i := 7) (v := .int .i64 E2) rfl (by kernel_rfl) (by kernel_rfl) (by kernel_rfl) (fun _ _ _ h => h) (Or.inl ⟨by rfl, fun wz hSz => ?_⟩) hHeld ?_
      · go_simp
      simp only [Act.put, List.getElem_toArray, List.getElem_cons_succ, List.getElem_cons_zero]
      try simp only [List.setIfInBounds_toArray]
      try simp only [List.set_cons_succ]
      try simp only [List.set_cons_zero]
      refine wpAnyH_ready (rs := [9]) (by kernel_rfl) (by simp) (AllReadyH.cons rfl (fun K hK => ?_) AllReadyH.nil)
      rw [if_pos (by rfl)]
      refine wp_store_S (.tmp 9) (.tmp 55) rfl b9 scN s9 rfl rfl H12.out.2.2.1 ?_
      intro w13 hsx hgx
      have H13 := Lib.hid (show Sx w13 b s ∧ Below w.heap.size w w13 from ⟨H12.out.1.grown hgx (fun e => by injection e with e; exact H12.out.2.2.2.1 e), H12.out.2.1.grown hgx H12.out.2.1.size (fun k hk => by injection hk with hk; have := H12.out.2.2.2.2; omega)⟩)
      clear hsx hgx
      refine hK.out _ _ (SY.out _ H13.out.1) (fun hHeld => ?_)
      clear hK K H12
      try simp only [Act.put, List.getElem_toArray, List.getElem_cons_succ, List.getElem_cons_zero]
      try simp only [List.setIfInBounds_toArray]
      try simp only [List.set_cons_succ]
      try simp only [List.set_cons_zero]
      refine wpAnyH_take (i := 10) (v := .int .i64 E2) rfl (by kernel_rfl) (by kernel_rfl) (by kernel_rfl) (fun _ _ _ h => h) (Or.inl ⟨by rfl, fun wz hSz => ?_⟩) hHeld ?_
      · go_simp
      simp only [Act.put, List.getElem_toArray, List.getElem_cons_succ, List.getElem_cons_zero]
      try simp only [List.setIfInBounds_toArray]
      try simp only [List.set_cons_succ]
      try simp only [List.set_cons_zero]
      refine wpAnyH_done (by kernel_rfl) ?_ _
      refine NoPanic.normal ?_
      try go_wp2_with fail
      go_meet
      case rel => exact ⟨rfl, H13.out.2⟩
 case rest =>
 obtain ⟨rfl, hbw⟩ := hcut
 have HBW2 := Lib.hid hbw
 have hEb : (E2 != 0) = true := by simpa using HNE.out
 clear hbw
 go_wp2_with fail
 go_ret
 exact ⟨rfl, HBW2.out⟩
set_option maxRecDepth 100000 in
theorem lifted (os : Os) (started : os.Started) (H : Type) (enc : TypeId × Value → H) :
  ReturnsInHanded {} Tryd.checked os 4 .any (fun w args => (Rows.rowsFitSpec.pre enc Tryd.prog Tryd.f4 [] false w args ∧ laidMetH Tryd.prog laidL3 w) ∧ sizedMet enc Tryd.prog Tryd.f4 (OpenSpec.ofChange Rows.rowsFitSpec) false w args)
   (Rows.rowsFitSpec.post enc Tryd.prog Tryd.f4 false true false false) := by
 refine returnsInHanded_of_change_and (C := Tryd.checked) (X := fun w _ => laidMetH Tryd.prog laidL3 w) (fun _ _ _ hh h => h.of_heap hh) own started (by kernel_rfl) Tryd.func4
  (ChangeSpec.witness_shaped (enc := enc) (C := Tryd.checked) (os := os) (X := fun w _ => laidMetH Tryd.prog laidL3 w) false (World.laidAll Tryd.prog os laidL3) #[.agg (scrA scN), .slice none 0 0, .int .i64 0] 8 (World.laidAll_os _ _ _) (start_shaped3 os) (by kernel_rfl) (by kernel_rfl) (by kernel_rfl) (start_met3 os _)) ?_
 intro W base args ds gs before hval0 hW _ hsz0 hL _
 have hsz : (DataW.weightsEach Tryd.prog (Tryd.f4.params.toList ++ Rows.rowsFitSpec.plain.varTypes Tryd.prog) (ds ++ gs)).all (· ≤ reachBytes) = true := hsz0
 clear hsz0
 have hval : ∀ (j : Nat) t v, Tryd.f4.params[j]? = some t → args[j]? = some v → Value.okWide Tryd.prog W .any base t v := hval0
 have hW' := hW
 obtain ⟨p, q, hA0, hV, rfl, _, _⟩ := hW
 have hA : DataW.TrodAll enc Tryd.prog W 0 (fun _ => true) true Tryd.f4.params.toList args.toList ds p := hA0
 rw [Tryd.params4] at hA hval hsz
 obtain ⟨v0, vs0, d0, ds0, p0, q0, hargs, rfl, rfl, h0, r0⟩ := trodAll_cons hA
 obtain ⟨v1, vs1, d1, ds1, p1, q1, rfl, rfl, rfl, h1, r1⟩ := trodAll_cons r0
 obtain ⟨v2, vs2, d2, ds2, p2, q2, rfl, rfl, rfl, h2, r2⟩ := trodAll_cons r1
 obtain ⟨rfl, rfl, rfl⟩ := trodAll_nil r2
 obtain rfl : args = #[v0, v1, v2] := by cases args; simp_all
 obtain ⟨rfl, rfl⟩ := trodVars_none hV
 have lt0 : ∀ x ∈ p0, x.block < W.heap.size := by obtain ⟨m, hm⟩ := h0; exact DataW.trod_lt m _ _ _ hm
 obtain ⟨s0, S0, rfl, s0⟩ := open_screenR (weights_at hsz (j := 0) rfl rfl) (hval 0 25 v0 rfl rfl) h0
 have lt1 : ∀ x ∈ p1, x.block < W.heap.size := by obtain ⟨m, hm⟩ := h1; exact DataW.trod_lt m _ _ _ hm
 obtain ⟨A1, n1, c1, z1, rfl, s1, u1, l1, g1⟩ := open_bytes_c (hval 1 29 v1 rfl rfl) h1
 have m1 := g1 _ _ 1 hsz rfl rfl
 obtain ⟨a2, rfl, rfl, rfl, w2⟩ := open_int Tryd.underlying3 (hval 2 3 v2 rfl rfl) h2
 clear hA0 hval0
 refine (walk W (tabs_of_laid3 hL) s0 s1 u1 m1 l1 w2).mono fun e W' ⟨he, bel⟩ => ?_
 subst he
 exact ⟨_, rfl, _, _, _, [], _, [], hW', trodAll_mk1 (shut_bool Tryd.underlying4 _), (trodAll_cons_mk (Below.trod laidOut (by kernel_rfl) (of_decide_eq_true (by kernel_rfl)) h0 bel lt0) (trodAll_cons_mk (Below.trod laidOut (by kernel_rfl) (of_decide_eq_true (by kernel_rfl)) h1 bel lt1) (trodAll_cons_mk (shut_int Tryd.underlying3 w2) trodAll_mk0))), rfl, bel.frame _, fun h => by cases h⟩
theorem over : Rows.rowsFitRow.holds Tryd.pinned (OpenSpec.ofChange Rows.rowsFitSpec) :=
 OpenClaim.holds_of_wide 4 Tryd.f4 rfl rfl rfl rfl rfl rfl rfl ⟨rfl, rfl, rfl, rfl, rfl⟩ rfl rfl rfl rfl rfl (by kernel_rfl) Tryd.func4 (by kernel_rfl)
  (of_decide_eq_true (by kernel_rfl)) (by unfold Func.isWrapper; first | (rw [if_pos (by decide +kernel)]; kernel_rfl) | (rw [if_neg (by decide +kernel)]; exact ⟨rfl, rfl⟩))
  (fun os started H enc _ => lifted os started H enc)
theorem proved : Rows.RowsFitCardSaid :=
 Claim7.holds_tied_plain_at .later [] [.data, .data, .pinned] true Rows.rowsFitCard.stood.harness false
  over (fun _ h => by cases h) (by kernel_rfl) (fun _ h => by cases h) rowsFit_row_tie rfl ⟨rfl, rfl⟩ (by kernel_rfl) rfl
  (fun f fn hf hfn => by
   obtain rfl : f = 4 := Option.some.inj ((show Tryd.prog.funcNamed "spyglass/spyglasslaw16.RowsFit" = some 4 by kernel_rfl).symm.trans hf) |>.symm
   obtain rfl : fn = Tryd.f4 := (Option.some.inj (Tryd.func4.symm.trans hfn)).symm
   exact ⟨by kernel_rfl, fun j t ht => by
    rw [Tryd.params4] at ht
    have hm : t ∈ [25, 29, 3] := by simpa using Array.mem_of_getElem? ht
    have hall : ([25, 29, 3].all fun u => !Tryd.prog.wantsStandIn u) = true := by kernel_rfl
    exact (show Tryd.prog.wantsStandIn t = false by simpa using List.all_eq_true.1 hall t hm)⟩)
  (by kernel_rfl)
end Go.Proofs.YtikhknnhmnopbaaDoor.rowsFit
