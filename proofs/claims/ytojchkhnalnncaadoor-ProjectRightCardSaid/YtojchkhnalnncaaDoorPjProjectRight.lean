/-
  Proved: ProjectRight answers true for every screen and all features, over the tables that the library and the program lay (a tied card).
-/
import Derived.Test.YtojchkhnalnncaaDoorCards
import Derived.Test.YtojchkhnalnncaaDoorTie
import Derived.SevenTiedAt
import Derived.WalkKit
import Derived.Deep.RegionHeld3
import Derived.Test.YtojchkhnalnncaaDoorPj01
import Derived.Test.YtojchkhnalnncaaDoorPj27
namespace Go.Proofs.YtojchkhnalnncaaDoor.projectRight
open Go.ChangeShapes Go.WideShapes Go.ChangeAt Go.RowKit
set_option maxHeartbeats 6400000 in
set_option maxRecDepth 100000 in
theorem walk {s : ScR} {S : Sc} {f : Int} (w : World) (hT : Tabs w ∧ CTabs w) (h : ScIn w s S ∧ PosC S.cells) (hf : 0 ≤ f ∧ f ≤ 4294967295) :
  Calls Tryd.prog 4 #[.agg (scrA s), .int .u32 f] w fun e w' => e = .returned (.bool true) ∧ Below w.heap.size w w' := by
 have HT := Lib.hid (fun w' (hb' : Below w.heap.size w w') => And.intro (hT.1.below hb' (Nat.le_refl _)) (hT.2.below hb' (Nat.le_refl _)))
 have HF := Lib.hid (show 0 ≤ f ∧ f < 4294967296 from ⟨hf.1, by omega⟩)
 have HI := Lib.hid h.1
 have HP := Lib.hid h.2
 obtain ⟨b, hb⟩ : ∃ b, b = w.heap.size := ⟨_, rfl⟩
 obtain ⟨w1, hw1⟩ : ∃ w1, w1 = w.alloc (.cells (scrA s) 25) := ⟨_, rfl⟩
 have H1 := Lib.hid (show Sx w1 b s ∧ Below w.heap.size w w1 from by
  rw [hw1, hb]
  exact ⟨Sx.new w s, (Below.refl _ _).alloc (Nat.le_refl _) _⟩)
 obtain ⟨G, hG⟩ : ∃ G, greatS s = G := ⟨_, rfl⟩
 have PG := Lib.hid (greatP_any s w1)
 rw [hG] at PG
 have HG := Lib.hid hG
 clear h hT hf hG
 obtain ⟨a0, a1, a2, a3, a4, a5, a6, a7, a8, _⟩ := sx_cells H1.out.1
 unfold scrA at hw1 PG ⊢
 go_enter Tryd.func4, Tryd.ntmps4
 go_upto_region 1 with fail
 rw [← hw1, ← hb]
 clear hw1 hb
 go_wp2_with fail
 refine PG.out.mono ?_
 rintro e w2 ⟨rfl, hb2⟩
 have H2 := Lib.hid (show Sx w2 b s ∧ Below w.heap.size w w2 from ⟨H1.out.1.below hb2, H1.out.2.trans (hb2.mono H1.out.2.size)⟩)
 clear hb2 H1 PG a0 a1 a2 a3 a4 a5 a6 a7 a8
 cases G
 rotate_left
 · go_wp2_with fail
   refine (fixedP_any (HT.out _ H2.out.2).1 (HT.out _ H2.out.2).2).mono ?_
   rintro e w9 ⟨rfl, hb9⟩
   have Z9 := Lib.hid (Below.trans H2.out.2 (hb9.mono (Below.size H2.out.2)))
   clear hb9
   go_wp2_with fail
   go_ret
   exact ⟨rfl, Z9.out⟩
 have HN := Lib.hid (great_no HG.out)
 clear HG
 obtain ⟨a0, a1, a2, a3, a4, a5, a6, a7, a8, _⟩ := sx_cells H2.out.1
 have PR := Lib.hid (refRightS_any (HI.out.below H2.out.2) (by have := HN.out; omega) (by have := HN.out; omega))
 unfold scrA at PR
 go_wp2_with fail
 refine PR.out.mono ?_
 rintro e w3 ⟨rfl, hb3⟩
 have H3 := Lib.hid (show Sx w3 b s ∧ Below w.heap.size w w3 from ⟨H2.out.1.below hb3, H2.out.2.trans (hb3.mono H2.out.2.size)⟩)
 clear hb3 H2 PR a0 a1 a2 a3 a4 a5 a6 a7 a8
 cases hR : rightSc S
 · clear hR
   go_wp2_with fail
   refine (fixedP_any (HT.out _ H3.out.2).1 (HT.out _ H3.out.2).2).mono ?_
   rintro e w9 ⟨rfl, hb9⟩
   have Z9 := Lib.hid (Below.trans H3.out.2 (hb9.mono (Below.size H3.out.2)))
   clear hb9
   go_wp2_with fail
   go_ret
   exact ⟨rfl, Z9.out⟩
 have HR := Lib.hid hR
 clear hR
 obtain ⟨a0, a1, a2, a3, a4, a5, a6, a7, a8, _⟩ := sx_cells H3.out.1
 have PS := Lib.hid (pScreen_any (f := f) (HT.out _ H3.out.2).1 (HT.out _ H3.out.2).2 (HI.out.below H3.out.2) HP.out (by have := HN.out; omega) (by have := HN.out; omega) HF.out)
 unfold scrA at PS
 go_wp2_with fail
 refine PS.out.mono ?_
 rintro e w4 ⟨hb4, s3, rfl, hS3⟩
 obtain ⟨bp, hbp⟩ : ∃ x, x = w4.heap.size := ⟨_, rfl⟩
 obtain ⟨w5, hw5⟩ : ∃ x, x = w4.alloc (.cells (scrA s3) 25) := ⟨_, rfl⟩
 have H5 := Lib.hid (show Sx w5 b s ∧ Sx w5 bp s3 ∧ Below w.heap.size w w5 ∧ ScOwn w3.heap.size w5 s3 (projS f S) from by
  have hb : Below w4.heap.size w4 w5 := by rw [hw5]; exact (Below.refl _ _).alloc (Nat.le_refl _) _
  have h35 : Below w3.heap.size w3 w5 := hb4.trans (hb.mono hb4.size)
  exact ⟨H3.out.1.below h35, by rw [hw5, hbp]; exact Sx.new w4 s3, H3.out.2.trans (h35.mono H3.out.2.size), hS3.below hb⟩)
 clear hb4 hS3 H3 PS a0 a1 a2 a3 a4 a5 a6 a7 a8
 unfold scrA at hw5 ⊢
 go_upto_region 4 with fail
 rw [← hw5, ← hbp]
 clear hw5 hbp
 have HQ := Lib.hid (proj_size f HR.out)
 have HRP := Lib.hid (show rightSc (projS f S) = true from by rw [proj_yes HR.out]; exact scr_right HR.out)
 have HMO := Lib.hid (proj_most HR.out HF.out)
 have HAB := Lib.hid (all_bits HF.out).1
 obtain ⟨G, hG⟩ : ∃ G, bits .or .u32 f 63 = G := ⟨_, rfl⟩
 rw [hG] at HMO HAB
 have q0 : (s3.c == s.c) = true := by rw [beq_iff_eq, ← H5.out.2.2.2.sc.c, ← HI.out.c]; exact HQ.out.1
 have q1 : (s3.r == s.r) = true := by rw [beq_iff_eq, ← H5.out.2.2.2.sc.r, ← HI.out.r]; exact HQ.out.2.1
 have q2 : (s3.x == s.x) = true := by rw [beq_iff_eq, ← H5.out.2.2.2.sc.x, ← HI.out.x]; exact HQ.out.2.2.1
 have q3 : (s3.y == s.y) = true := by rw [beq_iff_eq, ← H5.out.2.2.2.sc.y, ← HI.out.y]; exact HQ.out.2.2.2
 have SX := Lib.hid (show ∀ w', Below w5.heap.size w5 w' → (Below w5.heap.size w5 w' ∧ (w'.cell? ⟨b, 0, none⟩ = some (.int .i64 s.c) ∧ w'.cell? ⟨b, 1, none⟩ = some (.int .i64 s.r) ∧ w'.cell? ⟨b, 2, none⟩ = some (.slice s.A s.n s.k) ∧ w'.cell? ⟨b, 3, none⟩ = some (.int .i64 s.x) ∧ w'.cell? ⟨b, 4, none⟩ = some (.int .i64 s.y) ∧ w'.cell? ⟨b, 5, none⟩ = some (.bool s.hid) ∧ w'.cell? ⟨b, 6, none⟩ = some (.int .u8 s.mouse) ∧ w'.cell? ⟨b, 7, none⟩ = some (.string s.ttl) ∧ w'.cell? ⟨b, 8, none⟩ = some (.slice s.T s.m s.q) ∧ w'.cell? ⟨bp, 0, none⟩ = some (.int .i64 s3.c) ∧ w'.cell? ⟨bp, 1, none⟩ = some (.int .i64 s3.r) ∧ w'.cell? ⟨bp, 2, none⟩ = some (.slice s3.A s3.n s3.k) ∧ w'.cell? ⟨bp, 3, none⟩ = some (.int .i64 s3.x) ∧ w'.cell? ⟨bp, 4, none⟩ = some (.int .i64 s3.y) ∧ w'.cell? ⟨bp, 5, none⟩ = some (.bool s3.hid) ∧ w'.cell? ⟨bp, 6, none⟩ = some (.int .u8 s3.mouse) ∧ w'.cell? ⟨bp, 7, none⟩ = some (.string s3.ttl) ∧ w'.cell? ⟨bp, 8, none⟩ = some (.slice s3.T s3.m s3.q))) from fun w' hb => by
  have t0 := sx_cells (H5.out.1.below hb)
  have t1 := sx_cells (H5.out.2.1.below hb)
  exact ⟨hb, t0.c0, t0.c1, t0.c2, t0.c3, t0.c4, t0.c5, t0.c6, t0.c7, t0.c8, t1.c0, t1.c1, t1.c2, t1.c3, t1.c4, t1.c5, t1.c6, t1.c7, t1.c8⟩)
 have P0 := Lib.hid (show ∀ w', Below w5.heap.size w5 w' → Calls Tryd.prog 9 #[] w' fun e w'' => e = .returned (.bool true) ∧ Below w5.heap.size w5 w'' from fun w' hb => (fixedP_any (HT.out _ (H5.out.2.2.1.trans (hb.mono H5.out.2.2.1.size))).1 (HT.out _ (H5.out.2.2.1.trans (hb.mono H5.out.2.2.1.size))).2).mono fun _ _ h => ⟨h.1, hb.trans (h.2.mono hb.size)⟩)
 have P1 := Lib.hid (show ∀ w', Below w5.heap.size w5 w' → Calls Tryd.prog 15 #[.agg (scrA s3)] w' fun e w'' => e = .returned (.bool true) ∧ Below w5.heap.size w5 w'' from fun w' hb => by
  refine (rightT_any (HT.out _ (H5.out.2.2.1.trans (hb.mono H5.out.2.2.1.size))).1 (H5.out.2.2.2.sc.below hb) (by have := H5.out.2.2.2.n; omega) (by have := H5.out.2.2.2.m; omega)).mono ?_
  intro e w'' h
  exact ⟨by rw [h.1, HRP.out], hb.trans (h.2.mono hb.size)⟩)
 have P2 := Lib.hid (show ∀ w', Below w5.heap.size w5 w' → Calls Tryd.prog 11 #[.agg (scrA s), .int .u32 G] w' fun e w'' => Below w5.heap.size w5 w'' ∧ ∃ s', e = .returned (.agg (scrA s')) ∧ ScIn w'' s' (S) ∧ s'.n ≤ 1920 ∧ s'.m ≤ 16 from fun w' hb => by
  refine (pScreen_any (HT.out _ (H5.out.2.2.1.trans (hb.mono H5.out.2.2.1.size))).1 (HT.out _ (H5.out.2.2.1.trans (hb.mono H5.out.2.2.1.size))).2 ((HI.out.below H5.out.2.2.1).below hb) HP.out (by have := HN.out; omega) (by have := HN.out; omega) HAB.out).mono ?_
  rintro e w'' ⟨h1, s', rfl, h2⟩
  rw [HMO.out] at h2
  exact ⟨hb.trans (h1.mono hb.size), s', rfl, h2.sc, h2.n, h2.m⟩)
 have P3 := Lib.hid (show ∀ w' s', Below w5.heap.size w5 w' → ScIn w' s' S → s'.n ≤ 1920 → s'.m ≤ 16 → Calls Tryd.prog 12 #[.agg (scrA s'), .agg (scrA s)] w' fun e w'' => e = .returned (.bool true) ∧ Below w5.heap.size w5 w'' from fun w' s' hb h1 h2 h3 => (refSameS_any h1 ((HI.out.below H5.out.2.2.1).below hb) (by omega) (by have := HN.out; omega) (by omega) (by have := HN.out; omega)).mono fun _ _ h => ⟨h.1, hb.trans (h.2.mono hb.size)⟩)
 unfold scrA at P1 P2 P3
 refine wp_region_noPanic ?_
 refine wp_region_held_drew (S := fun w' => Below w5.heap.size w5 w' ∧ (w'.cell? ⟨b, 0, none⟩ = some (.int .i64 s.c) ∧ w'.cell? ⟨b, 1, none⟩ = some (.int .i64 s.r) ∧ w'.cell? ⟨b, 2, none⟩ = some (.slice s.A s.n s.k) ∧ w'.cell? ⟨b, 3, none⟩ = some (.int .i64 s.x) ∧ w'.cell? ⟨b, 4, none⟩ = some (.int .i64 s.y) ∧ w'.cell? ⟨b, 5, none⟩ = some (.bool s.hid) ∧ w'.cell? ⟨b, 6, none⟩ = some (.int .u8 s.mouse) ∧ w'.cell? ⟨b, 7, none⟩ = some (.string s.ttl) ∧ w'.cell? ⟨b, 8, none⟩ = some (.slice s.T s.m s.q) ∧ w'.cell? ⟨bp, 0, none⟩ = some (.int .i64 s3.c) ∧ w'.cell? ⟨bp, 1, none⟩ = some (.int .i64 s3.r) ∧ w'.cell? ⟨bp, 2, none⟩ = some (.slice s3.A s3.n s3.k) ∧ w'.cell? ⟨bp, 3, none⟩ = some (.int .i64 s3.x) ∧ w'.cell? ⟨bp, 4, none⟩ = some (.int .i64 s3.y) ∧ w'.cell? ⟨bp, 5, none⟩ = some (.bool s3.hid) ∧ w'.cell? ⟨bp, 6, none⟩ = some (.int .u8 s3.mouse) ∧ w'.cell? ⟨bp, 7, none⟩ = some (.string s3.ttl) ∧ w'.cell? ⟨bp, 8, none⟩ = some (.slice s3.T s3.m s3.q))) (by kernel_rfl) (SX.out _ (Below.refl _ _).drew) (fun hHeld => ?_)
 refine wpAnyH_ready (rs := [0]) (by kernel_rfl) (by simp) (AllReadyH.cons rfl (fun K hK => ?_) AllReadyH.nil)
 rw [if_pos (by rfl)]
 go_simp
 refine (P0.out _ hHeld.1).mono ?_
 rintro e w6 ⟨rfl, hb6⟩
 refine hK.out _ _ (SX.out _ hb6) (fun hHeld => ?_)
 clear hK K
 try simp only [Act.put, List.getElem_toArray, List.getElem_cons_succ, List.getElem_cons_zero]
 try simp only [List.setIfInBounds_toArray]
 try simp only [List.set_cons_succ]
 try simp only [List.set_cons_zero]
 refine wpAnyH_take (i := 1) (v := .bool true) rfl (by kernel_rfl) (by kernel_rfl) (by kernel_rfl) (fun _ _ _ h => h) (Or.inl ⟨by rfl, fun wz hSz => ?_⟩) hHeld ?_
 · go_simp
 simp only [Act.put, List.getElem_toArray, List.getElem_cons_succ, List.getElem_cons_zero]
 try simp only [List.setIfInBounds_toArray]
 try simp only [List.set_cons_succ]
 try simp only [List.set_cons_zero]
 refine wpAnyH_take (i := 2) (v := .agg #[.int .i64 s3.c, .int .i64 s3.r, .slice s3.A s3.n s3.k, .int .i64 s3.x, .int .i64 s3.y, .bool s3.hid, .int .u8 s3.mouse, .string s3.ttl, .slice s3.T s3.m s3.q]) rfl (by kernel_rfl) (by kernel_rfl) (by kernel_rfl) (fun _ _ _ h => h) (Or.inl ⟨by rfl, fun wz hSz => ?_⟩) hHeld ?_
 · obtain ⟨_, e0, e1, e2, e3, e4, e5, e6, e7, e8, e9, e10, e11, e12, e13, e14, e15, e16, e17⟩ := hSz
   go_simp
 simp only [Act.put, List.getElem_toArray, List.getElem_cons_succ, List.getElem_cons_zero]
 try simp only [List.setIfInBounds_toArray]
 try simp only [List.set_cons_succ]
 try simp only [List.set_cons_zero]
 refine wpAnyH_ready (rs := [3]) (by kernel_rfl) (by simp) (AllReadyH.cons rfl (fun K hK => ?_) AllReadyH.nil)
 rw [if_pos (by rfl)]
 go_simp
 refine (P1.out _ hHeld.1).mono ?_
 rintro e w7 ⟨rfl, hb7⟩
 refine hK.out _ _ (SX.out _ hb7) (fun hHeld => ?_)
 clear hK K
 try simp only [Act.put, List.getElem_toArray, List.getElem_cons_succ, List.getElem_cons_zero]
 try simp only [List.setIfInBounds_toArray]
 try simp only [List.set_cons_succ]
 try simp only [List.set_cons_zero]
 refine wpAnyH_take (i := 4) (v := .bool true) rfl (by kernel_rfl) (by kernel_rfl) (by kernel_rfl) (fun _ _ _ h => h) (Or.inl ⟨by rfl, fun wz hSz => ?_⟩) hHeld ?_
 · go_simp
 simp only [Act.put, List.getElem_toArray, List.getElem_cons_succ, List.getElem_cons_zero]
 try simp only [List.setIfInBounds_toArray]
 try simp only [List.set_cons_succ]
 try simp only [List.set_cons_zero]
 refine wpAnyH_take (i := 5) (v := .bool true) rfl (by kernel_rfl) (by kernel_rfl) (by kernel_rfl) (fun _ _ _ h => h) (Or.inl ⟨by rfl, fun wz hSz => ?_⟩) hHeld ?_
 · go_simp
 simp only [Act.put, List.getElem_toArray, List.getElem_cons_succ, List.getElem_cons_zero]
 try simp only [List.setIfInBounds_toArray]
 try simp only [List.set_cons_succ]
 try simp only [List.set_cons_zero]
 refine wpAnyH_take (i := 6) (v := .agg #[.int .i64 s.c, .int .i64 s.r, .slice s.A s.n s.k, .int .i64 s.x, .int .i64 s.y, .bool s.hid, .int .u8 s.mouse, .string s.ttl, .slice s.T s.m s.q]) rfl (by kernel_rfl) (by kernel_rfl) (by kernel_rfl) (fun _ _ _ h => h) (Or.inl ⟨by rfl, fun wz hSz => ?_⟩) hHeld ?_
 · obtain ⟨_, e0, e1, e2, e3, e4, e5, e6, e7, e8, e9, e10, e11, e12, e13, e14, e15, e16, e17⟩ := hSz
   go_simp
 simp only [Act.put, List.getElem_toArray, List.getElem_cons_succ, List.getElem_cons_zero]
 try simp only [List.setIfInBounds_toArray]
 try simp only [List.set_cons_succ]
 try simp only [List.set_cons_zero]
 refine wpAnyH_take (i := 7) (v := .int .u32 f) rfl (by kernel_rfl) (by kernel_rfl) (by kernel_rfl) (fun _ _ _ h => h) (Or.inl ⟨by rfl, fun wz hSz => ?_⟩) hHeld ?_
 · go_simp
 simp only [Act.put, List.getElem_toArray, List.getElem_cons_succ, List.getElem_cons_zero]
 try simp only [List.setIfInBounds_toArray]
 try simp only [List.set_cons_succ]
 try simp only [List.set_cons_zero]
 refine wpAnyH_take (i := 8) (v := .int .u32 G) rfl (by kernel_rfl) (by kernel_rfl) (by kernel_rfl) (fun _ _ _ h => h) (Or.inl ⟨by rfl, fun wz hSz => ?_⟩) hHeld ?_
 · go_simp
 simp only [Act.put, List.getElem_toArray, List.getElem_cons_succ, List.getElem_cons_zero]
 try simp only [List.setIfInBounds_toArray]
 try simp only [List.set_cons_succ]
 try simp only [List.set_cons_zero]
 refine wpAnyH_take (i := 10) (v := .agg #[.int .i64 s.c, .int .i64 s.r, .slice s.A s.n s.k, .int .i64 s.x, .int .i64 s.y, .bool s.hid, .int .u8 s.mouse, .string s.ttl, .slice s.T s.m s.q]) rfl (by kernel_rfl) (by kernel_rfl) (by kernel_rfl) (fun _ _ _ h => h) (Or.inl ⟨by rfl, fun wz hSz => ?_⟩) hHeld ?_
 · obtain ⟨_, e0, e1, e2, e3, e4, e5, e6, e7, e8, e9, e10, e11, e12, e13, e14, e15, e16, e17⟩ := hSz
   go_simp
 simp only [Act.put, List.getElem_toArray, List.getElem_cons_succ, List.getElem_cons_zero]
 try simp only [List.setIfInBounds_toArray]
 try simp only [List.set_cons_succ]
 try simp only [List.set_cons_zero]
 refine wpAnyH_ready (rs := [9]) (by kernel_rfl) (by simp) (AllReadyH.cons rfl (fun K hK => ?_) AllReadyH.nil)
 rw [if_pos (by rfl)]
 go_simp
 refine (P2.out _ hHeld.1).mono ?_
 rintro e w8 ⟨hb8, s8, rfl, hS8, hn8, hm8⟩
 have H8 := Lib.hid (And.intro hb8 (And.intro hS8 (And.intro hn8 hm8)))
 refine hK.out _ _ (SX.out _ hb8) (fun hHeld => ?_)
 clear hK K
 try simp only [Act.put, List.getElem_toArray, List.getElem_cons_succ, List.getElem_cons_zero]
 try simp only [List.setIfInBounds_toArray]
 try simp only [List.set_cons_succ]
 try simp only [List.set_cons_zero]
 clear hb8 hS8 hn8 hm8
 refine wpAnyH_ready (rs := [11]) (by kernel_rfl) (by simp) (AllReadyH.cons rfl (fun K hK => ?_) AllReadyH.nil)
 rw [if_pos (by rfl)]
 go_simp
 refine (P3.out _ s8 H8.out.1 H8.out.2.1 H8.out.2.2.1 H8.out.2.2.2).mono ?_
 rintro e w9 ⟨rfl, hb9⟩
 refine hK.out _ _ (SX.out _ hb9) (fun hHeld => ?_)
 clear hK K
 try simp only [Act.put, List.getElem_toArray, List.getElem_cons_succ, List.getElem_cons_zero]
 try simp only [List.setIfInBounds_toArray]
 try simp only [List.set_cons_succ]
 try simp only [List.set_cons_zero]
 have H9 := Lib.hid hb9
 clear hb9 P0 P1 P2 P3 H8
 refine wpAnyH_take (i := 12) (v := .bool true) rfl (by kernel_rfl) (by kernel_rfl) (by kernel_rfl) (fun _ _ _ h => h) (Or.inl ⟨by rfl, fun wz hSz => ?_⟩) hHeld ?_
 · go_simp
 simp only [Act.put, List.getElem_toArray, List.getElem_cons_succ, List.getElem_cons_zero]
 try simp only [List.setIfInBounds_toArray]
 try simp only [List.set_cons_succ]
 try simp only [List.set_cons_zero]
 refine wpAnyH_take (i := 13) (v := .bool true) rfl (by kernel_rfl) (by kernel_rfl) (by kernel_rfl) (fun _ _ _ h => h) (Or.inl ⟨by rfl, fun wz hSz => ?_⟩) hHeld ?_
 · go_simp
 simp only [Act.put, List.getElem_toArray, List.getElem_cons_succ, List.getElem_cons_zero]
 try simp only [List.setIfInBounds_toArray]
 try simp only [List.set_cons_succ]
 try simp only [List.set_cons_zero]
 refine wpAnyH_take (i := 14) (v := .pointer (some ⟨bp, 0, none⟩)) rfl (by kernel_rfl) (by kernel_rfl) (by kernel_rfl) (fun _ _ _ h => h) (Or.inl ⟨by rfl, fun wz hSz => ?_⟩) hHeld ?_
 · go_simp
 simp only [Act.put, List.getElem_toArray, List.getElem_cons_succ, List.getElem_cons_zero]
 try simp only [List.setIfInBounds_toArray]
 try simp only [List.set_cons_succ]
 try simp only [List.set_cons_zero]
 refine wpAnyH_take (i := 15) (v := .int .i64 s3.c) rfl (by kernel_rfl) (by kernel_rfl) (by kernel_rfl) (fun _ _ _ h => h) (Or.inl ⟨by rfl, fun wz hSz => ?_⟩) hHeld ?_
 · obtain ⟨_, e0, e1, e2, e3, e4, e5, e6, e7, e8, e9, e10, e11, e12, e13, e14, e15, e16, e17⟩ := hSz
   go_simp
 simp only [Act.put, List.getElem_toArray, List.getElem_cons_succ, List.getElem_cons_zero]
 try simp only [List.setIfInBounds_toArray]
 try simp only [List.set_cons_succ]
 try simp only [List.set_cons_zero]
 refine wpAnyH_take (i := 16) (v := .pointer (some ⟨b, 0, none⟩)) rfl (by kernel_rfl) (by kernel_rfl) (by kernel_rfl) (fun _ _ _ h => h) (Or.inl ⟨by rfl, fun wz hSz => ?_⟩) hHeld ?_
 · go_simp
 simp only [Act.put, List.getElem_toArray, List.getElem_cons_succ, List.getElem_cons_zero]
 try simp only [List.setIfInBounds_toArray]
 try simp only [List.set_cons_succ]
 try simp only [List.set_cons_zero]
 refine wpAnyH_take (i := 17) (v := .int .i64 s.c) rfl (by kernel_rfl) (by kernel_rfl) (by kernel_rfl) (fun _ _ _ h => h) (Or.inl ⟨by rfl, fun wz hSz => ?_⟩) hHeld ?_
 · obtain ⟨_, e0, e1, e2, e3, e4, e5, e6, e7, e8, e9, e10, e11, e12, e13, e14, e15, e16, e17⟩ := hSz
   go_simp
 simp only [Act.put, List.getElem_toArray, List.getElem_cons_succ, List.getElem_cons_zero]
 try simp only [List.setIfInBounds_toArray]
 try simp only [List.set_cons_succ]
 try simp only [List.set_cons_zero]
 refine wpAnyH_take (i := 18) (v := .bool true) rfl (by kernel_rfl) (by kernel_rfl) (by kernel_rfl) (fun _ _ _ h => h) (Or.inl ⟨by rfl, fun wz hSz => ?_⟩) hHeld ?_
 · go_simp
 simp only [Act.put, List.getElem_toArray, List.getElem_cons_succ, List.getElem_cons_zero]
 try simp only [List.setIfInBounds_toArray]
 try simp only [List.set_cons_succ]
 try simp only [List.set_cons_zero]
 refine wpAnyH_take (i := 19) (v := .bool true) rfl (by kernel_rfl) (by kernel_rfl) (by kernel_rfl) (fun _ _ _ h => h) (Or.inl ⟨by rfl, fun wz hSz => ?_⟩) hHeld ?_
 · go_simp
 simp only [Act.put, List.getElem_toArray, List.getElem_cons_succ, List.getElem_cons_zero]
 try simp only [List.setIfInBounds_toArray]
 try simp only [List.set_cons_succ]
 try simp only [List.set_cons_zero]
 refine wpAnyH_take (i := 20) (v := .bool true) rfl (by kernel_rfl) (by kernel_rfl) (by kernel_rfl) (fun _ _ _ h => h) (Or.inl ⟨by rfl, fun wz hSz => ?_⟩) hHeld ?_
 · go_simp
 simp only [Act.put, List.getElem_toArray, List.getElem_cons_succ, List.getElem_cons_zero]
 try simp only [List.setIfInBounds_toArray]
 try simp only [List.set_cons_succ]
 try simp only [List.set_cons_zero]
 refine wpAnyH_take (i := 21) (v := .pointer (some ⟨bp, 1, none⟩)) rfl (by kernel_rfl) (by kernel_rfl) (by kernel_rfl) (fun _ _ _ h => h) (Or.inl ⟨by rfl, fun wz hSz => ?_⟩) hHeld ?_
 · go_simp
 simp only [Act.put, List.getElem_toArray, List.getElem_cons_succ, List.getElem_cons_zero]
 try simp only [List.setIfInBounds_toArray]
 try simp only [List.set_cons_succ]
 try simp only [List.set_cons_zero]
 refine wpAnyH_take (i := 22) (v := .int .i64 s3.r) rfl (by kernel_rfl) (by kernel_rfl) (by kernel_rfl) (fun _ _ _ h => h) (Or.inl ⟨by rfl, fun wz hSz => ?_⟩) hHeld ?_
 · obtain ⟨_, e0, e1, e2, e3, e4, e5, e6, e7, e8, e9, e10, e11, e12, e13, e14, e15, e16, e17⟩ := hSz
   go_simp
 simp only [Act.put, List.getElem_toArray, List.getElem_cons_succ, List.getElem_cons_zero]
 try simp only [List.setIfInBounds_toArray]
 try simp only [List.set_cons_succ]
 try simp only [List.set_cons_zero]
 refine wpAnyH_take (i := 23) (v := .pointer (some ⟨b, 1, none⟩)) rfl (by kernel_rfl) (by kernel_rfl) (by kernel_rfl) (fun _ _ _ h => h) (Or.inl ⟨by rfl, fun wz hSz => ?_⟩) hHeld ?_
 · go_simp
 simp only [Act.put, List.getElem_toArray, List.getElem_cons_succ, List.getElem_cons_zero]
 try simp only [List.setIfInBounds_toArray]
 try simp only [List.set_cons_succ]
 try simp only [List.set_cons_zero]
 refine wpAnyH_take (i := 24) (v := .int .i64 s.r) rfl (by kernel_rfl) (by kernel_rfl) (by kernel_rfl) (fun _ _ _ h => h) (Or.inl ⟨by rfl, fun wz hSz => ?_⟩) hHeld ?_
 · obtain ⟨_, e0, e1, e2, e3, e4, e5, e6, e7, e8, e9, e10, e11, e12, e13, e14, e15, e16, e17⟩ := hSz
   go_simp
 simp only [Act.put, List.getElem_toArray, List.getElem_cons_succ, List.getElem_cons_zero]
 try simp only [List.setIfInBounds_toArray]
 try simp only [List.set_cons_succ]
 try simp only [List.set_cons_zero]
 refine wpAnyH_take (i := 25) (v := .bool true) rfl (by kernel_rfl) (by kernel_rfl) (by kernel_rfl) (fun _ _ _ h => h) (Or.inl ⟨by rfl, fun wz hSz => ?_⟩) hHeld ?_
 · go_simp
 simp only [Act.put, List.getElem_toArray, List.getElem_cons_succ, List.getElem_cons_zero]
 try simp only [List.setIfInBounds_toArray]
 try simp only [List.set_cons_succ]
 try simp only [List.set_cons_zero]
 refine wpAnyH_take (i := 26) (v := .bool true) rfl (by kernel_rfl) (by kernel_rfl) (by kernel_rfl) (fun _ _ _ h => h) (Or.inl ⟨by rfl, fun wz hSz => ?_⟩) hHeld ?_
 · go_simp
 simp only [Act.put, List.getElem_toArray, List.getElem_cons_succ, List.getElem_cons_zero]
 try simp only [List.setIfInBounds_toArray]
 try simp only [List.set_cons_succ]
 try simp only [List.set_cons_zero]
 refine wpAnyH_take (i := 27) (v := .bool true) rfl (by kernel_rfl) (by kernel_rfl) (by kernel_rfl) (fun _ _ _ h => h) (Or.inl ⟨by rfl, fun wz hSz => ?_⟩) hHeld ?_
 · go_simp
 simp only [Act.put, List.getElem_toArray, List.getElem_cons_succ, List.getElem_cons_zero]
 try simp only [List.setIfInBounds_toArray]
 try simp only [List.set_cons_succ]
 try simp only [List.set_cons_zero]
 refine wpAnyH_take (i := 28) (v := .pointer (some ⟨bp, 3, none⟩)) rfl (by kernel_rfl) (by kernel_rfl) (by kernel_rfl) (fun _ _ _ h => h) (Or.inl ⟨by rfl, fun wz hSz => ?_⟩) hHeld ?_
 · go_simp
 simp only [Act.put, List.getElem_toArray, List.getElem_cons_succ, List.getElem_cons_zero]
 try simp only [List.setIfInBounds_toArray]
 try simp only [List.set_cons_succ]
 try simp only [List.set_cons_zero]
 refine wpAnyH_take (i := 29) (v := .int .i64 s3.x) rfl (by kernel_rfl) (by kernel_rfl) (by kernel_rfl) (fun _ _ _ h => h) (Or.inl ⟨by rfl, fun wz hSz => ?_⟩) hHeld ?_
 · obtain ⟨_, e0, e1, e2, e3, e4, e5, e6, e7, e8, e9, e10, e11, e12, e13, e14, e15, e16, e17⟩ := hSz
   go_simp
 simp only [Act.put, List.getElem_toArray, List.getElem_cons_succ, List.getElem_cons_zero]
 try simp only [List.setIfInBounds_toArray]
 try simp only [List.set_cons_succ]
 try simp only [List.set_cons_zero]
 refine wpAnyH_take (i := 30) (v := .pointer (some ⟨b, 3, none⟩)) rfl (by kernel_rfl) (by kernel_rfl) (by kernel_rfl) (fun _ _ _ h => h) (Or.inl ⟨by rfl, fun wz hSz => ?_⟩) hHeld ?_
 · go_simp
 simp only [Act.put, List.getElem_toArray, List.getElem_cons_succ, List.getElem_cons_zero]
 try simp only [List.setIfInBounds_toArray]
 try simp only [List.set_cons_succ]
 try simp only [List.set_cons_zero]
 refine wpAnyH_take (i := 31) (v := .int .i64 s.x) rfl (by kernel_rfl) (by kernel_rfl) (by kernel_rfl) (fun _ _ _ h => h) (Or.inl ⟨by rfl, fun wz hSz => ?_⟩) hHeld ?_
 · obtain ⟨_, e0, e1, e2, e3, e4, e5, e6, e7, e8, e9, e10, e11, e12, e13, e14, e15, e16, e17⟩ := hSz
   go_simp
 simp only [Act.put, List.getElem_toArray, List.getElem_cons_succ, List.getElem_cons_zero]
 try simp only [List.setIfInBounds_toArray]
 try simp only [List.set_cons_succ]
 try simp only [List.set_cons_zero]
 refine wpAnyH_take (i := 32) (v := .bool true) rfl (by kernel_rfl) (by kernel_rfl) (by kernel_rfl) (fun _ _ _ h => h) (Or.inl ⟨by rfl, fun wz hSz => ?_⟩) hHeld ?_
 · go_simp
 simp only [Act.put, List.getElem_toArray, List.getElem_cons_succ, List.getElem_cons_zero]
 try simp only [List.setIfInBounds_toArray]
 try simp only [List.set_cons_succ]
 try simp only [List.set_cons_zero]
 refine wpAnyH_take (i := 33) (v := .bool true) rfl (by kernel_rfl) (by kernel_rfl) (by kernel_rfl) (fun _ _ _ h => h) (Or.inl ⟨by rfl, fun wz hSz => ?_⟩) hHeld ?_
 · go_simp
 simp only [Act.put, List.getElem_toArray, List.getElem_cons_succ, List.getElem_cons_zero]
 try simp only [List.setIfInBounds_toArray]
 try simp only [List.set_cons_succ]
 try simp only [List.set_cons_zero]
 refine wpAnyH_take (i := 34) (v := .bool true) rfl (by kernel_rfl) (by kernel_rfl) (by kernel_rfl) (fun _ _ _ h => h) (Or.inl ⟨by rfl, fun wz hSz => ?_⟩) hHeld ?_
 · go_simp
 simp only [Act.put, List.getElem_toArray, List.getElem_cons_succ, List.getElem_cons_zero]
 try simp only [List.setIfInBounds_toArray]
 try simp only [List.set_cons_succ]
 try simp only [List.set_cons_zero]
 refine wpAnyH_take (i := 35) (v := .pointer (some ⟨bp, 4, none⟩)) rfl (by kernel_rfl) (by kernel_rfl) (by kernel_rfl) (fun _ _ _ h => h) (Or.inl ⟨by rfl, fun wz hSz => ?_⟩) hHeld ?_
 · go_simp
 simp only [Act.put, List.getElem_toArray, List.getElem_cons_succ, List.getElem_cons_zero]
 try simp only [List.setIfInBounds_toArray]
 try simp only [List.set_cons_succ]
 try simp only [List.set_cons_zero]
 refine wpAnyH_take (i := 36) (v := .int .i64 s3.y) rfl (by kernel_rfl) (by kernel_rfl) (by kernel_rfl) (fun _ _ _ h => h) (Or.inl ⟨by rfl, fun wz hSz => ?_⟩) hHeld ?_
 · obtain ⟨_, e0, e1, e2, e3, e4, e5, e6, e7, e8, e9, e10, e11, e12, e13, e14, e15, e16, e17⟩ := hSz
   go_simp
 simp only [Act.put, List.getElem_toArray, List.getElem_cons_succ, List.getElem_cons_zero]
 try simp only [List.setIfInBounds_toArray]
 try simp only [List.set_cons_succ]
 try simp only [List.set_cons_zero]
 refine wpAnyH_take (i := 37) (v := .pointer (some ⟨b, 4, none⟩)) rfl (by kernel_rfl) (by kernel_rfl) (by kernel_rfl) (fun _ _ _ h => h) (Or.inl ⟨by rfl, fun wz hSz => ?_⟩) hHeld ?_
 · go_simp
 simp only [Act.put, List.getElem_toArray, List.getElem_cons_succ, List.getElem_cons_zero]
 try simp only [List.setIfInBounds_toArray]
 try simp only [List.set_cons_succ]
 try simp only [List.set_cons_zero]
 refine wpAnyH_take (i := 38) (v := .int .i64 s.y) rfl (by kernel_rfl) (by kernel_rfl) (by kernel_rfl) (fun _ _ _ h => h) (Or.inl ⟨by rfl, fun wz hSz => ?_⟩) hHeld ?_
 · obtain ⟨_, e0, e1, e2, e3, e4, e5, e6, e7, e8, e9, e10, e11, e12, e13, e14, e15, e16, e17⟩ := hSz
   go_simp
 simp only [Act.put, List.getElem_toArray, List.getElem_cons_succ, List.getElem_cons_zero]
 try simp only [List.setIfInBounds_toArray]
 try simp only [List.set_cons_succ]
 try simp only [List.set_cons_zero]
 refine wpAnyH_take (i := 39) (v := .bool true) rfl (by kernel_rfl) (by kernel_rfl) (by kernel_rfl) (fun _ _ _ h => h) (Or.inl ⟨by rfl, fun wz hSz => ?_⟩) hHeld ?_
 · go_simp
 simp only [Act.put, List.getElem_toArray, List.getElem_cons_succ, List.getElem_cons_zero]
 try simp only [List.setIfInBounds_toArray]
 try simp only [List.set_cons_succ]
 try simp only [List.set_cons_zero]
 refine wpAnyH_take (i := 40) (v := .bool true) rfl (by kernel_rfl) (by kernel_rfl) (by kernel_rfl) (fun _ _ _ h => h) (Or.inl ⟨by rfl, fun wz hSz => ?_⟩) hHeld ?_
 · go_simp
 simp only [Act.put, List.getElem_toArray, List.getElem_cons_succ, List.getElem_cons_zero]
 try simp only [List.setIfInBounds_toArray]
 try simp only [List.set_cons_succ]
 try simp only [List.set_cons_zero]
 refine wpAnyH_take (i := 41) (v := .bool true) rfl (by kernel_rfl) (by kernel_rfl) (by kernel_rfl) (fun _ _ _ h => h) (Or.inl ⟨by rfl, fun wz hSz => ?_⟩) hHeld ?_
 · go_simp
 simp only [Act.put, List.getElem_toArray, List.getElem_cons_succ, List.getElem_cons_zero]
 try simp only [List.setIfInBounds_toArray]
 try simp only [List.set_cons_succ]
 try simp only [List.set_cons_zero]
 refine wpAnyH_done (by kernel_rfl) ?_ _
 refine NoPanic.normal ?_
 go_wp2_with fail
 go_ret
 exact ⟨rfl, H5.out.2.2.1.trans (H9.out.mono H5.out.2.2.1.size)⟩
set_option maxRecDepth 100000 in
theorem lifted (os : Os) (started : os.Started) (H : Type) (enc : TypeId × Value → H) :
  ReturnsInHanded {} Tryd.checked os 4 .any (fun w args => (Rows.projectRightSpec.pre enc Tryd.prog Tryd.f4 [] false w args ∧ laidMetH Tryd.prog laidL w) ∧ sizedMet enc Tryd.prog Tryd.f4 (OpenSpec.ofChange Rows.projectRightSpec) false w args)
   (Rows.projectRightSpec.post enc Tryd.prog Tryd.f4 false true false false) := by
 refine returnsInHanded_of_change_and (C := Tryd.checked) (X := fun w _ => laidMetH Tryd.prog laidL w) (fun _ _ _ hh h => h.of_heap hh) own started (by kernel_rfl) Tryd.func4
  (ChangeSpec.witness_shaped (enc := enc) (C := Tryd.checked) (os := os) (X := fun w _ => laidMetH Tryd.prog laidL w) false (World.laidAll Tryd.prog os laidL) #[.agg (scrA scN), .int .u32 0] 8 (World.laidAll_os _ _ _) (start_shaped os) (by kernel_rfl) (by kernel_rfl) (by kernel_rfl) (start_met os _)) ?_
 intro W base args ds gs before hval0 hW _ hsz0 hL _
 have hsz : (DataW.weightsEach Tryd.prog (Tryd.f4.params.toList ++ Rows.projectRightSpec.plain.varTypes Tryd.prog) (ds ++ gs)).all (· ≤ reachBytes) = true := hsz0
 clear hsz0
 have hval : ∀ (j : Nat) t v, Tryd.f4.params[j]? = some t → args[j]? = some v → Value.okWide Tryd.prog W .any base t v := hval0
 have hW' := hW
 obtain ⟨p, q, hA0, hV, rfl, _, _⟩ := hW
 have hA : DataW.TrodAll enc Tryd.prog W 0 (fun _ => true) true Tryd.f4.params.toList args.toList ds p := hA0
 rw [Tryd.params4] at hA hval hsz
 obtain ⟨v0, vs0, d0, ds0, p0, q0, hargs, rfl, rfl, h0, r0⟩ := trodAll_cons hA
 obtain ⟨v1, vs1, d1, ds1, p1, q1, rfl, rfl, rfl, h1, r1⟩ := trodAll_cons r0
 obtain ⟨rfl, rfl, rfl⟩ := trodAll_nil r1
 obtain rfl : args = #[v0, v1] := by cases args; simp_all
 obtain ⟨rfl, rfl⟩ := trodVars_none hV
 have lt0 : ∀ x ∈ p0, x.block < W.heap.size := by obtain ⟨m, hm⟩ := h0; exact DataW.trod_lt m _ _ _ hm
 obtain ⟨s0, S0, rfl, s0⟩ := open_screenP (weights_at hsz (j := 0) rfl rfl) (hval 0 25 v0 rfl rfl) h0
 have lt1 : ∀ x ∈ p1, x.block < W.heap.size := by obtain ⟨m, hm⟩ := h1; exact DataW.trod_lt m _ _ _ hm
 obtain ⟨k1, rfl, s1⟩ := open_u32h (hval 1 26 v1 rfl rfl) h1
 clear hA0 hval0
 refine (walk W (both_of_laid hL) s0 s1).mono fun e W' ⟨he, bel⟩ => ?_
 subst he
 exact ⟨_, rfl, _, _, _, [], _, [], hW', trodAll_mk1 (shut_bool Tryd.underlying4 _), (trodAll_cons_mk (Below.trod laidOut (by kernel_rfl) (of_decide_eq_true (by kernel_rfl)) h0 bel lt0) (trodAll_cons_mk (Below.trod laidOut (by kernel_rfl) (of_decide_eq_true (by kernel_rfl)) h1 bel lt1) trodAll_mk0)), rfl, bel.frame _, fun h => by cases h⟩
theorem over : Rows.projectRightRow.holds Tryd.pinned (OpenSpec.ofChange Rows.projectRightSpec) :=
 OpenClaim.holds_of_wide 4 Tryd.f4 rfl rfl rfl rfl rfl rfl rfl ⟨rfl, rfl, rfl, rfl, rfl⟩ rfl rfl rfl rfl rfl (by kernel_rfl) Tryd.func4 (by kernel_rfl)
  (of_decide_eq_true (by kernel_rfl)) (by unfold Func.isWrapper; first | (rw [if_pos (by decide +kernel)]; kernel_rfl) | (rw [if_neg (by decide +kernel)]; exact ⟨rfl, rfl⟩))
  (fun os started H enc _ => lifted os started H enc)
theorem proved : Rows.ProjectRightCardSaid :=
 Claim7.holds_tied_plain_at .later [] [.data, .data, .data, .data, .pinned] true Rows.projectRightCard.stood.harness false
  over (fun _ h => by cases h) (by kernel_rfl) (fun _ h => by cases h) projectRight_row_tie rfl ⟨rfl, rfl⟩ (by kernel_rfl) rfl
  (fun f fn hf hfn => by
   obtain rfl : f = 4 := Option.some.inj ((show Tryd.prog.funcNamed "spyglass/spyglasslaw15.ProjectRight" = some 4 by kernel_rfl).symm.trans hf) |>.symm
   obtain rfl : fn = Tryd.f4 := (Option.some.inj (Tryd.func4.symm.trans hfn)).symm
   exact ⟨by kernel_rfl, fun j t ht => by
    rw [Tryd.params4] at ht
    have hm : t ∈ [25, 26] := by simpa using Array.mem_of_getElem? ht
    have hall : ([25, 26].all fun u => !Tryd.prog.wantsStandIn u) = true := by kernel_rfl
    exact (show Tryd.prog.wantsStandIn t = false by simpa using List.all_eq_true.1 hall t hm)⟩)
  (by kernel_rfl)
end Go.Proofs.YtojchkhnalnncaaDoor.projectRight
